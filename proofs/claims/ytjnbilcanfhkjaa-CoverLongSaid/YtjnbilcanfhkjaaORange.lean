/- A loop over an iterator that makes memory of its own between the rounds; and a drawn region within a round, walked as anywhere. -/
import Derived.Test.YtjnbilcanfhkjaaTPut
import Derived.Deep.RegionHeld3
namespace Go.Proofs.Ytjnbilcanfhkjaa
open Go.RowKit Go.Maps Go.Shelf

/-- What an iterator promises that hands out N things by their place, whatever is done with them: J k G: k rounds are over, and what they wrote lies in the blocks G. -/
def SeqG (F : Fence) (P : Program) (gf : Nat) (lb : Array Value) (encs : Nat → Array Value) (N : Nat) (Rd : World → Prop) : Prop :=
  ∀ (m l : Nat) (J : Nat → (Nat → Prop) → World → Prop) (G0 : Nat → Prop) (W : World),
    (∀ k G V, J k G V → Rd V ∧ ∀ i, G i → i < V.heap.size) →
    (∀ k G V V', J k G V → Below V.heap.size V V' → J k G V') →
    (∀ k G V, J k G V → k < N → YieldAt F (m - 1) P l (encs k) V fun e V' => e = .returned (.bool true) ∧ ∃ G', J (k + 1) G' V' ∧ Kept G V V' ∧ ∀ i, G' i → G i ∨ V.heap.size ≤ i) →
    1 ≤ m → J 0 G0 W →
    CallsIn F m P gf (#[.func (.yield l) #[] #[]] ++ lb) W fun e V' => (∃ v, e = .returned v) ∧ ∃ G, J N G V'

/-- How a round ends. -/
def endG (J : Nat → (Nat → Prop) → World → Prop) (k : Nat) (G : Nat → Prop) (n : Nat) (W : World) : Exit → Act → World → Prop
  | .normal, _, W' => ∃ G', J (k + 1) G' W' ∧ Kept G W W' ∧ ∀ i, G' i → G i ∨ n ≤ i
  | _, _, _ => False

theorem range_lawG {F : Fence} {n : Nat} {P : Program} {g : Operand} {ps : Array Tmp} {assign body : Code} {Q : Exit → Act → World → Prop} {a : Act} {w : World}
    (hro : F.round = none) (h1 : 2 ≤ n) {gf : Nat} {lb : Array Value} (hg : a.eval g = .func (.func gf) #[] lb) (hFg : F.fn gf) (eg : Enters P gf)
    {encs : Nat → Array Value} {N : Nat} {Rd : World → Prop} (hseq : SeqG F P gf lb encs N Rd) (hps : ∀ k, (encs k).size = ps.size)
    (J : Nat → (Nat → Prop) → World → Prop) (hRd : ∀ k G W, J k G W → Rd W ∧ ∀ i, G i → i < W.heap.size)
    (hbel : ∀ k G W W', J k G W → Below W.heap.size W W' → J k G W')
    (hnot : ∀ k G W, J k G W → ¬ G w.heap.size ∧ ¬ G (w.heap.size + 1))
    (G0 : Nat → Prop) (h0 : ∀ r, J 0 G0 ((w.alloc (.deferred (some []))).alloc (.loop r)))
    (hJ : ∀ k G W o, J k G W → J k G (W.putObj (w.heap.size + 1) o))
    (a₁ : Nat → Nat → Act) (asg : Nat → World → World) (hasg : ∀ k W, Below W.heap.size W (asg k W))
    (hassign : ∀ (l k : Nat) (W : World) (K : Act → World → Prop), K (a₁ k W.heap.size) (asg k W) →
      assign.wpIn (F.inRound l) (n - 1 - 1) P (Exit.then K (fun _ _ _ => False)) { tmps := (ps.zip (encs k)).foldl (fun t (p, v) => t.setIfInBounds p v) a.tmps, defers := [] } W)
    (hbody : ∀ (l k : Nat) (G : Nat → Prop) (W : World) (o : Obj), J k G W → k < N → body.wpIn (F.inRound l) (n - 1 - 1) P (endG J k G W.heap.size ((asg k W).putObj (w.heap.size + 1) o)) (a₁ k W.heap.size) ((asg k W).putObj (w.heap.size + 1) o))
    (hdone : ∀ (G : Nat → Prop) (W : World), J N G W → W.heap[w.heap.size]? = some (.deferred (some [])) → Q .normal { a with defers := { target := .collected w.heap.size, args := #[] } :: a.defers } W) :
    (Code.rangeFunc g ps assign body).wpIn F n P Q a w := by
  refine wpIn_rangeFunc fun fn hfn => ?_
  rw [hro]
  obtain ⟨B, hB⟩ : ∃ B, B = w.heap.size := ⟨_, rfl⟩
  rw [← hB] at hJ hnot hdone hbody
  obtain ⟨rec, hrec⟩ : ∃ rec : LoopState → Option Code → Loop, rec = fun st pe => { state := st, pending := pe, fn, tmps := a.tmps, params := ps, assign, body, defers := B } := ⟨_, rfl⟩
  have e0 : ∀ st pe, (rec st pe).fn = fn ∧ (rec st pe).tmps = a.tmps ∧ (rec st pe).params = ps ∧ (rec st pe).assign = assign ∧ (rec st pe).body = body ∧ (rec st pe).state = st ∧ (rec st pe).pending = pe := fun st pe => by
    rw [hrec]; exact ⟨rfl, rfl, rfl, rfl, rfl, rfl, rfl⟩
  have e1 : ∀ st pe st', { rec st pe with state := st' } = rec st' pe := fun st pe st' => by rw [hrec]
  have e2 : ∀ st pe st' pe', { rec st pe with state := st', pending := pe' } = rec st' pe' := fun st pe st' pe' => by rw [hrec]
  have hent := run_enterLoop_outer (P := P) (w := w) fn a.tmps ps assign body
  have hrdy : (rec .ready none) = { state := .ready, pending := none, fn, tmps := a.tmps, params := ps, assign, body, defers := w.heap.size } := by rw [hrec, hB]
  rw [← hrdy, ← hB] at hent
  obtain ⟨W1, hW1⟩ : ∃ W1, (w.alloc (.deferred (some []))).alloc (.loop (rec .ready none)) = W1 := ⟨_, rfl⟩
  have hj0 := h0 (rec .ready none)
  rw [hW1] at hent hj0
  have hL : W1.heap[B + 1]? = some (.loop (rec .ready none)) := by
    have := World.alloc_heap_new (w.alloc (.deferred (some []))) (.loop (rec .ready none))
    rw [hW1, World.size_alloc, ← hB] at this
    exact this
  have hD : W1.heap[B]? = some (.deferred (some [])) := by
    have h2 := World.alloc_heap_new w (.deferred (some []))
    rw [← hB] at h2
    rw [← hW1]
    exact (Below.heap_alloc _ _ _ (by rw [World.size_alloc]; omega)).trans h2
  refine ⟨B + 1, [{ target := .collected B, args := #[] }], W1, { target := .fn (.func gf) lb, args := #[.func (.yield (B + 1)) #[] #[]] }, W1, gf, #[.func (.yield (B + 1)) #[] #[]] ++ lb, W1, hent, ?_, ?_, ?_, fun _ => by omega, ?_⟩
  · simp only [resolve, hg]
    simp [go_sem]
  · intro f' hf'
    simp [Target.leads] at hf'
    subst hf'
    exact hFg
  · simp [invoke, go_sem, eg _ _]
  · refine (hseq (n - 1) (B + 1)
      (fun k G' W => ∃ G, J k G W ∧ (G' = fun i => G i ∨ i = B + 1) ∧ W.heap[B + 1]? = some (.loop (rec .ready none)) ∧ W.heap[B]? = some (.deferred (some [])))
      (fun i => G0 i ∨ i = B + 1) W1 ?_ ?_ ?_ (by omega) ⟨G0, hj0, rfl, hL, hD⟩).mono ?_
    · rintro k G' V ⟨G, hj, rfl, hl, _⟩
      refine ⟨(hRd k G V hj).1, fun i hi => ?_⟩
      rcases hi with hi | rfl
      · exact (hRd k G V hj).2 i hi
      · exact (Array.getElem?_eq_some_iff.1 hl).1
    · rintro k G' V V' ⟨G, hj, rfl, hl, hd⟩ hb
      exact ⟨G, hbel k G V V' hj hb, rfl, (hb.block _ (Array.getElem?_eq_some_iff.1 hl).1).trans hl, (hb.block _ (Array.getElem?_eq_some_iff.1 hd).1).trans hd⟩
    · rintro k G' V ⟨G, hj, rfl, hl, hd⟩ hk
      have hlt : B + 1 < V.heap.size := (Array.getElem?_eq_some_iff.1 hl).1
      have hy := run_yield (P := P) (args := encs k) hl (by rw [(e0 _ _).2.2.1]; exact hps k)
      rw [(e0 _ _).1, (e0 _ _).2.1, (e0 _ _).2.2.1, (e0 _ _).2.2.2.1, (e0 _ _).2.2.2.2.1] at hy
      have hlA : (asg k V).heap[B + 1]? = some (.loop (rec .ready none)) := ((hasg k V).block _ hlt).trans hl
      have hltA : B + 1 < (asg k V).heap.size := (Array.getElem?_eq_some_iff.1 hlA).1
      have hb := run_beginRound (P := P) hlA (e0 _ _).2.2.2.2.2.1
      rw [e1] at hb
      refine ⟨fn, _, assign, body, hy, roundIn_of_wpIn hfn (hassign _ k V _ ⟨_, hb, ?_⟩)⟩
      have hbd := hbody (B + 1) k G V (.loop (rec .busy none)) hj hk
      obtain ⟨V1, hV1⟩ : ∃ V1, V1 = (asg k V).putObj (B + 1) (.loop (rec .busy none)) := ⟨_, rfl⟩
      rw [← hV1] at hbd ⊢
      have hl1 : V1.heap[B + 1]? = some (.loop (rec .busy none)) := by rw [hV1]; exact World.putObj_heap_same hltA
      have hd1 : V1.heap[B]? = some (.deferred (some [])) := by rw [hV1]; exact ((World.putObj_heap_other (by omega)).trans ((hasg k V).block _ (by omega))).trans hd
      have hj1 : J k G V1 := by rw [hV1]; exact hJ k G _ _ (hbel k G V _ hj (hasg k V))
      have hs1 : B + 1 < V1.heap.size := (Array.getElem?_eq_some_iff.1 hl1).1
      have hk1 : Kept (fun i => G i ∨ i = B + 1) V V1 := by rw [hV1]; exact (Kept.below (hasg k V)).putObj (.inl (.inr rfl)) _
      refine wpIn_mono hbd ?_
      rintro e a3 V3 hp
      cases e with
      | normal =>
        obtain ⟨G3, hj3, hk3, hn3⟩ := hp
        have hl3 := (hk3.block _ hs1 (hnot k G V1 hj1).2).trans hl1
        have hd3 := (hk3.block _ (by omega) (hnot k G V1 hj1).1).trans hd1
        have hr := run_endRound (P := P) none hl3
        rw [e2] at hr
        refine ⟨_, _, hr, rfl, fun i => G3 i ∨ i = B + 1, ⟨G3, hJ _ _ _ _ hj3, rfl, World.putObj_heap_same (Array.getElem?_eq_some_iff.1 hl3).1, (World.putObj_heap_other (by omega)).trans hd3⟩, ?_, ?_⟩
        · exact (hk1.trans (hk3.mono fun i hi => .inl hi) fun i _ hi => hi).putObj (.inl (.inr rfl)) _
        · rintro i (hi | hi)
          · rcases hn3 i hi with h | h
            · exact .inl (.inl h)
            · exact .inr h
          · exact .inl (.inr hi)
      | ret => exact hp.elim
      | exit id => exact hp.elim
      | goto t => exact hp.elim
      | panic ch => exact hp.elim
      | outgrown => exact hp.elim
    · rintro e V ⟨⟨v, rfl⟩, G', G, hj, rfl, hl, hd⟩
      have hr := run_endLoop (P := P) hl (by rw [(e0 _ _).2.2.2.2.2.1]; simp)
      rw [(e0 _ _).2.2.2.2.2.2] at hr
      exact ⟨none, _, hr, hdone _ _ (hJ _ _ _ _ hj) ((World.putObj_heap_other (by omega)).trans hd)⟩

section
variable {P : Program} {l n : Nat} {Q : Exit → Act → World → Prop}
theorem Oper.wpIn_of_plain {o : Oper} {a : Act} {w : World} {K : Act → World → Prop} (hd : ∀ c, o.op ≠ .defer c) (h : o.wp P a w K Q) : o.wpIn (Fence.wide.inRound l) n P a w K Q := by
  unfold Oper.wpIn
  refine ⟨fun _ _ => trivial, ?_⟩
  rw [show (Fence.wide.inRound l).round = some l from rfl, Oper.semAt_some l _ _ hd]
  unfold Oper.wp at h
  generalize (execOp a.eval o).run P w = r at h ⊢
  cases r with
  | ok x w' =>
    cases x
    case value v => exact h
    case skip => exact h
    case defer d => exact h
    case enter f args => exact ⟨fun e => (by cases e), callsIn_wide.2 h⟩
    case row r args => exact ⟨fun e => (by cases e), fun c cs _ => let ⟨v, w2, h1, h2⟩ := h c cs; ⟨v, w2, h1, stepsIn_wide.2 h2⟩⟩
    all_goals exact False.elim h
  | halt x w' =>
    cases x
    case panic v => exact h
    all_goals exact False.elim h
theorem wpAnyIn_of_plain {md : Region.Mode} {ops : Array Oper} (hd : ∀ o ∈ ops.toList, ∀ c, o.op ≠ .defer c) (hQ : ¬ LetsOut Q) : ∀ (fuel : Nat) (listed : Array Bool) (a : Act) (w : World), wpAny P md ops Q fuel listed a w → wpAnyIn (Fence.wide.inRound l) n P md ops Q fuel listed a w
  | 0, _, _, _, h => h
  | fuel + 1, listed, a, w, h => ⟨h.1, fun i hi => by
    have h2 := h.2 i hi
    unfold wpOp at h2
    unfold wpOpIn
    cases ho : ops[i]? with
    | none =>
      rw [ho] at h2
      exact wpAnyIn_of_plain hd hQ fuel _ _ _ h2
    | some o =>
      rw [ho] at h2
      simp only at h2 ⊢
      have hm : o ∈ ops.toList := by
        rw [← Array.getElem?_toList] at ho
        exact List.mem_of_getElem? ho
      split
      · rename_i hw
        rw [if_pos hw] at h2
        rcases h2 with h3 | ⟨_, h3⟩
        · exact Oper.wpIn_mono (fun a' w' h4 => wpAnyIn_of_plain hd hQ fuel _ a' w' h4) (Oper.wpIn_of_plain (hd o hm) h3)
        · exact absurd h3 hQ
      · rename_i hw
        rw [if_neg hw] at h2
        exact ⟨fun _ _ => trivial, wpAnyIn_of_plain hd hQ fuel _ _ _ h2⟩⟩
/-- A drawn region in a round, walked as anywhere, with S held. -/
theorem wpIn_region_round {ops : Array Oper} {id : Nat} {a : Act} {w : World} {S : World → Prop} (hm : P.follows .mixedOrders = true) (hd : ∀ o ∈ ops.toList, ∀ c, o.op ≠ .defer c) (hQ : ¬ LetsOut Q) (hS : S w.drew)
    (h : S w.drew → wpAnyH P .any ops Q S ops.size (Array.replicate ops.size false) a w.drew) : (Code.region id ops true).wpIn (Fence.wide.inRound l) n P Q a w :=
  wpIn_region_any hm (wpAnyIn_of_plain hd hQ _ _ _ _ (wpAny_of_held _ _ _ _ (h hS)))
end
end Go.Proofs.Ytjnbilcanfhkjaa
