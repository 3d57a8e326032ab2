/- A loop over an iterator whose body writes maps: a law whose invariant need only abide the loop's own two blocks. -/
import Derived.Test.YtjnbilcanfhkjaaKRows
import Derived.RangeFuncNested
import Derived.RangeFuncLeaves
import Derived.RangeFuncCalls
import Derived.Shelf.Abstract
import Derived.Shelf.RegionOpen
import Derived.OwnWalkIn
import Derived.TacticsInMore
import Derived.LoopNIn
import Derived.LoopIn
namespace Go.Proofs.Ytjnbilcanfhkjaa
open Go.RowKit Go.Maps Go.Shelf

/-- What an iterator promises that hands out N things, by their place: J k: k rounds are over; what it reads itself must be told by J. -/
def SeqIx (F : Fence) (P : Program) (gf : Nat) (lb : Array Value) (encs : Nat → Array Value) (N : Nat) (Rd : World → Prop) : Prop :=
  ∀ (m l : Nat) (J Jx : Nat → World → Prop) (W : World), (∀ k V, J k V → Rd V) →
    (∀ k V, J k V → k < N → YieldAt F (m - 1) P l (encs k) V fun e V' => (e = .returned (.bool true) ∧ J (k + 1) V') ∨ (e = .returned (.bool false) ∧ Jx (k + 1) V')) →
    1 ≤ m → J 0 W →
    CallsIn F m P gf (#[.func (.yield l) #[] #[]] ++ lb) W fun e V' => (∃ v, e = .returned v) ∧ (J N V' ∨ ∃ k, k ≤ N ∧ Jx k V')

/-- The two blocks of the loop's own lie as they lay. -/
def Stay (B : Nat) (W W' : World) : Prop := W'.heap[B]? = W.heap[B]? ∧ W'.heap[B + 1]? = W.heap[B + 1]?
theorem Stay.refl (B : Nat) (W : World) : Stay B W W := ⟨rfl, rfl⟩
theorem Stay.trans {B : Nat} {a b c : World} (h : Stay B a b) (k : Stay B b c) : Stay B a c := ⟨k.1.trans h.1, k.2.trans h.2⟩

/-- How a round may be left. -/
def leftBy (B : Nat) (J : Nat → World → Prop) (Jx : Code → Nat → World → Prop) (k : Nat) (W : World) : Exit → Act → World → Prop
  | .normal, _, W' => Stay B W W' ∧ J (k + 1) W'
  | .ret, _, W' => Stay B W W' ∧ Jx .ret (k + 1) W'
  | _, _, _ => False

theorem range_law {F : Fence} {n : Nat} {P : Program} {g : Operand} {ps : Array Tmp} {assign body : Code} {Q : Exit → Act → World → Prop} {a : Act} {w : World}
    (hro : F.round = none) (h1 : 2 ≤ n) {gf : Nat} {lb : Array Value} (hg : a.eval g = .func (.func gf) #[] lb) (hFg : F.fn gf) (eg : Enters P gf)
    {encs : Nat → Array Value} {N : Nat} {Rd : World → Prop} (hseq : SeqIx F P gf lb encs N Rd) (hps : ∀ k, (encs k).size = ps.size)
    (J : Nat → World → Prop) (Jx : Code → Nat → World → Prop) (hRd : ∀ k W, J k W → Rd W)
    (h0 : ∀ r, J 0 ((w.alloc (.deferred (some []))).alloc (.loop r)))
    (hJ : ∀ k W o, J k W → J k (W.putObj (w.heap.size + 1) o)) (hJx : ∀ c k W o, Jx c k W → Jx c k (W.putObj (w.heap.size + 1) o))
    (a₁ : Nat → Act)
    (hassign : ∀ (l k : Nat) (W : World) (K : Act → World → Prop), K (a₁ k) W →
      assign.wpIn (F.inRound l) (n - 1 - 1) P (Exit.then K (fun _ _ _ => False)) { tmps := (ps.zip (encs k)).foldl (fun t (p, v) => t.setIfInBounds p v) a.tmps, defers := [] } W)
    (hbody : ∀ (l k : Nat) (W : World), w.heap.size + 1 < W.heap.size → J k W → k < N → body.wpIn (F.inRound l) (n - 1 - 1) P (leftBy w.heap.size J Jx k W) (a₁ k) W)
    (hdone : ∀ (W : World), J N W → W.heap[w.heap.size]? = some (.deferred (some [])) → Q .normal { a with defers := { target := .collected w.heap.size, args := #[] } :: a.defers } W)
    (hstop : ∀ (c : Code) (k : Nat) (W : World), k ≤ N → Jx c k W → W.heap[w.heap.size]? = some (.deferred (some [])) → c.wpIn F n P Q { a with defers := { target := .collected w.heap.size, args := #[] } :: a.defers } W) :
    (Code.rangeFunc g ps assign body).wpIn F n P Q a w := by
  refine wpIn_rangeFunc fun fn hfn => ?_
  rw [hro]
  obtain ⟨B, hB⟩ : ∃ B, B = w.heap.size := ⟨_, rfl⟩
  rw [← hB] at hJ hJx hbody hdone hstop
  obtain ⟨rec, hrec⟩ : ∃ rec : LoopState → Option Code → Loop, rec = fun st pe => { state := st, pending := pe, fn, tmps := a.tmps, params := ps, assign, body, defers := B } := ⟨_, rfl⟩
  have e0 : ∀ st pe, (rec st pe).fn = fn ∧ (rec st pe).tmps = a.tmps ∧ (rec st pe).params = ps ∧ (rec st pe).assign = assign ∧ (rec st pe).body = body ∧ (rec st pe).state = st ∧ (rec st pe).pending = pe := fun st pe => by
    rw [hrec]; exact ⟨rfl, rfl, rfl, rfl, rfl, rfl, rfl⟩
  have e1 : ∀ st pe st', { rec st pe with state := st' } = rec st' pe := fun st pe st' => by rw [hrec]
  have e2 : ∀ st pe st' pe', { rec st pe with state := st', pending := pe' } = rec st' pe' := fun st pe st' pe' => by rw [hrec]
  have hent := run_enterLoop_outer (P := P) (w := w) fn a.tmps ps assign body
  have hrdy : (rec .ready none) = { state := .ready, pending := none, fn, tmps := a.tmps, params := ps, assign, body, defers := w.heap.size } := by rw [hrec, hB]
  rw [← hrdy, ← hB] at hent
  obtain ⟨W1, hW1⟩ : ∃ W1, (w.alloc (.deferred (some []))).alloc (.loop (rec .ready none)) = W1 := ⟨_, rfl⟩
  have hj0 := h0 (rec .ready none)
  rw [hW1] at hent hj0
  have hsz : W1.heap.size = B + 2 := by rw [← hW1, World.size_alloc, World.size_alloc, hB]
  have hL : W1.heap[B + 1]? = some (.loop (rec .ready none)) := by
    have := World.alloc_heap_new (w.alloc (.deferred (some []))) (.loop (rec .ready none))
    rw [hW1, World.size_alloc, ← hB] at this
    exact this
  have hD : W1.heap[B]? = some (.deferred (some [])) := by
    have h2 := World.alloc_heap_new w (.deferred (some []))
    rw [← hB] at h2
    rw [← hW1]
    exact (Below.heap_alloc _ _ _ (by rw [World.size_alloc]; omega)).trans h2
  refine ⟨B + 1, [{ target := .collected B, args := #[] }], W1, { target := .fn (.func gf) lb, args := #[.func (.yield (B + 1)) #[] #[]] }, W1, gf, #[.func (.yield (B + 1)) #[] #[]] ++ lb, W1, hent, ?_, ?_, ?_, fun _ => by omega, ?_⟩
  · simp only [resolve, hg]
    simp [go_sem]
  · intro f' hf'
    simp [Target.leads] at hf'
    subst hf'
    exact hFg
  · simp [invoke, go_sem, eg _ _]
  · refine (hseq (n - 1) (B + 1)
      (fun k W => J k W ∧ W.heap[B + 1]? = some (.loop (rec .ready none)) ∧ W.heap[B]? = some (.deferred (some [])))
      (fun k W => ∃ c, Jx c k W ∧ W.heap[B + 1]? = some (.loop (rec .done (some c))) ∧ W.heap[B]? = some (.deferred (some [])))
      W1 (fun k V hV => hRd k V hV.1) ?_ (by omega) ⟨hj0, hL, hD⟩).mono ?_
    · rintro k V ⟨hj, hl, hd⟩ hk
      have hlt : B + 1 < V.heap.size := (Array.getElem?_eq_some_iff.1 hl).1
      have hy := run_yield (P := P) (args := encs k) hl (by rw [(e0 _ _).2.2.1]; exact hps k)
      rw [(e0 _ _).1, (e0 _ _).2.1, (e0 _ _).2.2.1, (e0 _ _).2.2.2.1, (e0 _ _).2.2.2.2.1] at hy
      have hb := run_beginRound (P := P) hl (e0 _ _).2.2.2.2.2.1
      rw [e1] at hb
      refine ⟨fn, _, assign, body, hy, roundIn_of_wpIn hfn (hassign _ k V _ ⟨_, hb, ?_⟩)⟩
      obtain ⟨V1, hV1⟩ : ∃ V1, V1 = V.putObj (B + 1) (.loop (rec .busy none)) := ⟨_, rfl⟩
      rw [← hV1]
      have hl1 : V1.heap[B + 1]? = some (.loop (rec .busy none)) := by rw [hV1]; exact World.putObj_heap_same hlt
      have hd1 : V1.heap[B]? = some (.deferred (some [])) := by rw [hV1]; exact (World.putObj_heap_other (by omega)).trans hd
      have hj1 : J k V1 := by rw [hV1]; exact hJ k V _ hj
      have hs1 : B + 1 < V1.heap.size := (Array.getElem?_eq_some_iff.1 hl1).1
      refine wpIn_mono (hbody (B + 1) k V1 hs1 hj1 hk) ?_
      have fin : ∀ (jump : Option Code) (V3 : World), Stay B V1 V3 → ∃ V4, V4 = V3.putObj (B + 1) (.loop (rec (if jump.isNone then .ready else .done) jump)) ∧ (Instr.endRound (B + 1) jump).run P V3 = .ok (.bool jump.isNone) V4 ∧
          V4.heap[B + 1]? = some (.loop (rec (if jump.isNone then .ready else .done) jump)) ∧ V4.heap[B]? = some (.deferred (some [])) := fun jump V3 hs => by
        have hl3 := hs.2.trans hl1
        have hr := run_endRound (P := P) jump hl3
        rw [e2] at hr
        exact ⟨_, rfl, hr, World.putObj_heap_same (Array.getElem?_eq_some_iff.1 hl3).1, (World.putObj_heap_other (by omega)).trans (hs.1.trans hd1)⟩
      rintro e a3 V3 hp
      cases e with
      | normal =>
        obtain ⟨hs, hj3⟩ := hp
        obtain ⟨V4, hV4, hr, hl4, hd4⟩ := fin none V3 hs
        exact ⟨_, V4, hr, .inl ⟨rfl, by rw [hV4]; exact hJ _ _ _ hj3, hl4, hd4⟩⟩
      | ret =>
        obtain ⟨hs, hj3⟩ := hp
        obtain ⟨V4, hV4, hr, hl4, hd4⟩ := fin (some .ret) V3 hs
        exact ⟨_, V4, hr, .inr ⟨rfl, .ret, by rw [hV4]; exact hJx _ _ _ _ hj3, hl4, hd4⟩⟩
      | exit id => exact hp.elim
      | goto t => exact hp.elim
      | panic ch => exact hp.elim
      | outgrown => exact hp.elim
    · rintro e V ⟨⟨v, rfl⟩, (⟨hj, hl, hd⟩ | ⟨k, hk, c, hj, hl, hd⟩)⟩
      · have hr := run_endLoop (P := P) hl (by rw [(e0 _ _).2.2.2.2.2.1]; simp)
        rw [(e0 _ _).2.2.2.2.2.2] at hr
        exact ⟨none, _, hr, hdone _ (hJ _ _ _ hj) ((World.putObj_heap_other (by omega)).trans hd)⟩
      · have hr := run_endLoop (P := P) hl (by rw [(e0 _ _).2.2.2.2.2.1]; simp)
        rw [(e0 _ _).2.2.2.2.2.2] at hr
        exact ⟨some c, _, hr, hstop c k _ hk (hJx _ _ _ _ hj) ((World.putObj_heap_other (by omega)).trans hd)⟩
end Go.Proofs.Ytjnbilcanfhkjaa
