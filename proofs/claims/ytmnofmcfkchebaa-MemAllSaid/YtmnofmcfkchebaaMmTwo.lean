/- Two rows of numbers of one's own that are made side by side; what Add leaves. -/
import Derived.Test.YtmnofmcfkchebaaMmMem
namespace Go.Proofs.Ytmnofmcfkchebaa
open Go.RowKit Go.Maps Go.WideMaps
set_option linter.unusedSimpArgs false

/-- Two rows of one's own, apart; nothing older has changed. -/
structure Mid (w u : World) (vT : Value) (n : Nat) (xT : List Value) (vS : Value) (m : Nat) (xS : List Value) : Prop where
  hb : Below w.heap.size w u
  t : u.ownsRow w.heap.size 3 1 vT n xT
  s : u.ownsRow w.heap.size 3 1 vS m xS
  ne : ∀ g, vT.ownBlock = some g → vS.ownBlock ≠ some g
theorem Mid.start {w u : World} (hb : Below w.heap.size w u) : Mid w u (.slice none 0 0) 0 [] (.slice none 0 0) 0 [] := ⟨hb, World.ownsRow_nil _ _ _ _, World.ownsRow_nil _ _ _ _, fun g h => by cases h⟩
theorem Mid.alloc {w u : World} {vT vS : Value} {n m : Nat} {xT xS : List Value} (h : Mid w u vT n xT vS m xS) (o : Obj) : Mid w (u.alloc o) vT n xT vS m xS := ⟨h.hb.alloc h.hb.size o, h.t.alloc o, h.s.alloc o, h.ne⟩
theorem Mid.newT {w u : World} {vT vS : Value} {n m : Nat} {xT xS : List Value} (h : Mid w u vT n xT vS m xS) : Mid w (u.alloc (.cells #[] 3)) (.slice (some ⟨u.heap.size, 0, none⟩) 0 0) 0 [] vS m xS :=
  ⟨h.hb.alloc h.hb.size _, World.ownsRow_made u #[] 0 h.hb.size (Nat.zero_le _) rfl, h.s.alloc _, fun g e e2 => by
    cases e
    exact Nat.lt_irrefl _ (h.s.lt _ e2).2⟩
theorem Mid.newS {w u : World} {vT vS : Value} {n m : Nat} {xT xS : List Value} (h : Mid w u vT n xT vS m xS) : Mid w (u.alloc (.cells #[] 3)) vT n xT (.slice (some ⟨u.heap.size, 0, none⟩) 0 0) 0 [] :=
  ⟨h.hb.alloc h.hb.size _, h.t.alloc _, World.ownsRow_made u #[] 0 h.hb.size (Nat.zero_le _) rfl, fun g e e2 => by
    cases e2
    exact Nat.lt_irrefl _ (h.t.lt _ e).2⟩
theorem Mid.growT {w u u' : World} {vT vS v' : Value} {n m n' : Nat} {xT xS x' : List Value} (h : Mid w u vT n xT vS m xS) (hw : u'.ownsRow w.heap.size 3 1 v' n' x') (hg : u.grownBy u' vT.ownBlock) (hl : v'.ownBlock = vT.ownBlock ∨ v'.ownBlock = some u.heap.size) : Mid w u' v' n' x' vS m xS := by
  refine ⟨h.hb.grown hg h.hb.size fun k e => (h.t.lt k e).1, hw, ownsRow_block h.s fun g e => hg.block g (h.s.lt g e).2 fun e2 => h.ne g e2.symm e, fun g e e2 => ?_⟩
  rcases hl with hl | hl
  · exact h.ne g (hl.symm.trans e) e2
  · rw [hl] at e
    cases e
    have := (h.s.lt _ e2).2
    omega
theorem Mid.growS {w u u' : World} {vT vS v' : Value} {n m n' : Nat} {xT xS x' : List Value} (h : Mid w u vT n xT vS m xS) (hw : u'.ownsRow w.heap.size 3 1 v' n' x') (hg : u.grownBy u' vS.ownBlock) (hl : v'.ownBlock = vS.ownBlock ∨ v'.ownBlock = some u.heap.size) : Mid w u' vT n xT v' n' x' := by
  refine ⟨h.hb.grown hg h.hb.size fun k e => (h.s.lt k e).1, ownsRow_block h.t fun g e => hg.block g (h.t.lt g e).2 fun e2 => h.ne g e e2.symm, hw, fun g e e2 => ?_⟩
  rcases hl with hl | hl
  · exact h.ne g e (hl.symm.trans e2)
  · rw [hl] at e2
    cases e2
    have := (h.t.lt _ e).2
    omega
/-- What Add leaves of the document's. -/
def R12AddOut (w : World) (G : Nat → Prop) (b : Nat) (L : List MDoc) (x : MDoc) (e : Ending) (w' : World) : Prop := e = .returned (.int .i64 (mErr L x)) ∧ ∃ G', R12At w' G' b (mAdd L x) ∧ Kept G w w' ∧ ∀ i, G' i → G i ∨ w.heap.size ≤ i
theorem own_ints {u : World} {base : Nat} {e : TypeId} {v : Value} {n : Nat} {l : List Int} (h : u.ownsRow base e 1 v n (l.map i64V)) (hn : l.length = n) (h63 : n ≤ maxLen) (hl : ∀ x ∈ l, -9223372036854775808 ≤ x ∧ x ≤ 9223372036854775807) {G : Nat → Prop} (hG : ∀ g, v.ownBlock = some g → G g) : IntsG u G v l := by
  obtain ⟨A, c, rfl⟩ := own_slice h
  subst hn
  exact ⟨A, c, rfl, rowCap_le h, IntsIn.own h h63 hl, fun ad e _ => hG _ (by rw [e]; rfl)⟩
theorem add_done {w u u5 : World} {G : Nat → Prop} {b N n : Nat} {L : List MDoc} {x : MDoc} {R : List (Int × Value × Value)} {v v5 vT vS : Value} (hE : mErr L x = 0) (hN : N = L.length)
    (h1 : G b) (h2 : ∀ i, G i → i < w.heap.size) (h3 : Blk w b 29 #[v]) (h4 : R.length = L.length) (h6 : ∀ g, v.ownBlock = some g → G g ∧ g ≠ b)
    (h7 : ∀ (i : Nat) (p : Int × Value × Value) (y : MDoc), R[i]? = some p → L[i]? = some y → p.1 = y.doc ∧ fits64 y.doc ∧ IntsG w (fun i => G i ∧ i ≠ b ∧ v.ownBlock ≠ some i) p.2.1 y.T ∧ IntsG w (fun i => G i ∧ i ≠ b ∧ v.ownBlock ≠ some i) p.2.2 y.S)
    (hm : Mid w u vT n (x.T.map i64V) vS n (x.S.map i64V)) (hTl : x.T.length = n) (hSl : x.S.length = n) (h63 : n ≤ maxLen) (hd : fits64 x.doc)
    (hTf : ∀ y ∈ x.T, -9223372036854775808 ≤ y ∧ y ≤ 9223372036854775807) (hSf : ∀ y ∈ x.S, -9223372036854775808 ≤ y ∧ y ≤ 9223372036854775807)
    (h8 : u5.ownsRow 0 56 3 v5 (N + 1) (R.flatMap oneCells ++ oneCells (x.doc, vT, vS))) (hg : u.grownBy u5 v.ownBlock) (hl : v5.ownBlock = v.ownBlock ∨ v5.ownBlock = some u.heap.size) :
    R12AddOut w G b L x (.returned (.int .i64 0)) (u5.setCell ⟨b, 0, none⟩ v5) := by
  have hbw : b < w.heap.size := h2 b h1
  have hs1 := hm.hb.size
  have hs2 := hg.size
  have hsz := size_setCell' u5 ⟨b, 0, none⟩ v5
  have hvw : ∀ g, v.ownBlock = some g → g < w.heap.size := fun g e => h2 g (h6 g e).1
  have hv5 : ∀ g, v5.ownBlock = some g → v.ownBlock = some g ∨ g = u.heap.size := fun g e => by
    rcases hl with hl | hl
    · exact .inl (hl.symm.trans e)
    · rw [hl] at e; cases e; exact .inr rfl
  have hset : ∀ i, i ≠ b → (u5.setCell ⟨b, 0, none⟩ v5).heap[i]? = u5.heap[i]? := fun i hi => Below.heap_setCell u5 ⟨b, 0, none⟩ v5 i hi
  have hgr : ∀ i, i < u.heap.size → v.ownBlock ≠ some i → u5.heap[i]? = u.heap[i]? := fun i hi hne => hg.block i hi fun e => hne e.symm
  have hold : ∀ i, i < w.heap.size → i ≠ b → v.ownBlock ≠ some i → (u5.setCell ⟨b, 0, none⟩ v5).heap[i]? = w.heap[i]? := fun i hi hne hnv => by
    rw [hset i hne, hgr i (by omega) hnv, hm.hb.block i hi]
  have hnew : ∀ g, w.heap.size ≤ g → g < u.heap.size → (u5.setCell ⟨b, 0, none⟩ v5).heap[g]? = u.heap[g]? := fun g h1 h2 => by
    rw [hset g (by omega), hgr g h2 fun e => by have := hvw g e; omega]
  have hB5 : Blk u5 b 29 #[v] := (h3.below hm.hb hbw).grown hg fun e => (h6 b e.symm).2 rfl
  refine ⟨by rw [hE], fun i => G i ∨ (w.heap.size ≤ i ∧ i < u5.heap.size), ?_, ?_, fun i hi => hi.imp id fun h => h.1⟩
  · rw [show mAdd L x = L ++ [x] by unfold mAdd; rw [if_pos hE]]
    refine ⟨.inl h1, fun i hi => by rcases hi with hi | hi; (have := h2 i hi; omega); omega, v5, R ++ [(x.doc, vT, vS)], by simpa using hB5.set_ 0 v5, by simp [h4], ?_, fun g e => ?_, fun i p y e1 e2 => ?_⟩
    · rw [List.length_append, List.length_singleton, ← hN, List.flatMap_append]
      refine ownsRow_block (by simpa using h8) fun g e => hset g ?_
      rcases hv5 g e with h | h
      · exact (h6 g h).2
      · omega
    · rcases hv5 g e with h | h
      · exact ⟨.inl (h6 g h).1, (h6 g h).2⟩
      · have := (h8.lt g e).2
        exact ⟨.inr ⟨by omega, by omega⟩, by omega⟩
    · rcases Nat.lt_or_ge i R.length with hi | hi
      · rw [List.getElem?_append_left hi] at e1
        rw [List.getElem?_append_left (by omega)] at e2
        obtain ⟨q1, q2, q3, q4⟩ := h7 i p y e1 e2
        have hG : ∀ i, i < w.heap.size → (G i ∧ i ≠ b ∧ v.ownBlock ≠ some i) → ((G i ∨ (w.heap.size ≤ i ∧ i < u5.heap.size)) ∧ i ≠ b ∧ v5.ownBlock ≠ some i) := fun i hi h => ⟨.inl h.1, h.2.1, fun e => by
          rcases hv5 i e with h' | h'
          · exact h.2.2 h'
          · omega⟩
        have hk : ∀ i, (G i ∧ i ≠ b ∧ v.ownBlock ≠ some i) → (u5.setCell ⟨b, 0, none⟩ v5).heap[i]? = w.heap[i]? := fun i h => hold i (h2 i h.1) h.2.1 h.2.2
        exact ⟨q1, q2, q3.keep hk (by omega) hG, q4.keep hk (by omega) hG⟩
      · rw [List.getElem?_append_right hi] at e1
        rw [List.getElem?_append_right (by omega)] at e2
        obtain ⟨hi0, rfl⟩ : i = R.length ∧ p = (x.doc, vT, vS) := by
          have := (List.getElem?_eq_some_iff.1 e1).1
          simp only [List.length_singleton] at this
          have h0 : i - R.length = 0 := by omega
          rw [h0] at e1
          exact ⟨by omega, by simpa using e1.symm⟩
        obtain rfl : y = x := by
          rw [show i - L.length = 0 by omega] at e2
          simpa using e2.symm
        have hin : ∀ g, w.heap.size ≤ g → g < u.heap.size → ((G g ∨ (w.heap.size ≤ g ∧ g < u5.heap.size)) ∧ g ≠ b ∧ v5.ownBlock ≠ some g) := fun g a1 a2 => ⟨.inr ⟨a1, by omega⟩, by omega, fun e => by
          rcases hv5 g e with h' | h'
          · have := hvw g h'; omega
          · omega⟩
        exact ⟨rfl, hd, own_ints (ownsRow_block hm.t fun g e => hnew g (hm.t.lt g e).1 (hm.t.lt g e).2) hTl h63 hTf fun g e => hin g (hm.t.lt g e).1 (hm.t.lt g e).2,
          own_ints (ownsRow_block hm.s fun g e => hnew g (hm.s.lt g e).1 (hm.s.lt g e).2) hSl h63 hSf fun g e => hin g (hm.s.lt g e).1 (hm.s.lt g e).2⟩
  · exact ((Kept.below hm.hb).grown hg fun k e => .inl (h6 k e).1).setCell (.inl h1) v5
theorem src_below {w w' : World} {A : Option Addr} {n : Nat} {xs : List Value} (h : Src w A n xs) (hb : Below w.heap.size w w') : Src w' A n xs := ⟨h.len, fun ad e j u hu => below_cells hb (h.cells ad e j u hu), h.nil⟩
theorem i64s_one (l : List Int) : ∀ u ∈ l.map i64V, u.oneCell' = true := fun u hu => by
  obtain ⟨x, _, rfl⟩ := List.mem_map.1 hu
  rfl
theorem one_one (d : Int) (A C : Option Addr) (n m c k : Nat) : ∀ u ∈ oneCells (d, .slice A n c, .slice C m k), u.oneCell' = true := fun u hu => by
  simp [oneCells] at hu
  rcases hu with rfl | rfl | rfl <;> rfl
/-- A document in a block, as a source. -/
theorem one_cells {w : World} {g : Nat} {e : TypeId} {p : Int × Value × Value} (h : Blk w g e #[.int .i64 p.1, p.2.1, p.2.2]) : ∀ (j : Nat) (u : Value), (oneCells p)[j]? = some u → w.cell? ((⟨g, 0, none⟩ : Addr).add j) = some u := by
  intro j u hu
  match j with
  | 0 =>
    simp [oneCells] at hu
    subst hu
    exact h.cell 0
  | 1 =>
    simp [oneCells] at hu
    subst hu
    exact h.cell 1
  | 2 =>
    simp [oneCells] at hu
    subst hu
    exact h.cell 2
  | j + 3 => simp [oneCells] at hu
end Go.Proofs.Ytmnofmcfkchebaa
