/- Postings of one's own: a row of structs of an int and a slice. -/
import Derived.Test.YtmnofmcfkchebaaKPosts
namespace Go.Proofs.Ytmnofmcfkchebaa
open Go.RowKit Go.Maps Go.WideMaps

def docCells (p : Int × Value) : List Value := [.int .i64 p.1, p.2]
theorem doc_len (l : List (Int × Value)) : (l.flatMap docCells).length = l.length * 2 := by
  induction l with
  | nil => rfl
  | cons a r ih => rw [List.flatMap_cons, List.length_append, ih, List.length_cons]; simp [docCells]; omega
theorem doc_at : ∀ (l : List (Int × Value)) (i j : Nat) (p : Int × Value) (u : Value), l[i]? = some p → (docCells p)[j]? = some u → (l.flatMap docCells)[i * 2 + j]? = some u
  | [], i, j, p, u, h, _ => by simp at h
  | a :: r, 0, j, p, u, h, h2 => by
    simp at h
    subst h
    rw [List.flatMap_cons, List.getElem?_append_left (by have := (List.getElem?_eq_some_iff.1 h2).1; omega)]
    simpa using h2
  | a :: r, i + 1, j, p, u, h, h2 => by
    have hl : (docCells a).length = 2 := rfl
    rw [List.flatMap_cons, List.getElem?_append_right (by omega), hl, show (i + 1) * 2 + j - 2 = i * 2 + j by omega]
    exact doc_at r i j p u (by simpa using h) h2
theorem doc_one (d : Int) (A : Option Addr) (n c : Nat) : ∀ u ∈ docCells (d, .slice A n c), u.oneCell' = true := fun u hu => by
  simp [docCells] at hu
  rcases hu with rfl | rfl <;> rfl
/-- A struct in a block, as a source. -/
theorem doc_src {w : World} {g : Nat} {e : TypeId} {p : Int × Value} (h : Blk w g e #[.int .i64 p.1, p.2]) : ∀ (j : Nat) (u : Value), (docCells p)[j]? = some u → w.cell? ((⟨g, 0, none⟩ : Addr).add j) = some u := by
  intro j u hu
  match j with
  | 0 =>
    simp [docCells] at hu
    subst hu
    exact h.cell 0
  | 1 =>
    simp [docCells] at hu
    subst hu
    exact h.cell 1
  | j + 2 => simp [docCells] at hu
/-- Of one posting: what its struct holds, and where its spots lie. -/
def PostAt (w : World) (x : Int × List (Int × Int)) (p : Int × Value) (far : Nat → Prop) : Prop :=
  p.1 = x.1 ∧ fits64 x.1 ∧ ∃ A c, p.2 = .slice A x.2.length c ∧ x.2.length ≤ c ∧ PairsIn w A x.2.length x.2 ∧ ∀ ad, A = some ad → 0 < x.2.length → ad.block < w.heap.size ∧ far ad.block
theorem PostAt.mono {w w' : World} {x : Int × List (Int × Int)} {p : Int × Value} {f g : Nat → Prop} (h : PostAt w x p f) (hk : ∀ i, i < w.heap.size → f i → w'.heap[i]? = w.heap[i]? ∧ g i) (hs : w.heap.size ≤ w'.heap.size) : PostAt w' x p g := by
  obtain ⟨h1, h2, A, c, h3, h4, h5, h6⟩ := h
  refine ⟨h1, h2, A, c, h3, h4, ⟨h5.len, h5.fit, h5.vals, h5.nil, fun ad e i q hq => ?_⟩, fun ad e h0 => ⟨Nat.lt_of_lt_of_le (h6 ad e h0).1 hs, (hk _ (h6 ad e h0).1 (h6 ad e h0).2).2⟩⟩
  have hlt := (List.getElem?_eq_some_iff.1 hq).1
  obtain ⟨q1, q2⟩ := h6 ad e (by omega)
  obtain ⟨c1, c2⟩ := h5.cells ad e i q hq
  have hb := (hk _ q1 q2).1
  have hblk : ∀ k, (ad.add k).block = ad.block := fun k => by unfold Addr.add; split <;> rfl
  exact ⟨(World.cell?_of_block (by rw [hblk]; exact hb)).trans c1, (World.cell?_of_block (by rw [hblk]; exact hb)).trans c2⟩
/-- A row of postings of one's own. -/
def PostsO (w : World) (base : Nat) (v : Value) (L : List (Int × List (Int × Int))) : Prop :=
  ∃ R : List (Int × Value), R.length = L.length ∧ w.ownsRow base 46 2 v L.length (R.flatMap docCells) ∧ ∀ (i : Nat) (p : Int × Value) (x : Int × List (Int × Int)), R[i]? = some p → L[i]? = some x → PostAt w x p fun i => base ≤ i ∧ v.ownBlock ≠ some i
theorem PostsO.nil (w : World) (base : Nat) : PostsO w base (.slice none 0 0) [] := ⟨[], rfl, ⟨rfl, .inl ⟨rfl, rfl⟩⟩, fun i p x h _ => by simp at h⟩
theorem PostsO.below {w w' : World} {base : Nat} {v : Value} {L : List (Int × List (Int × Int))} (h : PostsO w base v L) (hb : Below w.heap.size w w') : PostsO w' base v L := by
  obtain ⟨R, h0, h1, h2⟩ := h
  exact ⟨R, h0, ownsRow_block h1 fun g hg => hb.block g (h1.lt g hg).2, fun i p x e1 e2 => (h2 i p x e1 e2).mono (fun i hi hf => ⟨hb.block i hi, hf⟩) hb.size⟩
/-- Its blocks, and no others, matter. -/
theorem PostsO.keepIn {w w' : World} {base : Nat} {v : Value} {L : List (Int × List (Int × Int))} (h : PostsO w base v L) (hk : ∀ i, base ≤ i → i < w.heap.size → w'.heap[i]? = w.heap[i]?) (hs : w.heap.size ≤ w'.heap.size) : PostsO w' base v L := by
  obtain ⟨R, h0, h1, h2⟩ := h
  exact ⟨R, h0, ownsRow_block h1 fun g hg => hk g (h1.lt g hg).1 (h1.lt g hg).2, fun i p x e1 e2 => (h2 i p x e1 e2).mono (fun i hi hf => ⟨hk i hf.1 hi, hf⟩) hs⟩
theorem PostsO.see {w : World} {base n c : Nat} {A : Option Addr} {L : List (Int × List (Int × Int))} (h : PostsO w base (.slice A n c) L) (hn : L.length = n) (h63 : n ≤ maxLen) : PostsSee w A n L where
  len := hn
  fit := h63
  nil := fun e => by
    obtain ⟨R, h0, h1, h2⟩ := h
    rcases h1.2 with ⟨_, h3⟩ | ⟨g, cap, cur, h3, _⟩
    · omega
    · rw [e] at h3; cases h3
  at_ := fun ad e i x hx => by
    obtain ⟨R, h0, h1, h2⟩ := h
    subst e
    have hz : ad = ⟨ad.block, 0, none⟩ := by
      rcases h1.2 with ⟨h3, _⟩ | ⟨g, cap, cur, h3, _⟩
      · cases h3
      · cases h3; rfl
    have hlt := (List.getElem?_eq_some_iff.1 hx).1
    obtain ⟨p, hp⟩ : ∃ p, R[i]? = some p := ⟨_, List.getElem?_eq_getElem (by omega)⟩
    obtain ⟨q1, q2, B, cc, q3, q4, q5, q6⟩ := h2 i p x hp hx
    have hc := fun j u (hj : (docCells p)[j]? = some u) => h1.cells (g := ad.block) rfl (i * 2 + j) u (doc_at R i j p u hp hj)
    have c0 := hc 0 _ rfl
    have c1 := hc 1 _ rfl
    have ha : ∀ k, (⟨ad.block, 0, none⟩ : Addr).add k = ⟨ad.block, k, none⟩ := fun k => by
      unfold Addr.add
      split
      · rename_i h0; rw [h0]
      · simp
    rw [ha] at c0 c1
    refine ⟨q2, ?_, B, cc, ?_, q4, q5⟩
    · rw [hz, ha, ← q1]; exact c0
    · rw [hz, ha, ← q3]; exact c1
/-- One posting more. -/
theorem PostsO.push {w w' : World} {base : Nat} {v v' : Value} {L : List (Int × List (Int × Int))} {x : Int × List (Int × Int)} {p : Int × Value} {R : List (Int × Value)} (h0 : R.length = L.length)
    (h2 : ∀ (i : Nat) (p : Int × Value) (x : Int × List (Int × Int)), R[i]? = some p → L[i]? = some x → PostAt w x p fun i => base ≤ i ∧ v.ownBlock ≠ some i) (hx : PostAt w x p fun i => base ≤ i ∧ v.ownBlock ≠ some i)
    (ho : w'.ownsRow base 46 2 v' (L.length + 1) (R.flatMap docCells ++ docCells p)) (hg : w.grownBy w' v.ownBlock) (hloc : v'.ownBlock = v.ownBlock ∨ ∃ g, v'.ownBlock = some g ∧ w.heap.size ≤ g) : PostsO w' base v' (L ++ [x]) := by
  have keep : ∀ {y q}, PostAt w y q (fun i => base ≤ i ∧ v.ownBlock ≠ some i) → PostAt w' y q fun i => base ≤ i ∧ v'.ownBlock ≠ some i := fun h => h.mono (fun i hi hf => ⟨hg.block i hi (fun e => hf.2 e.symm), hf.1, by
    rcases hloc with e | ⟨g, e, hge⟩
    · rw [e]; exact hf.2
    · rw [e]
      intro e2
      have : g = i := Option.some.inj e2
      omega⟩) hg.size
  refine ⟨R ++ [p], by simp [h0], by simpa using ho, fun i q y e1 e2 => ?_⟩
  rcases Nat.lt_or_ge i L.length with hi | hi
  · rw [List.getElem?_append_left (by omega)] at e1 e2
    exact keep (h2 i q y e1 e2)
  · have hlt := (List.getElem?_eq_some_iff.1 e2).1
    simp at hlt
    obtain rfl : i = L.length := by omega
    rw [List.getElem?_append_right (by omega)] at e1 e2
    simp [h0] at e1 e2
    subst e1 e2
    exact keep hx
end Go.Proofs.Ytmnofmcfkchebaa
