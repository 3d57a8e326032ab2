/- What MemOne needs besides: one document in a block; a row of numbers of one's own that is changed; the last of a token's postings. -/
import Derived.Test.YtmnofmcfkchebaaMmLaw0
namespace Go.Proofs.Ytmnofmcfkchebaa
open Go.RowKit Go.Maps Go.WideMaps
set_option linter.unusedSimpArgs false

theorem ones_one {w : World} {g : Nat} {e : TypeId} {x : MDoc} {B C : Option Addr} {n m c k : Nat} (h : Blk w g e #[.int .i64 x.doc, .slice B n c, .slice C m k]) (hd : fits64 x.doc) (hB : IntsIn w B n x.T) (hC : IntsIn w C m x.S) (hc : n ≤ c) (hk : m ≤ k) : OnesSee w (some ⟨g, 0, none⟩) 1 [x] where
  len := rfl
  fit := by unfold maxLen; omega
  nil := fun e => by cases e
  at_ := fun ad e i y hy => by
    cases e
    match i with
    | 0 =>
      simp at hy
      subst hy
      have h1 := hB.len
      have h2 := hC.len
      rw [h1, h2]
      exact ⟨hd, h.cell 0, ⟨B, c, h.cell 1, hc, hB⟩, C, k, h.cell 2, hk, hC⟩
    | i + 1 => simp at hy
theorem addr_at (g k : Nat) : (⟨g, 0, none⟩ : Addr).add k = ⟨g, k, none⟩ := by unfold Addr.add; split <;> simp_all
/-- A row of numbers of one's own, whatever they are. -/
def NumRow (w : World) (base : Nat) (A : Option Addr) (n : Nat) : Prop := ∀ j, j < n → ∃ g cur y, A = some ⟨g, 0, none⟩ ∧ base ≤ g ∧ g < w.heap.size ∧ Blk w g 3 cur ∧ cur[j]? = some (.int .i64 y) ∧ -9223372036854775808 ≤ y ∧ y ≤ 9223372036854775807
theorem NumRow.of {w : World} {base : Nat} {A : Option Addr} {n c : Nat} {l : List Int} (h : w.ownsRow base 3 1 (.slice A n c) n (l.map i64V)) (hl : ∀ x ∈ l, -9223372036854775808 ≤ x ∧ x ≤ 9223372036854775807) : NumRow w base A n := fun j hj => by
  obtain ⟨h0, h1⟩ := h
  rcases h1 with ⟨-, h1⟩ | ⟨g, cap, cur, h1, h2, h3, h4, h5, h6, h7⟩
  · omega
  · injection h1 with h1
    have hlen : l.length = n := by simpa using h0
    have hj' : l[j]? = some l[j] := List.getElem?_eq_getElem (by omega)
    have hc : (cur.toList.take (n * 1))[j]? = some (.int .i64 l[j]) := by rw [h7, List.getElem?_map, hj']; rfl
    rw [List.getElem?_take, if_pos (by omega), Array.getElem?_toList] at hc
    have hf := hl _ (List.getElem_mem (by omega : j < l.length))
    have hb : Blk w g 3 cur := h3
    exact ⟨g, cur, l[j], h1, h2, hb.lt, hb, hc, hf.1, hf.2⟩
theorem NumRow.below {w w' : World} {base : Nat} {A : Option Addr} {n : Nat} (h : NumRow w base A n) (hk : ∀ i, base ≤ i → i < w.heap.size → w'.heap[i]? = w.heap[i]?) (hs : w.heap.size ≤ w'.heap.size) : NumRow w' base A n := fun j hj => by
  obtain ⟨g, cur, y, h1, h2, h3, h4, h5⟩ := h j hj
  exact ⟨g, cur, y, h1, h2, by omega, (hk g h2 h3).trans h4, h5⟩
theorem NumRow.set {w : World} {base g j : Nat} {n : Nat} {z : Int} (h : NumRow w base (some ⟨g, 0, none⟩) n) (hz : -9223372036854775808 ≤ z ∧ z ≤ 9223372036854775807) (hj : j < n) : NumRow (w.setCell ⟨g, j, none⟩ (.int .i64 z)) base (some ⟨g, 0, none⟩) n := fun i hi => by
  obtain ⟨g', cur, y, h1, h2, h3, h4, h5, h6⟩ := h i hi
  cases h1
  have hsz := size_setCell' w ⟨g, j, none⟩ (.int .i64 z)
  by_cases hij : i = j
  · subst hij
    exact ⟨g, _, z, rfl, h2, by omega, h4.set_ i _, by rw [Array.getElem?_setIfInBounds, if_pos rfl, if_pos (by have := (Array.getElem?_eq_some_iff.1 h5).1; omega)], hz.1, hz.2⟩
  · exact ⟨g, _, y, rfl, h2, by omega, h4.set_ j _, by rw [Array.getElem?_setIfInBounds, if_neg (by omega)]; exact h5, h6.1, h6.2⟩
/-- What the last of a token's postings is, after an Add. -/
theorem posts_last {L : List MDoc} {x : MDoc} {i : Nat} (hi : i < x.T.length) : ∃ P, mPosts (L ++ [x]) (x.T.getD i 0) = P ++ [(x.doc, mSpots x (x.T.getD i 0))] := by
  have hup : ∀ (t : Int) (k : Nat), k ≤ L.length → postUp (L ++ [x]) t k = postUp L t k := fun t k => by
    induction k with
    | zero => intro _; rfl
    | succ k ih => intro hk; rw [postUp, postUp, ih (by omega), mD_left (by omega)]
  refine ⟨postUp L (x.T.getD i 0) L.length, ?_⟩
  unfold mPosts
  rw [List.length_append, List.length_singleton, postUp, mD_last, hup _ _ (Nat.le_refl _)]
  unfold postOne
  have hp : 0 < (mSpots x (x.T.getD i 0)).length := List.length_pos_of_mem (spotUp_mem.2 ⟨i, hi, rfl, rfl⟩ : (((i : Nat) : Int), x.S.getD i 0) ∈ mSpots x (x.T.getD i 0))
  rw [if_pos hp]
/-- Is place i among the first k spots? -/
def posUp (s : List (Int × Int)) (i : Int) : Nat → Bool
  | 0 => false
  | k + 1 => posUp s i k || (s.getD k (0, 0)).1 == i
theorem posUp_true {s : List (Int × Int)} {i : Int} : ∀ {k j : Nat}, j < k → (s.getD j (0, 0)).1 = i → posUp s i k = true
  | k + 1, j, h, e => by
    rw [posUp]
    rcases Nat.lt_or_ge j k with h1 | h1
    · rw [posUp_true h1 e]; rfl
    · obtain rfl : j = k := by omega
      rw [e]
      simp
theorem pos_there {x : MDoc} {i : Nat} (hi : i < x.T.length) : posUp (mSpots x (x.T.getD i 0)) i (mSpots x (x.T.getD i 0)).length = true := by
  have hm : (((i : Nat) : Int), x.S.getD i 0) ∈ mSpots x (x.T.getD i 0) := spotUp_mem.2 ⟨i, hi, rfl, rfl⟩
  obtain ⟨j, hj, e⟩ := List.getElem_of_mem hm
  refine posUp_true hj ?_
  rw [List.getD_eq_getElem?_getD, List.getElem?_eq_getElem hj, e]
  rfl
theorem spot_at {x : MDoc} {t : Int} {i k : Nat} {p : Int × Int} (h : (mSpots x t)[k]? = some p) (e : p.1 = (i : Int)) : p.2 = x.S.getD i 0 := by
  obtain ⟨j, -, -, rfl⟩ := spotUp_mem.1 (List.mem_of_getElem? h)
  simp only at e ⊢
  rw [show j = i by omega]
end Go.Proofs.Ytmnofmcfkchebaa
