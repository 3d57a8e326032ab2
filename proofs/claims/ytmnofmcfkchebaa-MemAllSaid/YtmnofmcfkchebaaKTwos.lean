/- Rows of one's own of structs of two integers. -/
import Derived.Test.YtmnofmcfkchebaaKPairs
import Derived.Test.YtmnofmcfkchebaaKInts
namespace Go.Proofs.Ytmnofmcfkchebaa
open Go.RowKit Go.Maps Go.WideMaps

def twoCells (p : Int × Int) : List Value := [.int .i64 p.1, .int .i64 p.2]
theorem two_len (l : List (Int × Int)) : (l.flatMap twoCells).length = l.length * 2 := by
  induction l with
  | nil => rfl
  | cons a r ih => rw [List.flatMap_cons, List.length_append, ih, List.length_cons]; simp [twoCells]; omega
theorem two_at : ∀ (l : List (Int × Int)) (i j : Nat) (p : Int × Int) (u : Value), l[i]? = some p → (twoCells p)[j]? = some u → (l.flatMap twoCells)[i * 2 + j]? = some u
  | [], i, j, p, u, h, _ => by simp at h
  | a :: r, 0, j, p, u, h, h2 => by
    simp at h
    subst h
    rw [List.flatMap_cons, List.getElem?_append_left (by have := (List.getElem?_eq_some_iff.1 h2).1; omega)]
    simpa using h2
  | a :: r, i + 1, j, p, u, h, h2 => by
    have hl : (twoCells a).length = 2 := rfl
    rw [List.flatMap_cons, List.getElem?_append_right (by omega), hl, show (i + 1) * 2 + j - 2 = i * 2 + j by omega]
    exact two_at r i j p u (by simpa using h) h2
theorem two_one (p : Int × Int) : ∀ u ∈ twoCells p, u.oneCell' = true := fun u hu => by
  simp [twoCells] at hu
  rcases hu with rfl | rfl <;> rfl
/-- A pair in a new block, as a source. -/
theorem two_new (w : World) (e : TypeId) (p : Int × Int) : ∀ (j : Nat) (u : Value), (twoCells p)[j]? = some u → (w.alloc (.cells #[.int .i64 p.1, .int .i64 p.2] e)).cell? ((⟨w.heap.size, 0, none⟩ : Addr).add j) = some u := by
  intro j u h
  have hB := Blk.new w e #[.int .i64 p.1, .int .i64 p.2]
  match j with
  | 0 =>
    simp [twoCells] at h
    subst h
    exact hB.cell 0
  | 1 =>
    simp [twoCells] at h
    subst h
    exact hB.cell 1
  | j + 2 => simp [twoCells] at h
theorem PairsIn.ownTwo {w : World} {base : Nat} {e : TypeId} {A : Option Addr} {n c : Nat} {l : List (Int × Int)} (h : w.ownsRow base e 2 (.slice A n c) n (l.flatMap twoCells)) (hl : l.length = n) (h63 : n ≤ maxLen) (hf : ∀ p ∈ l, fits64 p.1 ∧ fits64 p.2) : PairsIn w A n l where
  len := hl
  fit := h63
  vals := hf
  nil := fun e1 => by
    rcases h.2 with ⟨_, h0⟩ | ⟨g, cap, cur, h1, _⟩
    · exact h0
    · rw [e1] at h1; cases h1
  cells := fun ad e1 i p hp => by
    subst e1
    have hz : ad = ⟨ad.block, 0, none⟩ := by
      rcases h.2 with ⟨h1, _⟩ | ⟨g, cap, cur, h1, _⟩
      · cases h1
      · cases h1; rfl
    have hc := fun j u (hj : (twoCells p)[j]? = some u) => h.cells (g := ad.block) rfl (i * 2 + j) u (two_at l i j p u hp hj)
    have c0 := hc 0 _ rfl
    have c1 := hc 1 _ rfl
    have ha : ∀ k, (⟨ad.block, 0, none⟩ : Addr).add k = ⟨ad.block, k, none⟩ := fun k => by
      unfold Addr.add
      split
      · rename_i h0; rw [h0]
      · simp
    rw [ha] at c0 c1
    rw [hz, ha, ha]
    exact ⟨c0, c1⟩
theorem PairsIn.drewN {w : World} {A : Option Addr} {n : Nat} {l : List (Int × Int)} (h : PairsIn w A n l) (q : Nat) : PairsIn (w.drewN q) A n l := h.below (below_drewN (Below.refl _ _) q)
end Go.Proofs.Ytmnofmcfkchebaa
