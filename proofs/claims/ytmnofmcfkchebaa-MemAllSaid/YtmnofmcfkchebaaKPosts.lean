/- Postings: slices of an int and a slice of pairs of ints, to read. -/
import Derived.Test.YtmnofmcfkchebaaKPairs
import Derived.Test.YtmnofmcfkchebaaKTwos
namespace Go.Proofs.Ytmnofmcfkchebaa
open Go.RowKit Go.Maps Go.WideMaps

structure PostsSee (w : World) (A : Option Addr) (n : Nat) (l : List (Int × List (Int × Int))) : Prop where
  len : l.length = n
  fit : n ≤ maxLen
  nil : A = none → n = 0
  at_ : ∀ ad, A = some ad → ∀ (i : Nat) (x : Int × List (Int × Int)), l[i]? = some x → fits64 x.1 ∧ w.cell? (ad.add (i * 2)) = some (.int .i64 x.1) ∧ ∃ B c, w.cell? (ad.add (i * 2 + 1)) = some (.slice B x.2.length c) ∧ x.2.length ≤ c ∧ PairsIn w B x.2.length x.2
theorem PostsSee.below {w w' : World} {A : Option Addr} {n : Nat} {l : List (Int × List (Int × Int))} (h : PostsSee w A n l) (hb : Below w.heap.size w w') : PostsSee w' A n l where
  len := h.len
  fit := h.fit
  nil := h.nil
  at_ := fun ad e i x hx => by
    obtain ⟨h1, h2, B, c, h3, h4, h5⟩ := h.at_ ad e i x hx
    exact ⟨h1, below_cells hb h2, B, c, below_cells hb h3, h4, h5.below hb⟩
theorem PostsSee.drewN {w : World} {A : Option Addr} {n : Nat} {l : List (Int × List (Int × Int))} (h : PostsSee w A n l) (q : Nat) : PostsSee (w.drewN q) A n l := h.below (below_drewN (Below.refl _ _) q)
theorem PostsSee.at {w : World} {A : Option Addr} {n : Nat} {l : List (Int × List (Int × Int))} (h : PostsSee w A n l) (k : Nat) (hk : k < n) :
    ∃ ad x B c, A = some ad ∧ l[k]? = some x ∧ fits64 x.1 ∧ w.cell? (ad.add (k * 2)) = some (.int .i64 x.1) ∧ w.cell? ⟨(ad.add (k * 2)).block, (ad.add (k * 2)).off + 1, none⟩ = some (.slice B x.2.length c) ∧ x.2.length ≤ c ∧ PairsIn w B x.2.length x.2 := by
  have hl := h.len
  cases hA : A with
  | none => have := h.nil hA; omega
  | some ad =>
    subst hA
    have hx : l[k]? = some (l[k]'(by omega)) := List.getElem?_eq_getElem _
    obtain ⟨h1, h2, B, c, h3, h4, h5⟩ := h.at_ ad rfl k _ hx
    rw [add_pos' _ _ _ (by omega)] at h3
    exact ⟨ad, _, B, c, rfl, hx, h1, h2, h3, h4, h5⟩
end Go.Proofs.Ytmnofmcfkchebaa
