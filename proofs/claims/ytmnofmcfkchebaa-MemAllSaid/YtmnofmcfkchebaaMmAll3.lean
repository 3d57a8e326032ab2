/- What MemAll looks for: a document that was added and has a token there. -/
import Derived.Test.YtmnofmcfkchebaaMmAll0
import Derived.Test.YtmnofmcfkchebaaMmAll1
namespace Go.Proofs.Ytmnofmcfkchebaa
set_option linter.unusedSimpArgs false

/-- Has the document the token t at the place, and the byte? -/
def isAt (x : MDoc) (d pos at_ t : Int) : Bool := x.doc == d && (decide (pos < (x.T.length : Int)) && (x.T.getD pos.toNat 0 == t && x.S.getD pos.toNat 0 == at_))
def foundUp (L : List MDoc) (d pos at_ t : Int) : Nat → Bool
  | 0 => false
  | a + 1 => foundUp L d pos at_ t a || isAt (mD L a) d pos at_ t
theorem found_iff (L : List MDoc) (d pos at_ t : Int) : ∀ a, foundUp L d pos at_ t a = true ↔ ∃ i, i < a ∧ isAt (mD L i) d pos at_ t = true
  | 0 => by simp [foundUp]
  | a + 1 => by
    rw [foundUp, Bool.or_eq_true, found_iff L d pos at_ t a]
    constructor
    · rintro (⟨i, h1, h2⟩ | h)
      · exact ⟨i, by omega, h2⟩
      · exact ⟨a, by omega, h⟩
    · rintro ⟨i, h1, h2⟩
      rcases Nat.lt_or_ge i a with h3 | h3
      · exact .inl ⟨i, h3, h2⟩
      · obtain rfl : i = a := by omega
        exact .inr h2
/-- Each spot is found. -/
theorem found_spot {L : List MDoc} {t : Int} {p : Pst} {s : Int × Int} (hp : p ∈ mPosts L t) (hs : s ∈ p.2) : foundUp L p.1 s.1 s.2 t L.length = true := by
  obtain ⟨x, hx, hd, i, hi, ht, rfl⟩ := spot_from hp hs
  obtain ⟨k, hk, rfl⟩ := List.getElem_of_mem hx
  refine (found_iff L _ _ _ _ _).2 ⟨k, hk, ?_⟩
  have hm : mD L k = L[k] := by unfold mD; rw [List.getD_eq_getElem?_getD, List.getElem?_eq_getElem hk]; rfl
  rw [hm]
  unfold isAt
  simp only [Int.toNat_natCast, hd, ht, beq_self_eq_true, Bool.true_and, Bool.and_true, decide_eq_true_eq]
  omega
theorem spotsOf_take (P : List Pst) (k : Nat) {p : Pst} (h : P[k]? = some p) : spotsOf (P.take (k + 1)) = spotsOf (P.take k) + p.2.length := by
  unfold spotsOf
  rw [List.take_add_one, h]
  simp
/-- All spots of the first k terms. -/
def spotsTo (L : List MDoc) (T : List Int) (k : Nat) : Nat := ((T.take k).map fun t => spotsOf (mPosts L t)).sum
theorem spotsTo_next (L : List MDoc) {T : List Int} {k : Nat} {t : Int} (h : T[k]? = some t) : spotsTo L T (k + 1) = spotsTo L T k + spotsOf (mPosts L t) := by
  unfold spotsTo
  rw [List.take_add_one, h]
  simp
theorem spotsTo_all (L : List MDoc) : spotsTo L (mTerms L) (mTerms L).length = totT L := by
  unfold spotsTo
  rw [List.take_length]
  exact terms_count L
theorem spotsTo_mono (L : List MDoc) (T : List Int) (k : Nat) : spotsTo L T k ≤ spotsTo L T T.length := by
  unfold spotsTo
  rw [List.take_length]
  conv => rhs; rw [← List.take_append_drop k T]
  rw [List.map_append, List.sum_append]
  omega
theorem spotsOf_mono (P : List Pst) (k : Nat) : spotsOf (P.take k) ≤ spotsOf P := by
  conv => rhs; rw [← List.take_append_drop k P]
  unfold spotsOf
  rw [List.map_append, List.sum_append]
  omega
end Go.Proofs.Ytmnofmcfkchebaa
