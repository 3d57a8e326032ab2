/- Sets as lists: the document's operations. -/
import Derived.Test.YtkligdaademakaaKInts
namespace Go.Proofs.Ytkligdaademakaa

/-- What List takes of the first k, and the last that it took. -/
def listUp (l : List Int) : Nat → List Int × Int
  | 0 => ([], -1)
  | k + 1 => if (listUp l k).2 < l.getD k 0 then ((listUp l k).1 ++ [l.getD k 0], l.getD k 0) else listUp l k
def listI (l : List Int) : List Int := (listUp l l.length).1
def allI (n : Nat) : List Int := (List.range n).map fun (k : Nat) => (k : Int)
def hasI (l : List Int) (x : Int) : Bool := decide (x ∈ l)
def andI (a b : List Int) : List Int := a.filter (hasI b)
def lessI (a b : List Int) : List Int := a.filter fun x => !hasI b x
def orI : List Int → List Int → List Int
  | [], b => b
  | a :: r, [] => a :: r
  | a :: r, b :: s => if a < b then a :: orI r (b :: s) else if b < a then b :: orI (a :: r) s else a :: orI r s
termination_by a b => a.length + b.length
theorem listUp_len (l : List Int) : ∀ k, (listUp l k).1.length ≤ k
  | 0 => by simp [listUp]
  | k + 1 => by
    have ih := listUp_len l k
    simp only [listUp]
    split
    · simp; omega
    · omega
theorem listUp_last (l : List Int) : ∀ k, k ≤ l.length → (listUp l k).2 = -1 ∨ (listUp l k).2 ∈ l
  | 0, _ => .inl rfl
  | k + 1, hk => by
    have ih := listUp_last l k (by omega)
    simp only [listUp]
    split
    · refine .inr ?_
      simp only
      rw [List.getD_eq_getElem?_getD, List.getElem?_eq_getElem (by omega)]
      exact List.getElem_mem _
    · exact ih
/-- Where both stand on. -/
theorem or_left {a b : List Int} {i k : Nat} {x : Int} (h : a[i]? = some x) (hb : b.length ≤ k ∨ ∃ y, b[k]? = some y ∧ x < y) : orI (a.drop i) (b.drop k) = x :: orI (a.drop (i + 1)) (b.drop k) := by
  have e : a.drop i = x :: a.drop (i + 1) := by
    obtain ⟨h1, h2⟩ := List.getElem?_eq_some_iff.1 h
    rw [← h2, List.getElem_cons_drop]
  rw [e]
  rcases hb with hb | ⟨y, hy, hlt⟩
  · rw [List.drop_eq_nil_of_le hb]
    cases a.drop (i + 1) with
    | nil => simp [orI]
    | cons z r => simp [orI]
  · have e2 : b.drop k = y :: b.drop (k + 1) := by
      obtain ⟨h1, h2⟩ := List.getElem?_eq_some_iff.1 hy
      rw [← h2, List.getElem_cons_drop]
    rw [e2, orI, if_pos hlt]
theorem or_right {a b : List Int} {i k : Nat} {y : Int} (h : b[k]? = some y) (ha : a.length ≤ i ∨ ∃ x, a[i]? = some x ∧ y < x) : orI (a.drop i) (b.drop k) = y :: orI (a.drop i) (b.drop (k + 1)) := by
  have e2 : b.drop k = y :: b.drop (k + 1) := by
    obtain ⟨h1, h2⟩ := List.getElem?_eq_some_iff.1 h
    rw [← h2, List.getElem_cons_drop]
  rw [e2]
  rcases ha with ha | ⟨x, hx, hlt⟩
  · rw [List.drop_eq_nil_of_le ha]
    simp [orI]
  · have e : a.drop i = x :: a.drop (i + 1) := by
      obtain ⟨h1, h2⟩ := List.getElem?_eq_some_iff.1 hx
      rw [← h2, List.getElem_cons_drop]
    rw [e, orI, if_neg (by omega), if_pos hlt]
theorem or_both {a b : List Int} {i k : Nat} {x : Int} (h : a[i]? = some x) (h2 : b[k]? = some x) : orI (a.drop i) (b.drop k) = x :: orI (a.drop (i + 1)) (b.drop (k + 1)) := by
  have e : a.drop i = x :: a.drop (i + 1) := by
    obtain ⟨h1, h2⟩ := List.getElem?_eq_some_iff.1 h
    rw [← h2, List.getElem_cons_drop]
  have e2 : b.drop k = x :: b.drop (k + 1) := by
    obtain ⟨h1, h3⟩ := List.getElem?_eq_some_iff.1 h2
    rw [← h3, List.getElem_cons_drop]
  rw [e, e2, orI, if_neg (by omega), if_neg (by omega)]
end Go.Proofs.Ytkligdaademakaa
