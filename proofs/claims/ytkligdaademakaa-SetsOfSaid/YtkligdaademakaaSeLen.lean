/- How long And, Or, Less get. -/
import Derived.Test.YtkligdaademakaaSePool
namespace Go.Proofs.Ytkligdaademakaa
open Go.RowKit Go.Maps Go.WideMaps

theorem few_and {a b : List Int} {k : Nat} (h : a.length ≤ k) : (andL [a, b]).length ≤ k := Nat.le_trans (List.length_filter_le _ _) h
theorem few_less {a b : List Int} {k : Nat} (h : a.length ≤ k) : (lessI a b).length ≤ k := Nat.le_trans (List.length_filter_le _ _) h
theorem few_orI (a b : List Int) : (orI a b).length ≤ a.length + b.length := by
  induction a, b using orI.induct with
  | case1 b => simp [orI]
  | case2 a r => simp [orI]
  | case3 a r b s h ih => rw [orI, if_pos h]; simp only [List.length_cons] at ih ⊢; omega
  | case4 a r b s h h2 ih => rw [orI, if_neg h, if_pos h2]; simp only [List.length_cons] at ih ⊢; omega
  | case5 a r b s h h2 ih => rw [orI, if_neg h, if_neg h2]; simp only [List.length_cons] at ih ⊢; omega
theorem few_or2 {a b : List Int} {j k : Nat} (h : a.length ≤ j) (h2 : b.length ≤ k) : (orL [a, b]).length ≤ j + k := by
  have h3 := few_orI (orI [] a) b
  have h4 := few_orI [] a
  simp only [List.length_nil] at h4
  show (orI (orI [] a) b).length ≤ _
  omega
theorem few_or3 {a b c : List Int} {j k m : Nat} (h : a.length ≤ j) (h2 : b.length ≤ k) (h3 : c.length ≤ m) : (orL [a, b, c]).length ≤ j + k + m := by
  have h4 := few_orI (orI (orI [] a) b) c
  have h5 := few_orI (orI [] a) b
  have h6 := few_orI [] a
  simp only [List.length_nil] at h6
  show (orI (orI (orI [] a) b) c).length ≤ _
  omega
theorem few_list {w : World} {A : Option Addr} {n : Nat} {l : List Int} (h : IntsIn w A n l) : (listI l).length ≤ n := by
  have h1 := listUp_len l l.length
  have h2 := h.2.1.len
  simp only [List.length_map] at h2
  unfold listI
  omega
end Go.Proofs.Ytkligdaademakaa
