/- Aligns of one byte. -/
import Derived.Test.YtjnbilcanfhkjaaOLMath
namespace Go.Proofs.Ytjnbilcanfhkjaa
open Go.RowKit Go.Maps Go.WideMaps

theorem may_one {t : Nm} {h x : UInt8} {k : Nat} (hx : t[k]? = some x) : mayB t [h] k = decide (x = h) := by
  obtain ⟨h1, h2⟩ := List.getElem?_eq_some_iff.1 hx
  rw [Bool.eq_iff_iff, may_iff, decide_eq_true_eq]
  have e : min (t.length - k) [h].length = 1 := by simp; omega
  rw [e, List.drop_eq_getElem_cons h1, h2]
  simp [h1]
theorem alT_prefix (t s : Nm) (i : Int) {k q : Nat} (h : k ≤ q) : ∃ r, alT t s i q = alT t s i k ++ r := by
  induction q with
  | zero => obtain rfl : k = 0 := by omega
            exact ⟨[], by simp⟩
  | succ q ih =>
    rcases Nat.lt_or_ge q k with h1 | h1
    · obtain rfl : k = q + 1 := by omega
      exact ⟨[], by simp⟩
    · obtain ⟨r, hr⟩ := ih h1
      simp only [alT]
      split
      · exact ⟨r ++ [(i, (q : Int))], by rw [hr, List.append_assoc]⟩
      · exact ⟨r, hr⟩
theorem alUp_prefix (L : List Nm) (s : Nm) {i n : Nat} (h : i ≤ n) : ∃ r, alUp L s n = alUp L s i ++ r := by
  induction n with
  | zero => obtain rfl : i = 0 := by omega
            exact ⟨[], by simp⟩
  | succ n ih =>
    rcases Nat.lt_or_ge n i with h1 | h1
    · obtain rfl : i = n + 1 := by omega
      exact ⟨[], by simp⟩
    · obtain ⟨r, hr⟩ := ih h1
      simp only [alUp]
      exact ⟨r ++ alT (L.getD n []) s n (L.getD n []).length, by rw [hr, List.append_assoc]⟩
theorem al_here {L : List Nm} {s t : Nm} {i k n : Nat} (hi : i < n) (ht : L.getD i [] = t) (hk : k < t.length) (h : mayB t s k = true) : (alUp L s n)[(alUp L s i).length + (alT t s i k).length]? = some ((i : Int), (k : Int)) := by
  obtain ⟨r, hr⟩ := alUp_prefix L s (show i + 1 ≤ n by omega)
  obtain ⟨r2, hr2⟩ := alT_prefix t s i (show k + 1 ≤ t.length by omega)
  have e : alT t s i (k + 1) = alT t s i k ++ [((i : Int), (k : Int))] := by simp only [alT]; rw [if_pos h]
  have e2 : alUp L s (i + 1) = alUp L s i ++ alT t s i t.length := by simp only [alUp]; rw [ht]
  rw [hr, e2, hr2, e]
  simp only [List.append_assoc]
  rw [List.getElem?_append_right (by omega), Nat.add_sub_cancel_left, List.getElem?_append_right (by omega), Nat.sub_self]
  rfl
theorem may_self {t : Nm} (h : 0 < t.length) : mayB t t ((0 : Nat) : Int) = true := (may_iff t t 0).2 ⟨h, h, by simp⟩
theorem own_in {L : List Nm} {t : Nm} {q : Nat} (hq : q < L.length) (ht : L.getD q [] = t) (h : 0 < t.length) : ((q : Int), (0 : Int)) ∈ alUp L t L.length := alUp_mem.2 ⟨q, 0, hq, rfl, rfl, by rw [ht]; exact h, by rw [ht]; exact may_self h⟩
end Go.Proofs.Ytjnbilcanfhkjaa
