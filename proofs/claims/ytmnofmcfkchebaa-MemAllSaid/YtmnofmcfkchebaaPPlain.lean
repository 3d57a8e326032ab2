/- Plain words of postings. -/
import Derived.Test.YtmnofmcfkchebaaPMath
namespace Go.Proofs.Ytmnofmcfkchebaa


theorem pAt_eq {l : List Pst} {i : Nat} {x : Pst} (h : l[i]? = some x) : pAt l i = x := by
  unfold pAt
  rw [List.getD_eq_getElem?_getD, h]
  rfl
/-- Of the first spots: do they rise? -/
def spAt (s : List (Int × Int)) (k : Nat) : Bool := decide ((if k = 0 then -1 else (s.getD (k - 1) (0, 0)).1) < (s.getD k (0, 0)).1) && decide ((if k = 0 then -1 else (s.getD (k - 1) (0, 0)).2) < (s.getD k (0, 0)).2)
theorem rises_iff {l : List Int} {p : Int} : rises p l = true ↔ ∀ k, k < l.length → (if k = 0 then p else l.getD (k - 1) 0) < l.getD k 0 := by
  rw [rises_at]
  constructor
  · intro h k hk
    have h1 := h k (l[k]'hk) (List.getElem?_eq_getElem hk)
    rw [List.getD_eq_getElem?_getD (l := l) (i := k), List.getElem?_eq_getElem hk]
    exact h1
  · intro h k x hx
    have hk := (List.getElem?_eq_some_iff.1 hx).1
    have h1 := h k hk
    rw [List.getD_eq_getElem?_getD (l := l) (i := k), hx] at h1
    exact h1
theorem getD_poss (s : List (Int × Int)) (k : Nat) : (poss s).getD k 0 = (s.getD k (0, 0)).1 ∧ (atss s).getD k 0 = (s.getD k (0, 0)).2 := by
  unfold poss atss
  rw [List.getD_eq_getElem?_getD, List.getD_eq_getElem?_getD, List.getD_eq_getElem?_getD, List.getElem?_map, List.getElem?_map]
  cases s[k]? <;> exact ⟨rfl, rfl⟩
theorem spots_rise {s : List (Int × Int)} : (rises (-1) (poss s) && rises (-1) (atss s)) = true ↔ ∀ k, k < s.length → spAt s k = true := by
  rw [Bool.and_eq_true, rises_iff, rises_iff]
  have n1 := poss_len s
  constructor
  · rintro ⟨h1, h2⟩ k hk
    have q1 := h1 k (by omega)
    have q2 := h2 k (by omega)
    rw [(getD_poss s k).1, (getD_poss s (k - 1)).1] at q1
    rw [(getD_poss s k).2, (getD_poss s (k - 1)).2] at q2
    unfold spAt
    rw [decide_eq_true q1, decide_eq_true q2]
    rfl
  · intro h
    constructor
    · intro k hk
      have h1 := h k (by omega)
      unfold spAt at h1
      rw [Bool.and_eq_true, decide_eq_true_eq, decide_eq_true_eq] at h1
      rw [(getD_poss s k).1, (getD_poss s (k - 1)).1]
      exact h1.1
    · intro k hk
      have h1 := h k (by omega)
      unfold spAt at h1
      rw [Bool.and_eq_true, decide_eq_true_eq, decide_eq_true_eq] at h1
      rw [(getD_poss s k).2, (getD_poss s (k - 1)).2]
      exact h1.2
theorem sp_low {s : List (Int × Int)} {k : Nat} (h : ∀ j, j < k → spAt s j = true) : ∀ j, j < k → 0 ≤ (s.getD j (0, 0)).1 ∧ 0 ≤ (s.getD j (0, 0)).2
  | 0, hj => by
    have h1 := h 0 hj
    unfold spAt at h1
    simp only [Bool.and_eq_true, decide_eq_true_eq, if_true] at h1
    omega
  | j + 1, hj => by
    have ih := sp_low h j (by omega)
    have h1 := h (j + 1) hj
    unfold spAt at h1
    simp only [Bool.and_eq_true, decide_eq_true_eq, Nat.add_sub_cancel, if_neg (Nat.succ_ne_zero j)] at h1
    omega
theorem check_many {l : List Pst} (h : 4096 < l.length) : checkP l = 2 := by unfold checkP; rw [if_pos h]
theorem check_spots {l : List Pst} {k : Nat} (hk : k < l.length) (h : 4096 < (pAt l k).2.length) : checkP l = 2 := by
  unfold checkP
  split
  · rfl
  · rw [if_pos]
    cases hm : manyUp l l.length with
    | true => rfl
    | false => have := manyUp_iff.1 hm k hk; omega
theorem check_bad {l : List Pst} (h1 : l.length ≤ 4096) (h2 : manyUp l l.length = false) {k : Nat} (hk : k < l.length) (h : okAt l k = false) : checkP l = 1 := by
  unfold checkP
  rw [if_neg (by omega), h2, if_neg (by simp), if_neg]
  intro e
  rw [okUp_iff.1 e k hk] at h
  cases h
theorem check_good {l : List Pst} (h1 : l.length ≤ 4096) (h2 : manyUp l l.length = false) (h : okUp l l.length = true) : checkP l = 0 := by
  unfold checkP
  rw [if_neg (by omega), h2, if_neg (by simp), if_pos h]
theorem okAt_spots {l : List Pst} {i : Nat} (h : (rises (-1) (poss (pAt l i).2) && rises (-1) (atss (pAt l i).2)) = false) : okAt l i = false := by
  unfold okAt
  rw [h]
  simp
end Go.Proofs.Ytmnofmcfkchebaa
