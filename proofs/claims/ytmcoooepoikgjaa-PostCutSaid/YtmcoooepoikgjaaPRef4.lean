/- The document's Check. -/
import Derived.Test.YtmcoooepoikgjaaPRef2
namespace Go.Proofs.Ytmcoooepoikgjaa
open Go.RowKit Go.Maps Go.WideMaps
set_option linter.unusedSimpArgs false

/-- Of the first spots: do they rise? -/
def spAt (s : List (Int × Int)) (k : Nat) : Bool := decide ((if k = 0 then -1 else (s.getD (k - 1) (0, 0)).1) < (s.getD k (0, 0)).1) && decide ((if k = 0 then -1 else (s.getD (k - 1) (0, 0)).2) < (s.getD k (0, 0)).2)
theorem rises_iff {l : List Int} {p : Int} : rises p l = true ↔ ∀ k, k < l.length → (if k = 0 then p else l.getD (k - 1) 0) < l.getD k 0 := by
  rw [rises_at]
  constructor
  · intro h k hk
    have h1 := h k (l[k]'hk) (List.getElem?_eq_getElem hk)
    rw [List.getD_eq_getElem?_getD (l := l) (i := k), List.getElem?_eq_getElem hk]
    exact h1
  · intro h k x hx
    have hk := (List.getElem?_eq_some_iff.1 hx).1
    have h1 := h k hk
    rw [List.getD_eq_getElem?_getD (l := l) (i := k), hx] at h1
    exact h1
theorem getD_poss (s : List (Int × Int)) (k : Nat) : (poss s).getD k 0 = (s.getD k (0, 0)).1 ∧ (atss s).getD k 0 = (s.getD k (0, 0)).2 := by
  unfold poss atss
  rw [List.getD_eq_getElem?_getD, List.getD_eq_getElem?_getD, List.getD_eq_getElem?_getD, List.getElem?_map, List.getElem?_map]
  cases s[k]? <;> exact ⟨rfl, rfl⟩
theorem spots_rise {s : List (Int × Int)} : (rises (-1) (poss s) && rises (-1) (atss s)) = true ↔ ∀ k, k < s.length → spAt s k = true := by
  rw [Bool.and_eq_true, rises_iff, rises_iff]
  have n1 := poss_len s
  constructor
  · rintro ⟨h1, h2⟩ k hk
    have q1 := h1 k (by omega)
    have q2 := h2 k (by omega)
    rw [(getD_poss s k).1, (getD_poss s (k - 1)).1] at q1
    rw [(getD_poss s k).2, (getD_poss s (k - 1)).2] at q2
    unfold spAt
    rw [decide_eq_true q1, decide_eq_true q2]
    rfl
  · intro h
    constructor
    · intro k hk
      have h1 := h k (by omega)
      unfold spAt at h1
      rw [Bool.and_eq_true, decide_eq_true_eq, decide_eq_true_eq] at h1
      rw [(getD_poss s k).1, (getD_poss s (k - 1)).1]
      exact h1.1
    · intro k hk
      have h1 := h k (by omega)
      unfold spAt at h1
      rw [Bool.and_eq_true, decide_eq_true_eq, decide_eq_true_eq] at h1
      rw [(getD_poss s k).2, (getD_poss s (k - 1)).2]
      exact h1.2
end Go.Proofs.Ytmcoooepoikgjaa
