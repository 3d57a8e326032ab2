/- Postings out of order, with one twice, or without a spot. -/
import Derived.Test.YtmcoooepoikgjaaPMath5
import Derived.Test.YtmcoooepoikgjaaPRef5
namespace Go.Proofs.Ytmcoooepoikgjaa

theorem pAt_left {a b : List Pst} {i : Nat} (h : i < a.length) : pAt (a ++ b) i = pAt a i := by
  unfold pAt
  rw [List.getD_eq_getElem?_getD, List.getD_eq_getElem?_getD, List.getElem?_append_left h]
theorem pAt_right {a b : List Pst} {i : Nat} (h : a.length ≤ i) : pAt (a ++ b) i = pAt b (i - a.length) := by
  unfold pAt
  rw [List.getD_eq_getElem?_getD, List.getD_eq_getElem?_getD, List.getElem?_append_right h]
theorem pAt_drop {l : List Pst} {k i : Nat} : pAt (l.drop k) i = pAt l (k + i) := by
  unfold pAt
  rw [List.getD_eq_getElem?_getD, List.getD_eq_getElem?_getD, List.getElem?_drop]
theorem many_no {l : List Pst} (h : ∀ x ∈ l, x.2.length ≤ 4096) : manyUp l l.length = false := manyUp_iff.2 fun _ hi => h _ (pAt_mem hi)
theorem okAt_no {l : List Pst} {i : Nat} (h : (pAt l i).1 ≤ lastD l i) : okAt l i = false := by
  rcases Bool.eq_false_or_eq_true (okAt l i) with h1 | h1
  · have := (okAt_iff.1 h1).2.2.1
    omega
  · exact h1
theorem check_twice {l : List Pst} (h : ValidP l) {k : Nat} (hk : k < l.length) : 4096 < (l.take (k + 1) ++ l.drop k).length ∨ checkP (l.take (k + 1) ++ l.drop k) = 1 := by
  obtain ⟨L, hL⟩ : ∃ L, L = l.take (k + 1) ++ l.drop k := ⟨_, rfl⟩
  have hlen : L.length = l.length + 1 := by rw [hL, List.length_append, List.length_take, List.length_drop]; omega
  have htl : (l.take (k + 1)).length = k + 1 := by rw [List.length_take]; omega
  have hmem : ∀ x ∈ L, x ∈ l := fun x hx => by
    rw [hL] at hx
    rcases List.mem_append.1 hx with h | h
    · exact List.mem_of_mem_take h
    · exact List.mem_of_mem_drop h
  have e1 : pAt L k = pAt l k := by rw [hL, pAt_left (by omega), pAt_take (by omega)]
  have e2 : pAt L (k + 1) = pAt l k := by rw [hL, pAt_right (by omega), htl, pAt_drop]; simp
  rw [← hL]
  rcases Nat.lt_or_ge 4096 L.length with h1 | h1
  · exact .inl h1
  · refine .inr (check_bad h1 (many_no fun x hx => h.spots x (hmem x hx)) (k := k + 1) (by omega) (okAt_no ?_))
    unfold lastD
    rw [if_neg (by omega), e2, Nat.add_sub_cancel, e1]
    exact Int.le_refl _
theorem check_none {l : List Pst} (h : ValidP l) {k : Nat} (hk : k < l.length) (d : Int) : checkP (l.set k (d, [])) = 1 := by
  refine check_bad (by rw [List.length_set]; exact h.few) ?_ (k := k) (by rw [List.length_set]; exact hk) ?_
  · refine many_no fun x hx => ?_
    rcases List.mem_or_eq_of_mem_set hx with h1 | rfl
    · exact h.spots x h1
    · simp
  · have e : pAt (l.set k (d, [])) k = (d, []) := by
      unfold pAt
      rw [List.getD_eq_getElem?_getD, List.getElem?_set_self hk]
      rfl
    rcases Bool.eq_false_or_eq_true (okAt (l.set k (d, [])) k) with h1 | h1
    · have := (okAt_iff.1 h1).2.2.2.1
      rw [e] at this
      simp at this
    · exact h1
theorem check_late {l : List Pst} (h : ValidP l) {k : Nat} (hk : k < l.length) (h0 : 0 < k) : checkP ([pAt l k] ++ l.take k) = 1 := by
  obtain ⟨L, hL⟩ : ∃ L, L = [pAt l k] ++ l.take k := ⟨_, rfl⟩
  have hlen : L.length = k + 1 := by rw [hL, List.length_append, List.length_take]; simp; omega
  have hmem : ∀ x ∈ L, x ∈ l := fun x hx => by
    rw [hL] at hx
    rcases List.mem_append.1 hx with h1 | h1
    · rw [List.mem_singleton.1 h1]; exact pAt_mem hk
    · exact List.mem_of_mem_take h1
  have e0 : pAt L 0 = pAt l k := by rw [hL]; rfl
  have e1 : pAt L 1 = pAt l 0 := by rw [hL, pAt_right (by simp), pAt_take (by simp; omega)]; rfl
  rw [← hL]
  refine check_bad (by have := h.few; omega) (many_no fun x hx => h.spots x (hmem x hx)) (k := 1) (by omega) (okAt_no ?_)
  unfold lastD
  rw [if_neg (by omega), e1, Nat.sub_self, e0]
  exact docs_mono h (Nat.zero_le _) hk
theorem check_first {l : List Pst} (hf : FitP l) (h : ValidP l) (hk : 0 < l.length) : checkP ([pAt l 0] ++ l.take 0) = 0 := by
  have e : [pAt l 0] ++ l.take 0 = l.take 1 := by
    cases l with
    | nil => simp at hk
    | cons x r => simp [pAt]
  rw [e]
  exact (check_ok (fun x hx => hf x (List.mem_of_mem_take hx))).2 (h.take 1)
end Go.Proofs.Ytmcoooepoikgjaa
