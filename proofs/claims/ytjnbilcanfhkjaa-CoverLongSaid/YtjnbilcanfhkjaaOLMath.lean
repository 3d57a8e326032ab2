/- Aligns of a text, and of a longer one. -/
import Derived.Test.YtjnbilcanfhkjaaOSpec
namespace Go.Proofs.Ytjnbilcanfhkjaa
open Go.RowKit Go.Maps Go.WideMaps

theorem may_iff (t s : Nm) (k : Nat) : mayB t s k = true ↔ k < t.length ∧ 0 < s.length ∧ (t.drop k).take (min (t.length - k) s.length) = s.take (min (t.length - k) s.length) := by
  unfold mayB
  simp only [Bool.and_eq_true, decide_eq_true_eq, beq_iff_eq, Int.toNat_natCast]
  constructor
  · rintro ⟨_, h1, h2, h3⟩; exact ⟨by omega, h2, h3⟩
  · rintro ⟨h1, h2, h3⟩; exact ⟨by omega, by omega, h2, h3⟩
theorem may_more {t s u : Nm} {k : Nat} (hs : 0 < s.length) (h : mayB t (s ++ u) k = true) : mayB t s k = true := by
  rw [may_iff] at h ⊢
  obtain ⟨h1, _, h3⟩ := h
  refine ⟨h1, hs, ?_⟩
  rw [List.length_append] at h3
  have h4 := congrArg (List.take (min (t.length - k) s.length)) h3
  rw [List.take_take, List.take_take, show min (min (t.length - k) s.length) (min (t.length - k) (s.length + u.length)) = min (t.length - k) s.length by omega, List.take_append_of_le_length (by omega)] at h4
  exact h4
theorem may_left {t s u : Nm} {k : Nat} (h : mayB t s k = true) (hl : t.length - k < s.length) : mayB t (s ++ u) k = true := by
  rw [may_iff] at h ⊢
  obtain ⟨h1, h2, h3⟩ := h
  refine ⟨h1, by rw [List.length_append]; omega, ?_⟩
  rw [List.length_append, show min (t.length - k) (s.length + u.length) = min (t.length - k) s.length by omega, List.take_append_of_le_length (by omega)]
  exact h3
def leftP (L : List Nm) (s : Nm) (p : Int × Int) : Bool := mayB (L.getD p.1.toNat []) s p.2
theorem alT_filter {t s u : Nm} (hs : 0 < s.length) (i : Int) (k : Nat) : alT t (s ++ u) i k = (alT t s i k).filter fun p => mayB t (s ++ u) p.2 := by
  induction k with
  | zero => rfl
  | succ k ih =>
    simp only [alT]
    by_cases h : mayB t (s ++ u) k = true
    · rw [if_pos h, if_pos (may_more hs h), List.filter_append, ih]
      simp [h]
    · rw [if_neg h]
      by_cases h2 : mayB t s k = true
      · rw [if_pos h2, List.filter_append, ih]
        simp [h]
      · rw [if_neg h2, ih]
theorem alUp_filter {L : List Nm} {s u : Nm} (hs : 0 < s.length) (n : Nat) : alUp L (s ++ u) n = (alUp L s n).filter (leftP L (s ++ u)) := by
  induction n with
  | zero => rfl
  | succ n ih =>
    simp only [alUp]
    rw [List.filter_append, ih, alT_filter hs]
    congr 1
    refine List.filter_congr fun p hp => ?_
    have := (alT_mem.1 hp).1
    unfold leftP
    rw [this, Int.toNat_natCast]
theorem al_sure {L : List Nm} {s u : Nm} {n : Nat} (hn : n ≤ L.length) {p : Int × Int} (hp : p ∈ alUp L s n) (h : leftP L (s ++ u) p = false) : sureB L s p.1 p.2 = true := by
  obtain ⟨i, j, h1, h2, h3, h4, h5⟩ := alUp_mem.1 hp
  unfold leftP at h
  rw [h2, h3, Int.toNat_natCast] at h
  unfold sureB
  rw [h2, h3, Int.toNat_natCast, h5]
  simp only [Bool.and_eq_true, decide_eq_true_eq]
  refine ⟨by omega, by omega, trivial, ?_⟩
  rcases Nat.lt_or_ge ((L.getD i []).length - j) s.length with h6 | h6
  · rw [may_left h5 h6] at h
    cases h
  · omega
theorem filter_at {α : Type} {P : α → Bool} {a : List α} {k : Nat} {x : α} (hx : a[k]? = some x) : a.filter P = (a.take k).filter P ++ ((if P x then [x] else []) ++ (a.drop (k + 1)).filter P) := by
  have h1 : a = a.take k ++ (x :: a.drop (k + 1)) := by
    have h2 := (List.getElem?_eq_some_iff.1 hx)
    obtain ⟨h3, h4⟩ := h2
    conv => lhs; rw [← List.take_append_drop k a, List.drop_eq_getElem_cons h3, h4]
  conv => lhs; rw [h1]
  rw [List.filter_append, List.filter_cons]
  split <;> rfl
theorem filter_yes {α : Type} {P : α → Bool} {a : List α} {k : Nat} {x : α} (hx : a[k]? = some x) (h : P x = true) : (a.filter P)[((a.take k).filter P).length]? = some x ∧ ((a.take (k + 1)).filter P).length = ((a.take k).filter P).length + 1 := by
  constructor
  · rw [filter_at hx, h, if_pos rfl, List.getElem?_append_right (Nat.le_refl _), Nat.sub_self]
    rfl
  · rw [List.take_add_one, hx, List.filter_append, List.length_append]
    simp [h]
theorem filter_no {α : Type} {P : α → Bool} {a : List α} {k : Nat} {x : α} (hx : a[k]? = some x) (h : P x = false) : ((a.take (k + 1)).filter P).length = ((a.take k).filter P).length := by
  rw [List.take_add_one, hx, List.filter_append, List.length_append]
  simp [h]
theorem filter_ne {α : Type} {P : α → Bool} {a : List α} {c : Nat} {x y : α} (hy : (a.filter P)[c]? = some y) (h : P x = false) : y ≠ x := fun e => by
  have := (List.mem_filter.1 (List.mem_of_getElem? hy)).2
  rw [e, h] at this
  cases this
/-- Aligns rise. -/
def ltP (p q : Int × Int) : Prop := p.1 < q.1 ∨ (p.1 = q.1 ∧ p.2 < q.2)
theorem alT_rises (t s : Nm) (i : Int) (k : Nat) : (alT t s i k).Pairwise ltP := by
  induction k with
  | zero => exact List.Pairwise.nil
  | succ k ih =>
    simp only [alT]
    split
    · rw [List.pairwise_append]
      refine ⟨ih, List.pairwise_singleton _ _, fun a ha b hb => ?_⟩
      obtain ⟨h1, j, h2, h3, _⟩ := alT_mem.1 ha
      rw [List.mem_singleton] at hb
      subst hb
      exact .inr ⟨h1, by rw [h3]; show (j : Int) < (k : Int); omega⟩
    · exact ih
theorem alUp_rises (L : List Nm) (s : Nm) (n : Nat) : (alUp L s n).Pairwise ltP := by
  induction n with
  | zero => exact List.Pairwise.nil
  | succ n ih =>
    simp only [alUp]
    rw [List.pairwise_append]
    refine ⟨ih, alT_rises _ _ _ _, fun a ha b hb => ?_⟩
    obtain ⟨i, j, h1, h2, _⟩ := alUp_mem.1 ha
    have h3 := (alT_mem.1 hb).1
    exact .inl (by rw [h2, h3]; omega)
theorem al_next {L : List Nm} {s : Nm} {n k : Nat} {x y : Int × Int} (hy : (alUp L s n)[k]? = some y) (hx : (alUp L s n)[k + 1]? = some x) : ltP y x := by
  obtain ⟨h1, rfl⟩ := List.getElem?_eq_some_iff.1 hy
  obtain ⟨h2, rfl⟩ := List.getElem?_eq_some_iff.1 hx
  exact List.pairwise_iff_getElem.1 (alUp_rises L s n) k (k + 1) h1 h2 (by omega)
theorem may_all {t s : Nm} {k : Nat} (h : mayB t s k = true) (hl : s.length ≤ t.length - k) : (t.drop k).take s.length = s := by
  obtain ⟨_, _, h3⟩ := (may_iff t s k).1 h
  rw [show min (t.length - k) s.length = s.length by omega, List.take_length] at h3
  exact h3
theorem may_part {t s : Nm} {k : Nat} (h : mayB t s k = true) (hl : t.length - k < s.length) : s.take (t.length - k) = t.drop k := by
  obtain ⟨_, _, h3⟩ := (may_iff t s k).1 h
  rw [show min (t.length - k) s.length = t.length - k by omega, List.take_of_length_le (by simp)] at h3
  exact h3.symm
end Go.Proofs.Ytjnbilcanfhkjaa
