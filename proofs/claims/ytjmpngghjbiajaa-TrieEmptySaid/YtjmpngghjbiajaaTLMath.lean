/- What stands in a trie's answers, in words of lists. -/
import Derived.Test.YtjmpngghjbiajaaTHead
namespace Go.Proofs.Ytjmpngghjbiajaa
open Go.RowKit Go.Maps Go.WideMaps

theorem pre_iff (y s : Nm) : atB y 0 s = true ↔ s <+: y := by
  have := atB_nat y s 0
  simp only [Int.natCast_zero, Nat.zero_add, List.drop_zero] at this
  rw [this, List.prefix_iff_eq_take]
  constructor
  · rintro ⟨_, h⟩; exact h.symm
  · intro h
    refine ⟨?_, h.symm⟩
    have := congrArg List.length h
    rw [List.length_take] at this
    omega
theorem suf_iff (y s : Nm) : atB y ((y.length : Int) - (s.length : Int)) s = true ↔ s <:+ y := by
  by_cases h : s.length ≤ y.length
  · rw [show (y.length : Int) - (s.length : Int) = ((y.length - s.length : Nat) : Int) by omega, atB_nat, List.suffix_iff_eq_drop]
    have e : (y.drop (y.length - s.length)).take s.length = y.drop (y.length - s.length) := List.take_of_length_le (by rw [List.length_drop]; omega)
    rw [e]
    exact ⟨fun ⟨_, h⟩ => h.symm, fun h2 => ⟨by omega, h2.symm⟩⟩
  · constructor
    · intro h2
      unfold atB at h2
      simp only [Bool.and_eq_true, decide_eq_true_eq] at h2
      omega
    · intro h2
      exact absurd h2.length_le h
theorem inf_iff (y s : Nm) : infB y s = true ↔ s <:+: y := by
  unfold infB anyUp
  rw [List.any_eq_true]
  constructor
  · rintro ⟨k, _, h⟩
    rw [atB_nat] at h
    refine ⟨y.take k, (y.drop k).drop s.length, ?_⟩
    rw [List.append_assoc]
    have : s ++ (y.drop k).drop s.length = y.drop k := by
      conv => lhs; lhs; rw [← h.2]
      exact List.take_append_drop _ _
    rw [this, List.take_append_drop]
  · rintro ⟨a, b, h⟩
    refine ⟨a.length, List.mem_range.2 (by rw [← h]; simp; omega), ?_⟩
    rw [atB_nat, ← h]
    refine ⟨by simp, ?_⟩
    rw [List.append_assoc, List.drop_left, List.take_left]
theorem idx_iff {P : Nm → Bool} {L : List Nm} {v : Int} : ∀ {n : Nat}, v ∈ idxUp P L n ↔ ∃ k : Nat, k < n ∧ v = k ∧ P (L.getD k []) = true
  | 0 => by simp [idxUp]
  | n + 1 => by
    have ih := idx_iff (P := P) (L := L) (v := v) (n := n)
    simp only [idxUp]
    split
    · rename_i h
      rw [List.mem_append, ih, List.mem_singleton]
      constructor
      · rintro (⟨k, h1, h2, h3⟩ | rfl)
        · exact ⟨k, by omega, h2, h3⟩
        · exact ⟨n, by omega, rfl, h⟩
      · rintro ⟨k, h1, h2, h3⟩
        rcases Nat.lt_or_ge k n with h4 | h4
        · exact .inl ⟨k, h4, h2, h3⟩
        · obtain rfl : k = n := by omega
          exact .inr h2
    · rename_i h
      rw [ih]
      constructor
      · rintro ⟨k, h1, h2, h3⟩; exact ⟨k, by omega, h2, h3⟩
      · rintro ⟨k, h1, h2, h3⟩
        rcases Nat.lt_or_ge k n with h4 | h4
        · exact ⟨k, h4, h2, h3⟩
        · obtain rfl : k = n := by omega
          exact absurd h3 h
theorem idx_sub {P Q : Nm → Bool} {L : List Nm} {n : Nat} (h : ∀ y, P y = true → Q y = true) : ∀ v ∈ idxUp P L n, v ∈ idxUp Q L n := fun v hv => by
  obtain ⟨k, h1, h2, h3⟩ := idx_iff.1 hv
  exact idx_iff.2 ⟨k, h1, h2, h _ h3⟩
theorem idx_all {P : Nm → Bool} {L : List Nm} (h : ∀ y, P y = true) : ∀ n, (idxUp P L n).length = n
  | 0 => rfl
  | n + 1 => by
    simp only [idxUp, h, if_true, List.length_append, List.length_singleton]
    rw [idx_all h n]
theorem idx_rises {P : Nm → Bool} {L : List Nm} {k : Nat} {x y : Int} : ∀ {n : Nat}, (idxUp P L n)[k]? = some x → (idxUp P L n)[k + 1]? = some y → x < y
  | 0, h, _ => by simp [idxUp] at h
  | n + 1, h1, h2 => by
    simp only [idxUp] at h1 h2
    split at h1
    · rename_i hp
      rw [if_pos hp] at h2
      rcases Nat.lt_or_ge (k + 1) (idxUp P L n).length with h3 | h3
      · rw [List.getElem?_append_left (by omega)] at h1
        rw [List.getElem?_append_left h3] at h2
        exact idx_rises h1 h2
      · have h4 : k + 1 = (idxUp P L n).length := by
          have := (List.getElem?_eq_some_iff.1 h2).1
          simp at this
          omega
        rw [List.getElem?_append_right (by omega), show k + 1 - (idxUp P L n).length = 0 by omega] at h2
        rw [List.getElem?_append_left (by omega)] at h1
        have := (idxUp_mem (List.mem_of_getElem? h1)).2
        simp at h2
        omega
    · rename_i hp
      rw [if_neg hp] at h2
      exact idx_rises h1 h2
theorem pre_more (L : List Nm) (s m : Nm) : ∀ v ∈ preL L (s ++ m), v ∈ preL L s := idx_sub fun y h => (pre_iff y s).2 ((List.prefix_append s m).trans ((pre_iff y (s ++ m)).1 h))
theorem inf_more (L : List Nm) (s m : Nm) : ∀ v ∈ infL L (s ++ m), v ∈ infL L s := idx_sub fun y h => (inf_iff y s).2 ((List.prefix_append s m).isInfix.trans ((inf_iff y (s ++ m)).1 h))
theorem suf_more (L : List Nm) (s m : Nm) : ∀ v ∈ sufL L (s ++ m), v ∈ sufL L m := idx_sub fun y h => (suf_iff y m).2 ((List.suffix_append s m).trans ((suf_iff y (s ++ m)).1 h))
theorem pre_inf (L : List Nm) (s : Nm) : ∀ v ∈ preL L s, v ∈ infL L s := idx_sub fun y h => (inf_iff y s).2 ((pre_iff y s).1 h).isInfix
theorem suf_inf (L : List Nm) (s : Nm) : ∀ v ∈ sufL L s, v ∈ infL L s := idx_sub fun y h => (inf_iff y s).2 ((suf_iff y s).1 h).isInfix
theorem pre_all (L : List Nm) : (preL L []).length = L.length := idx_all (fun y => (pre_iff y []).2 List.nil_prefix) _
theorem suf_all (L : List Nm) : (sufL L []).length = L.length := idx_all (fun y => (suf_iff y []).2 List.nil_suffix) _
theorem inf_all (L : List Nm) : (infL L []).length = L.length := idx_all (fun y => (inf_iff y []).2 List.nil_infix) _
end Go.Proofs.Ytjmpngghjbiajaa
