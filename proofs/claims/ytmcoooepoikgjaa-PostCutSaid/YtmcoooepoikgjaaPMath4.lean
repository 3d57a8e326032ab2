/- What is read of bytes: its bounds. -/
import Derived.Test.YtmcoooepoikgjaaPMath3
namespace Go.Proofs.Ytmcoooepoikgjaa

theorem rdUp_none {b : List UInt8} {n0 k : Nat} (h : rdUp b n0 k = none) : ∀ m, rdUp b n0 (k + m) = none
  | 0 => h
  | m + 1 => by
    have ih := rdUp_none h m
    rw [← Nat.add_assoc, rdUp, ih]
theorem getL_le {l : List UInt8} (h : (getL l).2.2 = 0) : (getL l).2.1 ≤ l.length ∧ (getL l).1 < 2 ^ 64 := by
  rcases hg : getL l with ⟨v, k, e⟩
  rw [hg] at h
  simp only at h
  subst h
  obtain ⟨_, _, h3, _, h5⟩ := getL_inv hg
  exact ⟨h3, h5⟩
theorem getR_le {l : List UInt8} {most : Int} (h : (getR l most).2.2 = 0) : (getR l most).2.1 ≤ l.length ∧ ((getR l most).1.length : Int) ≤ most ∧ rises (-1) (getR l most).1 = true ∧ ∀ x ∈ (getR l most).1, x ≤ 9223372036854775807 := by
  rcases hg : getR l most with ⟨v, k, e⟩
  rw [hg] at h
  simp only at h
  subst h
  obtain ⟨h1, h2, h3, _, h5⟩ := getR_inv hg
  exact ⟨h3, h5, h1, h2⟩
theorem past1_in {b : List UInt8} {n : Nat} (h : n ≤ b.length) : past1 b n ≤ b.length := by
  unfold past1
  split
  · rename_i h1
    have := (getL_le h1).1
    rw [List.length_drop] at this
    omega
  · exact h
theorem pastB_in {b : List UInt8} {n : Nat} (h : n ≤ b.length) : pastB b n ≤ b.length := past1_in (past1_in h)
theorem skipB_in {b : List UInt8} {i n : Nat} (h : n ≤ b.length) : skipB b i n ≤ b.length := by
  unfold skipB
  have h1 := pastB_in h
  split <;> split <;> first | exact pastB_in h1 | exact pastB_in h | exact h1 | exact h
theorem rises_ge {l : List Int} {p : Int} (h : rises p l = true) : ∀ y ∈ l, p < y := by
  induction l generalizing p with
  | nil => intro y hy; cases hy
  | cons x l ih =>
    simp only [rises, Bool.and_eq_true, decide_eq_true_eq] at h
    intro y hy
    rcases List.mem_cons.1 hy with rfl | hy
    · exact h.1
    · have := ih h.2 y hy; omega
theorem zip_in {a c : List Int} {x : Int × Int} (h : x ∈ a.zip c) : x.1 ∈ a ∧ x.2 ∈ c := ⟨(List.of_mem_zip h).1, (List.of_mem_zip h).2⟩
/-- What one step reads. -/
structure OneOk (b : List UInt8) (d : Nat) (s : List (Int × Int)) (n2 : Nat) : Prop where
  doc : d ≤ 4294967296
  end_ : n2 ≤ b.length
  few : s.length ≤ 4096
  fit : ∀ x ∈ s, 0 ≤ x.1 ∧ x.1 ≤ 9223372036854775807 ∧ 0 ≤ x.2 ∧ x.2 ≤ 9223372036854775807
theorem rdOne_ok {b : List UInt8} {n d n2 : Nat} {s : List (Int × Int)} (h : rdOne b n = some (d, s, n2)) (hn : n ≤ b.length) : OneOk b d s n2 := by
  unfold rdOne at h
  split at h
  · cases h
  · rename_i h1
    split at h
    · cases h
    · rename_i h2
      split at h
      · cases h
      · rename_i h3
        simp only [Option.some.injEq, Prod.mk.injEq] at h
        obtain ⟨e1, e2, e3⟩ := h
        have g1 := getL_le (Decidable.not_not.1 fun h => h1 (.inl h))
        have g2 := getR_le (Decidable.not_not.1 h2)
        have g3 := getR_le (Decidable.not_not.1 fun h => h3 (.inl h))
        rw [List.length_drop] at g1 g2 g3
        refine ⟨by omega, by omega, ?_, fun x hx => ?_⟩
        · rw [← e2, List.length_zip]
          omega
        · rw [← e2] at hx
          obtain ⟨q1, q2⟩ := zip_in hx
          have a1 := rises_ge g2.2.2.1 _ q1
          have a2 := rises_ge g3.2.2.1 _ q2
          exact ⟨by omega, g2.2.2.2 _ q1, by omega, g3.2.2.2 _ q2⟩
structure UpOk (b : List UInt8) (k : Nat) (l : List Pst) (n : Nat) (doc : Int) : Prop where
  len : l.length = k
  end_ : n ≤ b.length
  doc : -1 ≤ doc ∧ doc ≤ -1 + 4294967297 * (k : Int)
  docs : ∀ x ∈ l, -1 ≤ x.1 ∧ x.1 ≤ 4294967297 * (k : Int)
  few : ∀ x ∈ l, x.2.length ≤ 4096
  fit : ∀ x ∈ l, ∀ s ∈ x.2, 0 ≤ s.1 ∧ s.1 ≤ 9223372036854775807 ∧ 0 ≤ s.2 ∧ s.2 ≤ 9223372036854775807
theorem rdUp_ok {b : List UInt8} {n0 : Nat} (h0 : n0 ≤ b.length) : ∀ (k : Nat) (l : List Pst) (n : Nat) (doc : Int), rdUp b n0 k = some (l, n, doc) → UpOk b k l n doc
  | 0, l, n, doc, h => by
    simp only [rdUp, Option.some.injEq, Prod.mk.injEq] at h
    obtain ⟨rfl, rfl, rfl⟩ := h
    exact ⟨rfl, h0, by omega, fun x hx => (by cases hx), fun x hx => (by cases hx), fun x hx => (by cases hx)⟩
  | k + 1, l, n, doc, h => by
    rw [rdUp] at h
    split at h
    · cases h
    · rename_i l' n' doc' h1
      have ih := rdUp_ok h0 k l' n' doc' h1
      split at h
      · cases h
      · rename_i d s n2 h2
        simp only [Option.some.injEq, Prod.mk.injEq] at h
        obtain ⟨rfl, rfl, rfl⟩ := h
        have ho := rdOne_ok h2 (skipB_in ih.end_)
        have hd := ho.doc
        have i1 := ih.doc
        refine ⟨by simp [ih.len], ho.end_, by omega, fun x hx => ?_, fun x hx => ?_, fun x hx => ?_⟩
        · rcases List.mem_append.1 hx with h | h
          · have := ih.docs x h; omega
          · rw [List.mem_singleton.1 h]; simp only; omega
        · rcases List.mem_append.1 hx with h | h
          · exact ih.few x h
          · rw [List.mem_singleton.1 h]; exact ho.few
        · rcases List.mem_append.1 hx with h | h
          · exact ih.fit x h
          · rw [List.mem_singleton.1 h]; exact ho.fit
theorem UpOk.fitP {b : List UInt8} {k n : Nat} {l : List Pst} {doc : Int} (h : UpOk b k l n doc) : FitP l := fun x hx s hs => ⟨(h.fit x hx s hs).2.1, (h.fit x hx s hs).2.2.2⟩
end Go.Proofs.Ytmcoooepoikgjaa
