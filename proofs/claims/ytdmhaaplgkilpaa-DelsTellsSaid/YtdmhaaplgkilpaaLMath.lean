/- Numbers as few bytes: what a number's bytes are, and what bytes begin with; both ways. -/
namespace Go.Proofs.Ytdmhaaplgkilpaa

theorem div_lt' {n : Nat} (h : ¬ n < 128) : n / 128 < n := Nat.div_lt_self (by omega) (by omega)
/-- A number's bytes. -/
def putL (n : Nat) : List UInt8 := if h : n < 128 then [UInt8.ofNat n] else UInt8.ofNat (n % 128 + 128) :: putL (n / 128)
termination_by n
decreasing_by exact div_lt' h
theorem putL_small {n : Nat} (h : n < 128) : putL n = [UInt8.ofNat n] := by
  rw [putL, dif_pos h]
theorem putL_big {n : Nat} (h : ¬ n < 128) : putL n = UInt8.ofNat (n % 128 + 128) :: putL (n / 128) := by
  rw [putL, dif_neg h]
/-- What bytes begin with, at place i, acc read so far: the number, how many bytes, the error. -/
def getAux : Nat → Nat → List UInt8 → Nat × Nat × Int
  | _, _, [] => (0, 0, 31)
  | i, acc, c :: r =>
    if (i = 9 ∧ 1 < c.toNat) ∨ (c.toNat = 0 ∧ 0 < i) then (0, 0, 32)
    else if c.toNat < 128 then (acc + c.toNat % 128 * 2 ^ (7 * i), i + 1, 0)
    else getAux (i + 1) (acc + c.toNat % 128 * 2 ^ (7 * i)) r
def getL (l : List UInt8) : Nat × Nat × Int := getAux 0 0 l

theorem ofNat_toNat {n : Nat} (h : n < 256) : (UInt8.ofNat n).toNat = n := UInt8.toNat_ofNat_of_lt' (by show _ < 256; omega)
theorem pow7 (i : Nat) : 2 ^ (7 * (i + 1)) = 128 * 2 ^ (7 * i) := by rw [Nat.mul_add, Nat.pow_add]; omega
theorem pow7_pos (i : Nat) : 0 < 2 ^ (7 * i) := Nat.pow_pos (by omega)
theorem putL_pos (n : Nat) : 0 < (putL n).length := by
  by_cases h : n < 128
  · rw [putL_small h]; simp
  · rw [putL_big h]; simp

theorem split7 (n p : Nat) : n % 128 * p + n / 128 * (128 * p) = n * p := by
  have h := Nat.div_add_mod n 128
  have e : n * p = (128 * (n / 128) + n % 128) * p := by rw [h]
  rw [e, Nat.add_mul, Nat.add_comm, ← Nat.mul_assoc, Nat.mul_comm (n / 128) 128]
theorem small_of_mul {n i : Nat} (h : n * 2 ^ (7 * i) < 2 ^ 64) (hi : 9 ≤ i) : n < 2 := by
  have h1 : 2 ^ 63 ≤ 2 ^ (7 * i) := Nat.pow_le_pow_right (by omega) (by omega)
  rcases Nat.lt_or_ge n 2 with h2 | h2
  · exact h2
  · have := Nat.mul_le_mul h2 h1
    omega
theorem getAux_put (n : Nat) : ∀ (i acc : Nat) (more : List UInt8), n * 2 ^ (7 * i) < 2 ^ 64 → (0 < i → 0 < n) →
    getAux i acc (putL n ++ more) = (acc + n * 2 ^ (7 * i), i + (putL n).length, 0) := by
  induction n using Nat.strongRecOn with
  | _ n ih =>
    intro i acc more hn hp
    by_cases h : n < 128
    · rw [putL_small h]
      have e : (UInt8.ofNat n).toNat = n := ofNat_toNat (by omega)
      simp only [List.cons_append, List.nil_append, getAux, e, List.length_singleton]
      rw [if_neg, if_pos h, Nat.mod_eq_of_lt h]
      rintro (⟨h1, h2⟩ | ⟨h1, h2⟩)
      · have := small_of_mul hn (by omega)
        omega
      · have := hp h2
        omega
    · rw [putL_big h]
      have e : (UInt8.ofNat (n % 128 + 128)).toNat = n % 128 + 128 := ofNat_toNat (by omega)
      simp only [List.cons_append, getAux, e, List.length_cons]
      rw [if_neg, if_neg (by omega)]
      · rw [ih (n / 128) (div_lt' h) (i + 1) _ more]
        · rw [pow7, Nat.add_mod_right, Nat.mod_mod, Nat.add_assoc, split7, Nat.add_assoc, Nat.add_comm 1]
        · rw [pow7]
          have := split7 n (2 ^ (7 * i))
          omega
        · intro _
          omega
      · rintro (⟨h1, h2⟩ | ⟨h1, h2⟩)
        · have := small_of_mul hn (by omega)
          omega
        · omega
theorem getL_put {n : Nat} (hn : n < 2 ^ 64) (more : List UInt8) : getL (putL n ++ more) = (n, (putL n).length, 0) := by
  have := getAux_put n 0 0 more (by simpa using hn) (by omega)
  simpa [getL] using this

theorem getAux_inv : ∀ (l : List UInt8) (i acc v k : Nat), getAux i acc l = (v, k, 0) → i ≤ 9 →
    ∃ n, v = acc + n * 2 ^ (7 * i) ∧ i < k ∧ k ≤ 10 ∧ k ≤ i + l.length ∧ l.take (k - i) = putL n ∧ (0 < i → 0 < n) ∧ n * 2 ^ (7 * i) + 2 ^ (7 * i) ≤ 2 ^ 64
  | [], i, acc, v, k, h, _ => by simp [getAux] at h
  | c :: r, i, acc, v, k, h, hi => by
    have hc := c.toNat_lt
    simp only [getAux] at h
    split at h
    · simp at h
    · rename_i hn
      have hn1 : i = 9 → c.toNat ≤ 1 := fun e => by
        rcases Nat.lt_or_ge 1 c.toNat with h1 | h1
        · exact absurd (Or.inl ⟨e, h1⟩) hn
        · exact h1
      have hn2 : 0 < i → 0 < c.toNat := fun e => by
        rcases Nat.eq_zero_or_pos c.toNat with h1 | h1
        · exact absurd (Or.inr ⟨h1, e⟩) hn
        · exact h1
      split at h
      · rename_i hs
        simp only [Prod.mk.injEq, and_true] at h
        obtain ⟨rfl, rfl⟩ := h
        refine ⟨c.toNat, by rw [Nat.mod_eq_of_lt hs], by omega, by omega, by simp, ?_, hn2, ?_⟩
        · rw [show i + 1 - i = 1 by omega, putL_small hs]
          simp
        · rcases Nat.lt_or_ge i 9 with h9 | h9
          · have h1 : 2 ^ (7 * i) ≤ 2 ^ 56 := Nat.pow_le_pow_right (by omega) (by omega)
            have h2 := Nat.mul_le_mul (show c.toNat + 1 ≤ 128 by omega) h1
            rw [Nat.add_mul] at h2
            omega
          · obtain rfl : i = 9 := by omega
            have := hn1 rfl
            omega
      · rename_i hs
        have hi9 : i ≠ 9 := fun e => by have := hn1 e; omega
        obtain ⟨n, h1, h2, h3, h4, h5, h6, h7⟩ := getAux_inv r (i + 1) _ v k h (by omega)
        have hn0 := h6 (by omega)
        refine ⟨c.toNat % 128 + 128 * n, ?_, by omega, h3, by simp; omega, ?_, fun _ => (by clear h1 h7; omega), ?_⟩
        · rw [h1, pow7, Nat.add_assoc, Nat.add_mul, Nat.mul_assoc, Nat.mul_left_comm n 128]
        · rw [show k - i = (k - (i + 1)) + 1 by omega, List.take_succ_cons, h5, putL_big (n := c.toNat % 128 + 128 * n) (by omega)]
          have e1 : (c.toNat % 128 + 128 * n) % 128 = c.toNat % 128 := by omega
          have e2 : (c.toNat % 128 + 128 * n) / 128 = n := by omega
          rw [e1, e2]
          congr 1
          apply UInt8.toNat_inj.1
          rw [ofNat_toNat (by omega)]
          omega
        · rw [pow7] at h7
          have h8 : c.toNat % 128 + 1 ≤ 128 := by omega
          have h9 := Nat.mul_le_mul_right (2 ^ (7 * i)) h8
          rw [Nat.add_mul] at h9 ⊢
          rw [Nat.mul_left_comm] at h7
          rw [Nat.mul_assoc]
          omega
theorem getL_inv {l : List UInt8} {v k : Nat} (h : getL l = (v, k, 0)) : 0 < k ∧ k ≤ 10 ∧ k ≤ l.length ∧ l.take k = putL v ∧ v < 2 ^ 64 := by
  obtain ⟨n, h1, h2, h3, h4, h5, _, h7⟩ := getAux_inv l 0 0 v k h (by omega)
  simp at h1 h4 h5 h7
  subst h1
  exact ⟨h2, h3, h4, h5, by omega⟩
theorem getAux_err : ∀ (l : List UInt8) (i acc : Nat), (getAux i acc l).2.2 = 0 ∨ ((getAux i acc l).2.2 = 31 ∨ (getAux i acc l).2.2 = 32) ∧ (getAux i acc l).1 = 0 ∧ (getAux i acc l).2.1 = 0
  | [], i, acc => by simp [getAux]
  | c :: r, i, acc => by
    simp only [getAux]
    split
    · simp
    · split
      · simp
      · exact getAux_err r (i + 1) _
theorem getL_err (l : List UInt8) : (getL l).2.2 = 0 ∨ ((getL l).2.2 = 31 ∨ (getL l).2.2 = 32) ∧ (getL l).1 = 0 ∧ (getL l).2.1 = 0 := getAux_err l 0 0

/-- A number's bytes, cut. -/
theorem getAux_cut (n : Nat) : ∀ (i acc k : Nat), n * 2 ^ (7 * i) < 2 ^ 64 → (0 < i → 0 < n) → k < (putL n).length → getAux i acc ((putL n).take k) = (0, 0, 31) := by
  induction n using Nat.strongRecOn with
  | _ n ih =>
    intro i acc k hn hp hk
    cases k with
    | zero => rw [List.take_zero]; rfl
    | succ k =>
      by_cases h : n < 128
      · rw [putL_small h] at hk
        simp at hk
      · rw [putL_big h] at hk ⊢
        have e : (UInt8.ofNat (n % 128 + 128)).toNat = n % 128 + 128 := ofNat_toNat (by omega)
        simp only [List.take_succ_cons, getAux, e]
        rw [if_neg, if_neg (by omega)]
        · refine ih (n / 128) (div_lt' h) (i + 1) _ k ?_ (fun _ => by omega) (by simpa using hk)
          rw [pow7]
          have := split7 n (2 ^ (7 * i))
          omega
        · rintro (⟨h1, h2⟩ | ⟨h1, h2⟩)
          · have := small_of_mul hn (by omega)
            omega
          · omega
theorem getL_cut {n : Nat} (hn : n < 2 ^ 64) {k : Nat} (hk : k < (putL n).length) : getL ((putL n).take k) = (0, 0, 31) := getAux_cut n 0 0 k (by simpa using hn) (by omega) hk
theorem putL_mono (a : Nat) : ∀ b, a ≤ b → (putL a).length ≤ (putL b).length := by
  induction a using Nat.strongRecOn with
  | _ a ih =>
    intro b hab
    by_cases h : a < 128
    · rw [putL_small h]
      exact putL_pos b
    · rw [putL_big h, putL_big (show ¬ b < 128 by omega)]
      simp only [List.length_cons]
      have := ih (a / 128) (div_lt' h) (b / 128) (Nat.div_le_div_right hab)
      omega
theorem putL_len (n : Nat) (hn : n < 2 ^ 64) : (putL n).length ≤ 10 := (getL_inv (getL_put hn [])).2.1
/-- One way each. -/
theorem putL_inj {a b : Nat} (ha : a < 2 ^ 64) (hb : b < 2 ^ 64) {x y : List UInt8} (h : putL a ++ x = putL b ++ y) : a = b ∧ x = y := by
  have h1 := getL_put ha x
  have h2 := getL_put hb y
  rw [h] at h1
  have e := h1.symm.trans h2
  simp only [Prod.mk.injEq, and_true] at e
  obtain ⟨rfl, _⟩ := e
  exact ⟨rfl, List.append_cancel_left h⟩
end Go.Proofs.Ytdmhaaplgkilpaa
