/- CRC-32 over natural numbers: the step of a byte, by eight steps of a bit and by a table; it is linear, and it loses nothing. -/
namespace Go.Proofs.Ytdmhaaplgkilpaa

def poly : Nat := 3988292384
def all1 : Nat := 4294967295
def bitStep (r : Nat) : Nat := if r % 2 = 1 then (r / 2) ^^^ poly else r / 2
def bitSteps : Nat → Nat → Nat
  | 0, r => r
  | k + 1, r => bitStep (bitSteps k r)
def s8 (r : Nat) : Nat := bitSteps 8 r
def step (r : Nat) (c : UInt8) : Nat := s8 (r ^^^ c.toNat)
def reg (r : Nat) (l : List UInt8) : Nat := l.foldl step r
def moreN (s : Nat) (l : List UInt8) : Nat := all1 ^^^ reg (all1 ^^^ s) l
def sumN (l : List UInt8) : Nat := moreN 0 l

theorem xor_mod2 (x y : Nat) : (x ^^^ y) % 2 = (x % 2 + y % 2) % 2 := by
  have h := Nat.testBit_xor x y 0
  rw [Nat.testBit_zero, Nat.testBit_zero, Nat.testBit_zero] at h
  have hx : x % 2 = 0 ∨ x % 2 = 1 := by omega
  have hy : y % 2 = 0 ∨ y % 2 = 1 := by omega
  have hz : (x ^^^ y) % 2 = 0 ∨ (x ^^^ y) % 2 = 1 := by omega
  rcases hx with hx | hx <;> rcases hy with hy | hy <;> rcases hz with hz | hz <;> simp [hx, hy, hz] at h ⊢
theorem xor_div2 (x y : Nat) : (x ^^^ y) / 2 = x / 2 ^^^ y / 2 := by
  have := @Nat.shiftRight_xor_distrib 1 x y
  simpa [Nat.shiftRight_eq_div_pow] using this
theorem xor_lt {x y : Nat} (hx : x < 4294967296) (hy : y < 4294967296) : x ^^^ y < 4294967296 := Nat.xor_lt_two_pow (n := 32) hx hy
theorem xor_lt8 {x y : Nat} (hx : x < 256) (hy : y < 256) : x ^^^ y < 256 := Nat.xor_lt_two_pow (n := 8) hx hy
theorem xor_cancel (a b : Nat) : a ^^^ (a ^^^ b) = b := by rw [← Nat.xor_assoc, Nat.xor_self, Nat.zero_xor]
theorem xor_inj {a b c : Nat} (h : a ^^^ b = a ^^^ c) : b = c := by rw [← xor_cancel a b, h, xor_cancel]
theorem xor_inj_right {a b c : Nat} (h : b ^^^ a = c ^^^ a) : b = c := xor_inj (a := a) (by rw [Nat.xor_comm a b, h, Nat.xor_comm])
theorem xor_eq_zero' {a b : Nat} (h : a ^^^ b = 0) : a = b := xor_inj (a := a) (by rw [Nat.xor_self, h])
theorem xor4 (a b c d : Nat) : (a ^^^ b) ^^^ (c ^^^ d) = (a ^^^ c) ^^^ (b ^^^ d) := by
  rw [Nat.xor_assoc, Nat.xor_assoc, ← Nat.xor_assoc b c d, Nat.xor_comm b c, Nat.xor_assoc c b d]

theorem bitStep_xor (x y : Nat) : bitStep (x ^^^ y) = bitStep x ^^^ bitStep y := by
  unfold bitStep
  rw [xor_mod2, xor_div2]
  have hx : x % 2 = 0 ∨ x % 2 = 1 := by omega
  have hy : y % 2 = 0 ∨ y % 2 = 1 := by omega
  rcases hx with hx | hx <;> rcases hy with hy | hy <;> simp only [hx, hy]
  · rfl
  · simp [Nat.xor_assoc]
  · rw [if_pos (by decide), if_pos trivial, if_neg (by decide), Nat.xor_assoc, Nat.xor_assoc, Nat.xor_comm poly]
  · rw [if_neg (by decide), if_pos trivial, if_pos trivial, xor4, Nat.xor_self, Nat.xor_zero]
theorem bitSteps_xor (k x y : Nat) : bitSteps k (x ^^^ y) = bitSteps k x ^^^ bitSteps k y := by
  induction k with
  | zero => rfl
  | succ k ih => simp only [bitSteps, ih, bitStep_xor]
theorem s8_xor (x y : Nat) : s8 (x ^^^ y) = s8 x ^^^ s8 y := bitSteps_xor 8 x y
theorem bitStep_even (q : Nat) : bitStep (2 * q) = q := by
  unfold bitStep
  rw [if_neg (by omega)]
  omega
theorem s8_high (q : Nat) : s8 (256 * q) = q := by
  unfold s8 bitSteps bitSteps bitSteps bitSteps bitSteps bitSteps bitSteps bitSteps bitSteps
  rw [show 256 * q = 2 * (128 * q) by omega, bitStep_even, show 128 * q = 2 * (64 * q) by omega, bitStep_even, show 64 * q = 2 * (32 * q) by omega, bitStep_even,
    show 32 * q = 2 * (16 * q) by omega, bitStep_even, show 16 * q = 2 * (8 * q) by omega, bitStep_even, show 8 * q = 2 * (4 * q) by omega, bitStep_even,
    show 4 * q = 2 * (2 * q) by omega, bitStep_even, bitStep_even]
theorem low_split (r c : Nat) : r ^^^ c = 256 * (r / 256) ^^^ (r % 256 ^^^ c) := by
  have h : r = 256 * (r / 256) ^^^ (r % 256) := by
    have h1 := @Nat.two_pow_add_eq_or_of_lt 8 (r % 256) (Nat.mod_lt _ (by decide)) (r / 256)
    apply Nat.eq_of_testBit_eq
    intro i
    have h2 : r = 2 ^ 8 * (r / 256) + r % 256 := by omega
    rw [Nat.testBit_xor]
    have h3 := Nat.testBit_two_pow_mul_add (r / 256) (b := r % 256) (i := 8) (Nat.mod_lt _ (by decide)) i
    have h4 := Nat.testBit_two_pow_mul (i := 8) (a := r / 256) (j := i)
    rw [show (2 : Nat) ^ 8 = 256 by decide] at h3 h4
    rw [h4]
    conv => lhs; rw [h2, show (2 : Nat) ^ 8 = 256 by decide]
    rw [h3]
    by_cases hi : i < 8
    · have h8 : ¬ 8 ≤ i := by omega
      simp [hi, h8]
    · have h8 : 8 ≤ i := by omega
      have : (r % 256).testBit i = false := Nat.testBit_lt_two_pow (Nat.lt_of_lt_of_le (Nat.mod_lt _ (by decide)) (by
        have : 2 ^ 8 ≤ 2 ^ i := Nat.pow_le_pow_right (by omega) (by omega)
        simpa using this))
      simp [hi, h8, this]
  have h5 : r ^^^ c = 256 * (r / 256) ^^^ (r % 256) ^^^ c := congrArg (· ^^^ c) h
  rw [h5, Nat.xor_assoc]
/-- The step of a byte by the table of what has but its lowest eight bits. -/
theorem step_tab (r : Nat) (c : UInt8) : step r c = r / 256 ^^^ s8 (r % 256 ^^^ c.toNat) := by
  unfold step
  rw [low_split r c.toNat, s8_xor, s8_high]

theorem bitStep_lt {x : Nat} (h : x < 4294967296) : bitStep x < 4294967296 := by
  unfold bitStep
  split
  · exact xor_lt (by omega) (by decide)
  · omega
theorem bitSteps_lt (k : Nat) {x : Nat} (h : x < 4294967296) : bitSteps k x < 4294967296 := by
  induction k with
  | zero => exact h
  | succ k ih => exact bitStep_lt ih
theorem s8_lt {x : Nat} (h : x < 4294967296) : s8 x < 4294967296 := bitSteps_lt 8 h
theorem byte_lt (c : UInt8) : c.toNat < 4294967296 := by have := c.toNat_lt; omega
theorem step_lt {r : Nat} (h : r < 4294967296) (c : UInt8) : step r c < 4294967296 := s8_lt (xor_lt h (byte_lt c))
theorem reg_lt {r : Nat} (h : r < 4294967296) (l : List UInt8) : reg r l < 4294967296 := by
  induction l generalizing r with
  | nil => exact h
  | cons c l ih => exact ih (step_lt h c)
theorem inv_lt {r : Nat} (h : r < 4294967296) : all1 ^^^ r < 4294967296 := xor_lt (by decide) h
theorem moreN_lt {s : Nat} (h : s < 4294967296) (l : List UInt8) : moreN s l < 4294967296 := inv_lt (reg_lt (inv_lt h) l)

theorem bitStep_zero {x : Nat} (hx : x < 4294967296) (h : bitStep x = 0) : x = 0 := by
  unfold bitStep at h
  split at h
  · have := xor_eq_zero' h
    unfold poly at this
    omega
  · omega
theorem bitSteps_zero (k : Nat) {x : Nat} (hx : x < 4294967296) (h : bitSteps k x = 0) : x = 0 := by
  induction k with
  | zero => exact h
  | succ k ih => exact ih (bitStep_zero (bitSteps_lt k hx) h)
theorem s8_inj {x y : Nat} (hx : x < 4294967296) (hy : y < 4294967296) (h : s8 x = s8 y) : x = y :=
  xor_eq_zero' (bitSteps_zero 8 (xor_lt hx hy) (by rw [bitSteps_xor]; show s8 x ^^^ s8 y = 0; rw [h, Nat.xor_self]))
theorem step_inj {x y : Nat} (hx : x < 4294967296) (hy : y < 4294967296) (c : UInt8) (h : step x c = step y c) : x = y :=
  xor_inj_right (s8_inj (xor_lt hx (byte_lt c)) (xor_lt hy (byte_lt c)) h)
theorem reg_inj {x y : Nat} (hx : x < 4294967296) (hy : y < 4294967296) (l : List UInt8) (h : reg x l = reg y l) : x = y := by
  induction l generalizing x y with
  | nil => exact h
  | cons c l ih => exact step_inj hx hy c (ih (step_lt hx c) (step_lt hy c) h)
theorem moreN_inj {x y : Nat} (hx : x < 4294967296) (hy : y < 4294967296) (l : List UInt8) (h : moreN x l = moreN y l) : x = y :=
  xor_inj (reg_inj (inv_lt hx) (inv_lt hy) l (xor_inj h))
theorem moreN_nil (s : Nat) : moreN s [] = s := xor_cancel all1 s
theorem reg_append (r : Nat) (a b : List UInt8) : reg r (a ++ b) = reg (reg r a) b := List.foldl_append ..
theorem moreN_append (s : Nat) (a b : List UInt8) : moreN s (a ++ b) = moreN (moreN s a) b := by
  unfold moreN
  rw [reg_append, xor_cancel]

/-- One byte turned. -/
theorem turned (l : List UInt8) (k : Nat) (c d : UInt8) (hk : l[k]? = some c) (hd : d ≠ c) : sumN (l.set k d) ≠ sumN l := by
  obtain ⟨hlt, hc⟩ := List.getElem?_eq_some_iff.1 hk
  intro h
  have hs : l.set k d = l.take k ++ d :: l.drop (k + 1) := List.set_eq_take_append_cons_drop .. |>.trans (by rw [if_pos hlt])
  have hl : l = l.take k ++ c :: l.drop (k + 1) := by rw [← hc, List.getElem_cons_drop, List.take_append_drop]
  have h0 := xor_inj (a := all1) h
  rw [hs] at h0
  rw [show reg (all1 ^^^ 0) l = reg (all1 ^^^ 0) (l.take k ++ c :: l.drop (k + 1)) from congrArg _ hl] at h0
  rw [reg_append, reg_append] at h0
  have hr : reg (all1 ^^^ 0) (l.take k) < 4294967296 := reg_lt (inv_lt (by decide)) _
  have h1 := reg_inj (step_lt hr d) (step_lt hr c) _ h0
  have h2 := s8_inj (xor_lt hr (byte_lt d)) (xor_lt hr (byte_lt c)) h1
  exact hd (UInt8.toNat_inj.1 (xor_inj h2))

theorem fixed0 : ∀ d : Fin 256, s8 d.val = d.val → d.val = 0 := by decide +kernel
/-- Two bytes beside one another that change places. -/
theorem swapped (r : Nat) (hr : r < 4294967296) (a b : UInt8) (h : step (step r a) b = step (step r b) a) : a = b := by
  have h1 := s8_inj (xor_lt (step_lt hr a) (byte_lt b)) (xor_lt (step_lt hr b) (byte_lt a)) h
  unfold step at h1
  have h2 : s8 (a.toNat ^^^ b.toNat) = a.toNat ^^^ b.toNat := by
    rw [s8_xor] at h1 ⊢
    rw [s8_xor] at h1
    apply xor_eq_zero'
    have h3 : (s8 r ^^^ s8 a.toNat ^^^ b.toNat) ^^^ (s8 r ^^^ s8 b.toNat ^^^ a.toNat) = 0 := by rw [h1, Nat.xor_self]
    rw [xor4, xor4 (s8 r), Nat.xor_self, Nat.zero_xor] at h3
    rw [Nat.xor_comm a.toNat b.toNat]
    exact h3
  have h3 := fixed0 ⟨a.toNat ^^^ b.toNat, xor_lt8 (by have := a.toNat_lt; omega) (by have := b.toNat_lt; omega)⟩ h2
  exact UInt8.toNat_inj.1 (xor_eq_zero' h3)
theorem order (l : List UInt8) (k : Nat) (a b : UInt8) (ha : l[k]? = some a) (hb : l[k + 1]? = some b) : sumN ((l.set k b).set (k + 1) a) = sumN l ↔ a = b := by
  obtain ⟨h1, ea⟩ := List.getElem?_eq_some_iff.1 ha
  obtain ⟨h2, eb⟩ := List.getElem?_eq_some_iff.1 hb
  have hl : l = l.take k ++ a :: b :: l.drop (k + 2) := by
    have e1 : l.drop k = a :: l.drop (k + 1) := by rw [← ea, List.getElem_cons_drop]
    have e2 : l.drop (k + 1) = b :: l.drop (k + 2) := by rw [← eb, List.getElem_cons_drop]
    rw [← e2, ← e1, List.take_append_drop]
  have hs : (l.set k b).set (k + 1) a = l.take k ++ b :: a :: l.drop (k + 2) := by
    apply List.ext_getElem?
    intro i
    rw [List.getElem?_set, List.length_set, List.getElem?_set]
    rcases Nat.lt_trichotomy i k with hi | hi | hi
    · rw [if_neg (by omega), if_neg (by omega), List.getElem?_append_left (by simp; omega), List.getElem?_take, if_pos hi]
    · subst hi
      rw [if_neg (by omega), if_pos rfl, if_pos h1, List.getElem?_append_right (by simp; omega)]
      simp [Nat.min_eq_left (Nat.le_of_lt h1)]
    · rw [List.getElem?_append_right (by simp; omega)]
      simp only [List.length_take, Nat.min_eq_left (Nat.le_of_lt h1)]
      rcases Nat.lt_or_ge (k + 1) i with h | h
      · rw [if_neg (by omega), if_neg (by omega)]
        obtain ⟨j, rfl⟩ : ∃ j, i = k + 2 + j := ⟨i - (k + 2), by omega⟩
        rw [show k + 2 + j - k = j + 1 + 1 by omega, List.getElem?_cons_succ, List.getElem?_cons_succ, List.getElem?_drop]
      · obtain rfl : i = k + 1 := by omega
        rw [if_pos rfl, if_pos h2, show k + 1 - k = 0 + 1 by omega]
        rfl
  constructor
  · intro h
    have h0 := xor_inj (a := all1) h
    rw [hs] at h0
    rw [show reg (all1 ^^^ 0) l = reg (all1 ^^^ 0) (l.take k ++ a :: b :: l.drop (k + 2)) from congrArg _ hl] at h0
    rw [reg_append, reg_append] at h0
    have hr : reg (all1 ^^^ 0) (l.take k) < 4294967296 := reg_lt (inv_lt (by decide)) _
    have h3 := reg_inj (step_lt (step_lt hr b) a) (step_lt (step_lt hr a) b) _ h0
    exact (swapped _ hr b a h3).symm
  · rintro rfl
    rw [hs, ← hl]
/-- Three texts of one length. -/
def xor3 (a b c : List UInt8) : Nat → List UInt8
  | 0 => []
  | k + 1 => xor3 a b c k ++ [a.getD k 0 ^^^ b.getD k 0 ^^^ c.getD k 0]
theorem xor3_len (a b c : List UInt8) (k : Nat) : (xor3 a b c k).length = k := by
  induction k with
  | zero => rfl
  | succ k ih => simp [xor3, ih]
theorem take_succ_getD (a : List UInt8) (k : Nat) (h : k < a.length) : a.take (k + 1) = a.take k ++ [a.getD k 0] := by
  rw [List.take_add_one, List.getElem?_eq_getElem h]
  simp [List.getD_eq_getElem?_getD, List.getElem?_eq_getElem h]
theorem xor6 (a b c x y z : Nat) : (a ^^^ b ^^^ c) ^^^ (x ^^^ y ^^^ z) = (a ^^^ x) ^^^ (b ^^^ y) ^^^ (c ^^^ z) := by
  rw [xor4, xor4 a b x y]
theorem sums_reg (a b c : List UInt8) (k : Nat) (ha : k ≤ a.length) (hb : k ≤ b.length) (hc : k ≤ c.length) (x y z : Nat) :
    reg (x ^^^ y ^^^ z) (xor3 a b c k) = reg x (a.take k) ^^^ reg y (b.take k) ^^^ reg z (c.take k) := by
  induction k with
  | zero => simp [xor3, reg]
  | succ k ih =>
    rw [take_succ_getD a k (by omega), take_succ_getD b k (by omega), take_succ_getD c k (by omega)]
    simp only [xor3]
    rw [reg_append, reg_append, reg_append, reg_append, ih (by omega) (by omega) (by omega)]
    simp only [reg, List.foldl_cons, List.foldl_nil, step]
    rw [← s8_xor, ← s8_xor]
    congr 1
    rw [show (a.getD k 0 ^^^ b.getD k 0 ^^^ c.getD k 0).toNat = (a.getD k 0).toNat ^^^ (b.getD k 0).toNat ^^^ (c.getD k 0).toNat by simp, xor6]
theorem sums (a b c : List UInt8) (k : Nat) (ha : k ≤ a.length) (hb : k ≤ b.length) (hc : k ≤ c.length) : sumN (xor3 a b c k) = sumN (a.take k) ^^^ sumN (b.take k) ^^^ sumN (c.take k) := by
  unfold sumN moreN
  have h : all1 ^^^ 0 = (all1 ^^^ 0) ^^^ (all1 ^^^ 0) ^^^ (all1 ^^^ 0) := by decide
  have h2 := sums_reg a b c k ha hb hc (all1 ^^^ 0) (all1 ^^^ 0) (all1 ^^^ 0)
  rw [← h] at h2
  rw [h2, ← xor6]
  rfl
/-- The table's own making: what an entry has of one with fewer bits. -/
theorem tab_step : ∀ (i : Fin 8) (j : Fin 128), j.val < 2 ^ i.val → s8 (2 ^ i.val ||| j.val) = s8 j.val ^^^ (#[1996959894, 3993919788, 124634137, 249268274, 498536548, 997073096, 1994146192, 3988292384] : Array Nat)[i] := by decide +kernel
end Go.Proofs.Ytdmhaaplgkilpaa
