import Derived.Test.YthcjikpabpgpfaaGreatZp0
set_option linter.unusedSimpArgs false
set_option maxHeartbeats 16000000
set_option maxRecDepth 100000
namespace Go.Proofs.YthcjikpabpgpfaaGreat
theorem div_lt' {n : Nat} (h : ¬ n < 128) : n / 128 < n := Nat.div_lt_self (by omega) (by omega)
def putL (n : Nat) : List UInt8 := if h : n < 128 then [UInt8.ofNat n] else UInt8.ofNat (n % 128 + 128) :: putL (n / 128)
termination_by n
decreasing_by exact div_lt' h
theorem putL_small {n : Nat} (h : n < 128) : putL n = [UInt8.ofNat n] := by
 rw [putL, dif_pos h]
theorem putL_big {n : Nat} (h : ¬ n < 128) : putL n = UInt8.ofNat (n % 128 + 128) :: putL (n / 128) := by
 rw [putL, dif_neg h]
def getAux : Nat → Nat → List UInt8 → Nat × Nat × Int
 | _, _, [] => (0, 0, 31)
 | i, acc, c :: r =>
  if (i = 9 ∧ 1 < c.toNat) ∨ (c.toNat = 0 ∧ 0 < i) then (0, 0, 32)
  else if c.toNat < 128 then (acc + c.toNat % 128 * 2 ^ (7 * i), i + 1, 0)
  else getAux (i + 1) (acc + c.toNat % 128 * 2 ^ (7 * i)) r
def getL (l : List UInt8) : Nat × Nat × Int := getAux 0 0 l
theorem ofNat_toNat {n : Nat} (h : n < 256) : (UInt8.ofNat n).toNat = n := UInt8.toNat_ofNat_of_lt' (by show _ < 256; omega)
theorem pow7 (i : Nat) : 2 ^ (7 * (i + 1)) = 128 * 2 ^ (7 * i) := by rw [Nat.mul_add, Nat.pow_add]; omega
theorem putL_pos (n : Nat) : 0 < (putL n).length := by
 by_cases h : n < 128
 ·rw [putL_small h]; simp
 ·rw [putL_big h]; simp
theorem split7 (n p : Nat) : n % 128 * p + n / 128 * (128 * p) = n * p := by
 have h := Nat.div_add_mod n 128
 have e : n * p = (128 * (n / 128) + n % 128) * p := by rw [h]
 rw [e, Nat.add_mul, Nat.add_comm, ← Nat.mul_assoc, Nat.mul_comm (n / 128) 128]
theorem small_of_mul {n i : Nat} (h : n * 2 ^ (7 * i) < 2 ^ 64) (hi : 9 ≤ i) : n < 2 := by
 have h1 : 2 ^ 63 ≤ 2 ^ (7 * i) := Nat.pow_le_pow_right (by omega) (by omega)
 rcases Nat.lt_or_ge n 2 with h2 | h2
 ·exact h2
 ·have := Nat.mul_le_mul h2 h1
  omega
theorem getAux_put (n : Nat) : ∀ (i acc : Nat) (more : List UInt8), n * 2 ^ (7 * i) < 2 ^ 64 → (0 < i → 0 < n) →
  getAux i acc (putL n ++ more) = (acc + n * 2 ^ (7 * i), i + (putL n).length, 0) := by
 induction n using Nat.strongRecOn with
 | _ n ih =>
  intro i acc more hn hp
  by_cases h : n < 128
  ·rw [putL_small h]
   have e : (UInt8.ofNat n).toNat = n := ofNat_toNat (by omega)
   simp only [List.cons_append, List.nil_append, getAux, e, List.length_singleton]
   rw [if_neg, if_pos h, Nat.mod_eq_of_lt h]
   rintro (⟨h1, h2⟩ | ⟨h1, h2⟩)
   ·have := small_of_mul hn (by omega)
    omega
   ·have := hp h2
    omega
  ·rw [putL_big h]
   have e : (UInt8.ofNat (n % 128 + 128)).toNat = n % 128 + 128 := ofNat_toNat (by omega)
   simp only [List.cons_append, getAux, e, List.length_cons]
   rw [if_neg, if_neg (by omega)]
   ·rw [ih (n / 128) (div_lt' h) (i + 1) _ more]
    ·rw [pow7, Nat.add_mod_right, Nat.mod_mod, Nat.add_assoc, split7, Nat.add_assoc, Nat.add_comm 1]
    ·rw [pow7]
     have := split7 n (2 ^ (7 * i))
     omega
    ·intro _
     omega
   ·rintro (⟨h1, h2⟩ | ⟨h1, h2⟩)
    ·have := small_of_mul hn (by omega)
     omega
    ·omega
theorem getL_put {n : Nat} (hn : n < 2 ^ 64) (more : List UInt8) : getL (putL n ++ more) = (n, (putL n).length, 0) := by
 have := getAux_put n 0 0 more (by simpa using hn) (by omega)
 simpa [getL] using this
theorem getAux_inv : ∀ (l : List UInt8) (i acc v k : Nat), getAux i acc l = (v, k, 0) → i ≤ 9 →
  ∃ n, v = acc + n * 2 ^ (7 * i) ∧ i < k ∧ k ≤ 10 ∧ k ≤ i + l.length ∧ l.take (k - i) = putL n ∧ (0 < i → 0 < n) ∧ n * 2 ^ (7 * i) + 2 ^ (7 * i) ≤ 2 ^ 64
 | [], i, acc, v, k, h, _ => by simp [getAux] at h
 | c :: r, i, acc, v, k, h, hi => by
  have hc := c.toNat_lt
  simp only [getAux] at h
  split at h
  ·simp at h
  ·rename_i hn
   have hn1 : i = 9 → c.toNat ≤ 1 := fun e => by
    rcases Nat.lt_or_ge 1 c.toNat with h1 | h1
    ·exact absurd (Or.inl ⟨e, h1⟩) hn
    ·exact h1
   have hn2 : 0 < i → 0 < c.toNat := fun e => by
    rcases Nat.eq_zero_or_pos c.toNat with h1 | h1
    ·exact absurd (Or.inr ⟨h1, e⟩) hn
    ·exact h1
   split at h
   ·rename_i hs
    simp only [Prod.mk.injEq, and_true] at h
    obtain ⟨rfl, rfl⟩ := h
    refine ⟨c.toNat, by rw [Nat.mod_eq_of_lt hs], by omega, by omega, by simp, ?_, hn2, ?_⟩
    ·rw [show i + 1 - i = 1 by omega, putL_small hs]
     simp
    ·rcases Nat.lt_or_ge i 9 with h9 | h9
     ·have h1 : 2 ^ (7 * i) ≤ 2 ^ 56 := Nat.pow_le_pow_right (by omega) (by omega)
      have h2 := Nat.mul_le_mul (show c.toNat + 1 ≤ 128 by omega) h1
      rw [Nat.add_mul] at h2
      omega
     ·obtain rfl : i = 9 := by omega
      have := hn1 rfl
      omega
   ·rename_i hs
    have hi9 : i ≠ 9 := fun e => by have := hn1 e; omega
    obtain ⟨n, h1, h2, h3, h4, h5, h6, h7⟩ := getAux_inv r (i + 1) _ v k h (by omega)
    have hn0 := h6 (by omega)
    refine ⟨c.toNat % 128 + 128 * n, ?_, by omega, h3, by simp; omega, ?_, fun _ => (by clear h1 h7; omega), ?_⟩
    ·rw [h1, pow7, Nat.add_assoc, Nat.add_mul, Nat.mul_assoc, Nat.mul_left_comm n 128]
    ·rw [show k - i = (k - (i + 1)) + 1 by omega, List.take_succ_cons, h5, putL_big (n := c.toNat % 128 + 128 * n) (by omega)]
     have e1 : (c.toNat % 128 + 128 * n) % 128 = c.toNat % 128 := by omega
     have e2 : (c.toNat % 128 + 128 * n) / 128 = n := by omega
     rw [e1, e2]
     congr 1
     apply UInt8.toNat_inj.1
     rw [ofNat_toNat (by omega)]
     omega
    ·rw [pow7] at h7
     have h8 : c.toNat % 128 + 1 ≤ 128 := by omega
     have h9 := Nat.mul_le_mul_right (2 ^ (7 * i)) h8
     rw [Nat.add_mul] at h9 ⊢
     rw [Nat.mul_left_comm] at h7
     rw [Nat.mul_assoc]
     omega
theorem getL_inv {l : List UInt8} {v k : Nat} (h : getL l = (v, k, 0)) : 0 < k ∧ k ≤ 10 ∧ k ≤ l.length ∧ l.take k = putL v ∧ v < 2 ^ 64 := by
 obtain ⟨n, h1, h2, h3, h4, h5, _, h7⟩ := getAux_inv l 0 0 v k h (by omega)
 simp at h1 h4 h5 h7
 subst h1
 exact ⟨h2, h3, h4, h5, by omega⟩
theorem getAux_cut (n : Nat) : ∀ (i acc k : Nat), n * 2 ^ (7 * i) < 2 ^ 64 → (0 < i → 0 < n) → k < (putL n).length → getAux i acc ((putL n).take k) = (0, 0, 31) := by
 induction n using Nat.strongRecOn with
 | _ n ih =>
  intro i acc k hn hp hk
  cases k with
  | zero => rw [List.take_zero]; rfl
  | succ k =>
   by_cases h : n < 128
   ·rw [putL_small h] at hk
    simp at hk
   ·rw [putL_big h] at hk ⊢
    have e : (UInt8.ofNat (n % 128 + 128)).toNat = n % 128 + 128 := ofNat_toNat (by omega)
    simp only [List.take_succ_cons, getAux, e]
    rw [if_neg, if_neg (by omega)]
    ·refine ih (n / 128) (div_lt' h) (i + 1) _ k ?_ (fun _ => by omega) (by simpa using hk)
     rw [pow7]
     have := split7 n (2 ^ (7 * i))
     omega
    ·rintro (⟨h1, h2⟩ | ⟨h1, h2⟩)
     ·have := small_of_mul hn (by omega)
      omega
     ·omega
theorem getL_cut {n : Nat} (hn : n < 2 ^ 64) {k : Nat} (hk : k < (putL n).length) : getL ((putL n).take k) = (0, 0, 31) := getAux_cut n 0 0 k (by simpa using hn) (by omega) hk
theorem putL_len (n : Nat) (hn : n < 2 ^ 64) : (putL n).length ≤ 10 := (getL_inv (getL_put hn [])).2.1
def gaps : Int → List Int → List Nat
 | _, [] => []
 | p, x :: r => (x - p - 1).toNat :: gaps x r
def rises : Int → List Int → Bool
 | _, [] => true
 | p, x :: r => decide (p < x) && rises x r
def putGaps (l : List Nat) : List UInt8 := l.flatMap putL
def putR (l : List Int) : List UInt8 := putL l.length ++ putGaps (gaps (-1) l)
def getRAux : Nat → Int → Nat → List UInt8 → List Int → List Int × Nat × Int
 | 0, _, at_, _, acc => (acc, at_, 0)
 | m + 1, p, at_, b, acc =>
  if (getL b).2.2 ≠ 0 then ([], 0, (getL b).2.2)
  else if 9223372036854775807 < p + (getL b).1 + 1 then ([], 0, 32)
  else getRAux m (p + (getL b).1 + 1) (at_ + (getL b).2.1) (b.drop (getL b).2.1) (acc ++ [p + (getL b).1 + 1])
def getR (b : List UInt8) (most : Int) : List Int × Nat × Int :=
 if (getL b).2.2 ≠ 0 then ([], 0, (getL b).2.2)
 else if most < 0 ∨ most < ((getL b).1 : Int) then ([], 0, 2)
 else getRAux (getL b).1 (-1) (getL b).2.1 (b.drop (getL b).2.1) []
theorem gaps_len (l : List Int) : ∀ p, (gaps p l).length = l.length := by
 induction l with
 | nil => intro p; rfl
 | cons x r ih => intro p; simp [gaps, ih x]
theorem getL_drop {n : Nat} (more : List UInt8) : (putL n ++ more).drop (putL n).length = more := by
 simp
theorem getRAux_put (l : List Int) : ∀ (p : Int) (at_ : Nat) (more : List UInt8) (acc : List Int), -1 ≤ p → rises p l = true → (∀ x ∈ l, x ≤ 9223372036854775807) →
  getRAux l.length p at_ (putGaps (gaps p l) ++ more) acc = (acc ++ l, at_ + (putGaps (gaps p l)).length, 0) := by
 induction l with
 | nil => intro p at_ more acc _ _ _; simp [getRAux, gaps, putGaps]
 | cons x r ih =>
  intro p at_ more acc hp hr hx
  simp only [rises, Bool.and_eq_true, decide_eq_true_eq] at hr
  have hxm := hx x (List.mem_cons_self ..)
  have hn : (x - p - 1).toNat < 2 ^ 64 := by omega
  have hg : getL (putGaps (gaps p (x :: r)) ++ more) = ((x - p - 1).toNat, (putL (x - p - 1).toNat).length, 0) := by
   simp only [gaps, putGaps, List.flatMap_cons, List.append_assoc]
   exact getL_put hn _
  simp only [List.length_cons, getRAux, hg]
  rw [if_neg (by simp), if_neg (by omega)]
  have e : p + (x - p - 1).toNat + 1 = x := by omega
  rw [e]
  have hd : (putGaps (gaps p (x :: r)) ++ more).drop (putL (x - p - 1).toNat).length = putGaps (gaps x r) ++ more := by
   simp only [gaps, putGaps, List.flatMap_cons, List.append_assoc]
   exact getL_drop _
  rw [hd, ih x _ more _ (by omega) hr.2 (fun y hy => hx y (List.mem_cons_of_mem _ hy))]
  simp only [gaps, putGaps, List.flatMap_cons, List.length_append, List.append_assoc, List.cons_append, List.nil_append]
  rw [Nat.add_assoc]
theorem getR_put (l : List Int) (hl : l.length < 2 ^ 63) (hr : rises (-1) l = true) (hx : ∀ x ∈ l, x ≤ 9223372036854775807) (more : List UInt8) (most : Int) (hm : (l.length : Int) ≤ most) :
  getR (putR l ++ more) most = (l, (putR l).length, 0) := by
 have hg : getL (putR l ++ more) = (l.length, (putL l.length).length, 0) := by
  unfold putR
  rw [List.append_assoc]
  exact getL_put (by omega) _
 unfold getR
 rw [hg]
 simp only
 rw [if_neg (by simp), if_neg (by omega)]
 have hd : (putR l ++ more).drop (putL l.length).length = putGaps (gaps (-1) l) ++ more := by
  unfold putR
  rw [List.append_assoc]
  exact getL_drop _
 rw [hd, getRAux_put l (-1) _ more [] (by omega) hr hx]
 simp [putR]
theorem getRAux_inv : ∀ (m : Nat) (p : Int) (at_ : Nat) (b : List UInt8) (acc : List Int) (l : List Int) (k : Nat), getRAux m p at_ b acc = (l, k, 0) → -1 ≤ p →
  ∃ r, l = acc ++ r ∧ r.length = m ∧ rises p r = true ∧ (∀ x ∈ r, x ≤ 9223372036854775807) ∧ at_ ≤ k ∧ k ≤ at_ + b.length ∧ b.take (k - at_) = putGaps (gaps p r)
 | 0, p, at_, b, acc, l, k, h, _ => by
  simp only [getRAux, Prod.mk.injEq, and_true] at h
  obtain ⟨rfl, rfl⟩ := h
  exact ⟨[], by simp, rfl, rfl, by simp, Nat.le_refl _, by omega, by simp [gaps, putGaps]⟩
 | m + 1, p, at_, b, acc, l, k, h, hp => by
  simp only [getRAux] at h
  split at h
  ·rename_i he
   simp only [Prod.mk.injEq] at h
   exact absurd h.2.2 he
  ·rename_i he
   split at h
   ·simp at h
   ·rename_i ho
    rcases hgl : getL b with ⟨n, j, e⟩
    rw [hgl] at h he ho
    simp only at h he ho
    have he0 : e = 0 := by
     rcases Int.lt_trichotomy e 0 with h1 | h1 | h1
     ·exact absurd (show e ≠ 0 by omega) he
     ·exact h1
     ·exact absurd (show e ≠ 0 by omega) he
    subst he0
    obtain ⟨g1, g2, g3, g4, g5⟩ := getL_inv hgl
    obtain ⟨r, h1, h2, h3, h4, h5, h6, h7⟩ := getRAux_inv m _ _ _ _ l k h (by omega)
    refine ⟨(p + n + 1) :: r, by rw [h1]; simp, by simp [h2], by simp [rises, h3]; omega, fun x hx => ?_, by omega, by rw [List.length_drop] at h6; omega, ?_⟩
    ·rcases List.mem_cons.1 hx with rfl | hx
     ·omega
     ·exact h4 x hx
    ·have e1 : (p + n + 1 - p - 1).toNat = n := by omega
     simp only [gaps, putGaps, List.flatMap_cons, e1]
     have e2 : b = putL n ++ b.drop j := by rw [← g4, List.take_append_drop]
     have e3 : (putL n).length = j := by rw [← g4]; simp; omega
     rw [e2, List.take_append]
     rw [List.take_of_length_le (by omega), e3, show k - at_ - j = k - (at_ + j) by omega, h7]
     rfl
theorem getR_inv {b : List UInt8} {most : Int} {l : List Int} {k : Nat} (h : getR b most = (l, k, 0)) :
  rises (-1) l = true ∧ (∀ x ∈ l, x ≤ 9223372036854775807) ∧ k ≤ b.length ∧ b.take k = putR l ∧ (l.length : Int) ≤ most := by
 unfold getR at h
 split at h
 ·rename_i he
  simp only [Prod.mk.injEq] at h
  exact absurd h.2.2 he
 ·rename_i he
  split at h
  ·simp at h
  ·rename_i hm
   rcases hgl : getL b with ⟨n, j, e⟩
   rw [hgl] at h he hm
   simp only at h he hm
   have he0 : e = 0 := by
    rcases Int.lt_trichotomy e 0 with h1 | h1 | h1
    ·exact absurd (show e ≠ 0 by omega) he
    ·exact h1
    ·exact absurd (show e ≠ 0 by omega) he
   subst he0
   obtain ⟨g1, g2, g3, g4, g5⟩ := getL_inv hgl
   obtain ⟨r, h1, h2, h3, h4, h5, h6, h7⟩ := getRAux_inv n _ _ _ _ l k h (by omega)
   rw [List.nil_append] at h1
   subst h1
   refine ⟨h3, h4, by rw [List.length_drop] at h6; omega, ?_, by rw [h2]; omega⟩
   have e2 : b = putL n ++ b.drop j := by rw [← g4, List.take_append_drop]
   have e3 : (putL n).length = j := by rw [← g4]; simp; omega
   rw [e2, List.take_append, List.take_of_length_le (by omega), e3, h7, putR, h2]
theorem rises_at (l : List Int) : ∀ p, rises p l = true ↔ ∀ (i : Nat) (x : Int), l[i]? = some x → (if i = 0 then p else l.getD (i - 1) 0) < x := by
 induction l with
 | nil => intro p; simp [rises]
 | cons y r ih =>
  intro p
  simp only [rises, Bool.and_eq_true, decide_eq_true_eq, ih y]
  constructor
  ·rintro ⟨h1, h2⟩ i x hx
   cases i with
   | zero => simp at hx; subst hx; simpa using h1
   | succ i =>
    have h := h2 i x (by simpa using hx)
    rw [if_neg (by omega)]
    cases i with
    | zero => simpa using h
    | succ i => simpa using h
  ·intro h
   refine ⟨by simpa using h 0 y rfl, fun i x hx => ?_⟩
   have := h (i + 1) x (by simpa using hx)
   cases i with
   | zero => simpa using this
   | succ i => simpa using this
structure Rd where
 bs : List UInt8
 p : Nat
 e : Int
def rInt (s : Rd) (most : Int) : Int × Rd :=
 if s.e ≠ 0 then (0, s)
 else if (getL (s.bs.drop s.p)).2.2 ≠ 0 then (0, { s with e := (getL (s.bs.drop s.p)).2.2 })
 else if most < 0 ∨ most < ((getL (s.bs.drop s.p)).1 : Int) then (0, { s with e := 32 })
 else ((getL (s.bs.drop s.p)).1, { s with p := s.p + (getL (s.bs.drop s.p)).2.1 })
def rBytes (s : Rd) (n : Int) : List UInt8 × Rd :=
 if s.e ≠ 0 ∨ n ≤ 0 then ([], s)
 else if (s.bs.length : Int) - s.p < n then ([], { s with e := 31 })
 else ((s.bs.drop s.p).take n.toNat, { s with p := s.p + n.toNat })
def rText (s : Rd) (most : Int) : List UInt8 × Rd := rBytes (rInt s most).2 (rInt s most).1
def rLeft (s : Rd) : Nat := if s.e ≠ 0 then 0 else s.bs.length - s.p
structure Rd.Ok (s : Rd) : Prop where
 place : s.p ≤ s.bs.length
theorem rInt_ok {s : Rd} (h : s.Ok) (most : Int) : (rInt s most).2.Ok ∧ (rInt s most).2.bs = s.bs := by
 unfold rInt
 split
 ·exact ⟨h, rfl⟩
 ·split
  ·exact ⟨⟨h.place⟩, rfl⟩
  ·split
   ·exact ⟨⟨h.place⟩, rfl⟩
   ·rename_i he _
    refine ⟨⟨?_⟩, rfl⟩
    rcases hg : getL (s.bs.drop s.p) with ⟨v, k, e⟩
    rw [hg] at he
    have he0 : e = 0 := by simpa using he
    subst he0
    have h3 := (getL_inv hg).2.2.1
    have := h.place
    simp only [List.length_drop] at h3 ⊢
    omega
theorem rBytes_ok {s : Rd} (h : s.Ok) (n : Int) : (rBytes s n).2.Ok ∧ (rBytes s n).2.bs = s.bs := by
 have := h.place
 unfold rBytes
 split
 ·exact ⟨h, rfl⟩
 ·split
  ·exact ⟨⟨h.place⟩, rfl⟩
  ·exact ⟨⟨by simp only; omega⟩, rfl⟩
theorem rText_ok {s : Rd} (h : s.Ok) (most : Int) : (rText s most).2.Ok ∧ (rText s most).2.bs = s.bs := by
 have h1 := rInt_ok h most
 have h2 := rBytes_ok h1.1 (rInt s most).1
 exact ⟨h2.1, h2.2.trans h1.2⟩
abbrev Pst := Int × List (Int × Int)
def poss (s : List (Int × Int)) : List Int := s.map (·.1)
def atss (s : List (Int × Int)) : List Int := s.map (·.2)
def pAt (l : List Pst) (i : Nat) : Pst := l.getD i (0, [])
def lastD (l : List Pst) (i : Nat) : Int := if i = 0 then -1 else (pAt l (i - 1)).1
def unitB (l : List Pst) (i : Nat) : List UInt8 := putL ((pAt l i).1 - lastD l i - 1).toNat ++ (putR (poss (pAt l i).2) ++ putR (atss (pAt l i).2))
def cat (f : Nat → List UInt8) (a : Nat) : Nat → List UInt8
 | 0 => []
 | k + 1 => cat f a k ++ f (a + k)
def headB (l : List Pst) (f t : Nat) (b : List UInt8) : List UInt8 := putL ((pAt l (t - 1)).1 - lastD l f - 1).toNat ++ putL b.length
def blockB (l : List Pst) (i : Nat) : List UInt8 := headB l i (min l.length (i + 4)) (cat (unitB l) i (min l.length (i + 4) - i))
def linB (l : List Pst) (i : Nat) : List UInt8 := (if i % 4 = 0 then blockB l i else []) ++ unitB l i
def groupB (l : List Pst) (i : Nat) : List UInt8 := headB l i (min l.length (i + 16)) (cat (linB l) i (min l.length (i + 16) - i))
def lin (l : List Pst) (i : Nat) : List UInt8 := (if i % 16 = 0 then groupB l i else []) ++ linB l i
def putP (l : List Pst) : List UInt8 := putL l.length ++ cat (lin l) 0 l.length
theorem cat_cons (f : Nat → List UInt8) (a k : Nat) : cat f a (k + 1) = f a ++ cat f (a + 1) k := by
 induction k with
 | zero => simp [cat]
 | succ k ih =>
  rw [cat, ih, cat, List.append_assoc, show a + (k + 1) = a + 1 + k by omega]
theorem cat_add (f : Nat → List UInt8) (a j k : Nat) : cat f a (j + k) = cat f a j ++ cat f (a + j) k := by
 induction k with
 | zero => simp [cat]
 | succ k ih => rw [← Nat.add_assoc, cat, ih, cat, List.append_assoc, show a + (j + k) = a + j + k by omega]
theorem cat_congr {f g : Nat → List UInt8} {a k : Nat} (h : ∀ i, a ≤ i → i < a + k → f i = g i) : cat f a k = cat g a k := by
 induction k with
 | zero => rfl
 | succ k ih => rw [cat, cat, ih fun i h1 h2 => h i h1 (by omega), h (a + k) (by omega) (by omega)]
theorem len_cat (f : Nat → List UInt8) (a k m : Nat) (h : ∀ i, a ≤ i → i < a + k → (f i).length ≤ m) : (cat f a k).length ≤ m * k := by
 induction k with
 | zero => simp [cat]
 | succ k ih =>
  have h1 := ih fun i h2 h3 => h i h2 (by omega)
  have h2 := h (a + k) (by omega) (by omega)
  rw [cat, List.length_append, Nat.mul_succ]
  omega
theorem cat_block (l : List Pst) {i k : Nat} (hi : i % 4 = 0) (hk : 0 < k) (hk4 : k ≤ 4) : cat (linB l) i k = blockB l i ++ cat (unitB l) i k := by
 obtain ⟨k, rfl⟩ : ∃ q, k = q + 1 := ⟨k - 1, by omega⟩
 rw [cat_cons, cat_cons, linB, if_pos hi, List.append_assoc]
 congr 2
 exact cat_congr fun j h1 h2 => by rw [linB, if_neg (by omega)]; rfl
theorem cat_group (l : List Pst) {i k : Nat} (hi : i % 16 = 0) (hk : 0 < k) (hk4 : k ≤ 16) : cat (lin l) i k = groupB l i ++ cat (linB l) i k := by
 obtain ⟨k, rfl⟩ : ∃ q, k = q + 1 := ⟨k - 1, by omega⟩
 rw [cat_cons, cat_cons, lin, if_pos hi, List.append_assoc]
 congr 2
 exact cat_congr fun j h1 h2 => by rw [lin, if_neg (by omega)]; rfl
structure ValidP (l : List Pst) : Prop where
 few : l.length ≤ 4096
 spots : ∀ x ∈ l, x.2.length ≤ 4096
 some : ∀ x ∈ l, 0 < x.2.length
 docs : ∀ x ∈ l, 0 ≤ x.1 ∧ x.1 ≤ 4294967296
 up : ∀ i, i < l.length → lastD l i < (pAt l i).1
 pos : ∀ x ∈ l, rises (-1) (poss x.2) = true
 at_ : ∀ x ∈ l, rises (-1) (atss x.2) = true
 fit : ∀ x ∈ l, ∀ s ∈ x.2, s.1 ≤ 9223372036854775807 ∧ s.2 ≤ 9223372036854775807
theorem pAt_mem {l : List Pst} {i : Nat} (h : i < l.length) : pAt l i ∈ l := by
 unfold pAt
 rw [List.getD_eq_getElem?_getD, List.getElem?_eq_getElem h]
 exact List.getElem_mem h
theorem ValidP.last {l : List Pst} (h : ValidP l) {i : Nat} (hi : i ≤ l.length) : -1 ≤ lastD l i ∧ lastD l i ≤ 4294967296 := by
 unfold lastD
 split
 ·omega
 ·have := h.docs _ (pAt_mem (show i - 1 < l.length by omega))
  omega
theorem poss_le {s : List (Int × Int)} (h : ∀ x ∈ s, x.1 ≤ 9223372036854775807 ∧ x.2 ≤ 9223372036854775807) : (∀ y ∈ poss s, y ≤ 9223372036854775807) ∧ ∀ y ∈ atss s, y ≤ 9223372036854775807 := by
 constructor
 ·intro y hy
  obtain ⟨x, hx, rfl⟩ := List.mem_map.1 hy
  exact (h x hx).1
 ·intro y hy
  obtain ⟨x, hx, rfl⟩ := List.mem_map.1 hy
  exact (h x hx).2
theorem poss_len (s : List (Int × Int)) : (poss s).length = s.length ∧ (atss s).length = s.length := by simp [poss, atss]
theorem head_val {l : List Pst} (hl : ValidP l) {f t : Nat} (ht : t ≤ l.length) (hf : f ≤ l.length) : ((pAt l (t - 1)).1 - lastD l f - 1).toNat < 2 ^ 64 := by
 have w1 := hl.last hf
 rcases Nat.eq_zero_or_pos l.length with h0 | h0
 ·have : l = [] := List.eq_nil_of_length_eq_zero h0
  subst this
  simp [pAt]
  omega
 ·have := hl.docs _ (pAt_mem (show t - 1 < l.length by omega))
  omega
theorem putGapsR_len (l : List Int) : ∀ p : Int, -1 ≤ p → rises p l = true → (∀ x ∈ l, x ≤ 9223372036854775807) → (putGaps (gaps p l)).length ≤ 10 * l.length := by
 induction l with
 | nil => intro p _ _ _; simp [gaps, putGaps]
 | cons x l ih =>
  intro p hp hr h
  simp only [rises, Bool.and_eq_true, decide_eq_true_eq] at hr
  have hx := h x (List.mem_cons_self ..)
  have h1 := putL_len (x - p - 1).toNat (by omega)
  have := ih x (by omega) hr.2 fun y hy => h y (List.mem_cons_of_mem _ hy)
  simp only [gaps, putGaps, List.flatMap_cons, List.length_append, List.length_cons] at this ⊢
  omega
theorem putR_len {l : List Int} (hn : l.length ≤ 4096) (hr : rises (-1) l = true) (h : ∀ x ∈ l, x ≤ 9223372036854775807) : (putR l).length ≤ 40970 := by
 have h1 := putGapsR_len l (-1) (by omega) hr h
 have h2 := putL_len l.length (by omega)
 unfold putR
 rw [List.length_append]
 omega
theorem unit_len {l : List Pst} (hl : ValidP l) {i : Nat} (hi : i < l.length) : (unitB l i).length ≤ 90000 := by
 have p1 := poss_le (hl.fit _ (pAt_mem hi))
 have n1 := poss_len (pAt l i).2
 have s1 := hl.spots _ (pAt_mem hi)
 have h1 := putR_len (by omega) (hl.pos _ (pAt_mem hi)) p1.1
 have h2 := putR_len (by omega) (hl.at_ _ (pAt_mem hi)) p1.2
 have q1 := hl.docs _ (pAt_mem hi)
 have w1 := hl.last (Nat.le_of_lt hi)
 have h3 := putL_len ((pAt l i).1 - lastD l i - 1).toNat (by omega)
 unfold unitB
 simp only [List.length_append]
 omega
theorem units_len {l : List Pst} (hl : ValidP l) {i k : Nat} (h : i + k ≤ l.length) : (cat (unitB l) i k).length ≤ 90000 * k := len_cat _ _ _ _ fun j h1 h2 => unit_len hl (by omega)
theorem block_len {l : List Pst} (hl : ValidP l) {i : Nat} (hi : i < l.length) : (blockB l i).length ≤ 20 := by
 have h1 := units_len hl (i := i) (k := min l.length (i + 4) - i) (by omega)
 unfold blockB headB
 have h2 := putL_len _ (head_val hl (f := i) (t := min l.length (i + 4)) (by omega) (by omega))
 have h3 := putL_len (cat (unitB l) i (min l.length (i + 4) - i)).length (by omega)
 rw [List.length_append]
 omega
theorem linB_len {l : List Pst} (hl : ValidP l) {i : Nat} (hi : i < l.length) : (linB l i).length ≤ 90020 := by
 have h1 := unit_len hl hi
 have h2 := block_len hl hi
 unfold linB
 rw [List.length_append]
 split
 ·omega
 ·simp; omega
theorem linBs_len {l : List Pst} (hl : ValidP l) {i k : Nat} (h : i + k ≤ l.length) : (cat (linB l) i k).length ≤ 90020 * k := len_cat _ _ _ _ fun j h1 h2 => linB_len hl (by omega)
theorem group_len {l : List Pst} (hl : ValidP l) {i : Nat} (hi : i < l.length) : (groupB l i).length ≤ 20 := by
 have h1 := linBs_len hl (i := i) (k := min l.length (i + 16) - i) (by omega)
 unfold groupB headB
 have h2 := putL_len _ (head_val hl (f := i) (t := min l.length (i + 16)) (by omega) (by omega))
 have h3 := putL_len (cat (linB l) i (min l.length (i + 16) - i)).length (by omega)
 rw [List.length_append]
 omega
theorem lin_len {l : List Pst} (hl : ValidP l) {i : Nat} (hi : i < l.length) : (lin l i).length ≤ 90040 := by
 have h1 := linB_len hl hi
 have h2 := group_len hl hi
 unfold lin
 rw [List.length_append]
 split
 ·omega
 ·simp; omega
theorem lins_len {l : List Pst} (hl : ValidP l) {i k : Nat} (h : i + k ≤ l.length) : (cat (lin l) i k).length ≤ 90040 * k := len_cat _ _ _ _ fun j h1 h2 => lin_len hl (by omega)
theorem putP_len {l : List Pst} (hl : ValidP l) : (putP l).length ≤ 368803860 := by
 have h1 := lins_len hl (i := 0) (k := l.length) (by omega)
 have h2 := hl.few
 have h3 := putL_len l.length (by omega)
 unfold putP
 rw [List.length_append]
 omega
def okAt (l : List Pst) (i : Nat) : Bool := decide (0 ≤ (pAt l i).1) && (decide ((pAt l i).1 ≤ 4294967296) && (decide (lastD l i < (pAt l i).1) && (decide (0 < (pAt l i).2.length) && (rises (-1) (poss (pAt l i).2) && rises (-1) (atss (pAt l i).2)))))
def okUp (l : List Pst) : Nat → Bool
 | 0 => true
 | i + 1 => okUp l i && okAt l i
def manyUp (l : List Pst) : Nat → Bool
 | 0 => false
 | i + 1 => manyUp l i || decide (4096 < (pAt l i).2.length)
def checkP (l : List Pst) : Int := if 4096 < l.length then 2 else if manyUp l l.length then 2 else if okUp l l.length then 0 else 1
def FitP (l : List Pst) : Prop := ∀ x ∈ l, ∀ s ∈ x.2, s.1 ≤ 9223372036854775807 ∧ s.2 ≤ 9223372036854775807
theorem okUp_iff {l : List Pst} {n : Nat} : okUp l n = true ↔ ∀ i, i < n → okAt l i = true := by
 induction n with
 | zero => simp [okUp]
 | succ n ih =>
  rw [okUp, Bool.and_eq_true, ih]
  constructor
  ·rintro ⟨h1, h2⟩ i hi
   rcases Nat.lt_or_ge i n with h | h
   ·exact h1 i h
   ·obtain rfl : i = n := by omega
    exact h2
  ·exact fun h => ⟨fun i hi => h i (by omega), h n (by omega)⟩
theorem manyUp_iff {l : List Pst} {n : Nat} : manyUp l n = false ↔ ∀ i, i < n → (pAt l i).2.length ≤ 4096 := by
 induction n with
 | zero => simp [manyUp]
 | succ n ih =>
  rw [manyUp, Bool.or_eq_false_iff, ih, decide_eq_false_iff_not]
  constructor
  ·rintro ⟨h1, h2⟩ i hi
   rcases Nat.lt_or_ge i n with h | h
   ·exact h1 i h
   ·obtain rfl : i = n := by omega
    omega
  ·exact fun h => ⟨fun i hi => h i (by omega), by have := h n (by omega); omega⟩
theorem okAt_iff {l : List Pst} {i : Nat} : okAt l i = true ↔ 0 ≤ (pAt l i).1 ∧ (pAt l i).1 ≤ 4294967296 ∧ lastD l i < (pAt l i).1 ∧ 0 < (pAt l i).2.length ∧ rises (-1) (poss (pAt l i).2) = true ∧ rises (-1) (atss (pAt l i).2) = true := by
 unfold okAt
 simp only [Bool.and_eq_true, decide_eq_true_eq]
theorem pAt_of {l : List Pst} {x : Pst} (h : x ∈ l) : ∃ i, i < l.length ∧ pAt l i = x := by
 obtain ⟨i, hi, rfl⟩ := List.mem_iff_getElem.1 h
 exact ⟨i, hi, by unfold pAt; rw [List.getD_eq_getElem?_getD, List.getElem?_eq_getElem hi]; rfl⟩
theorem check_ok {l : List Pst} (hf : FitP l) : checkP l = 0 ↔ ValidP l := by
 unfold checkP
 constructor
 ·intro h
  split at h
  ·cases h
  ·split at h
   ·cases h
   ·split at h
    ·rename_i h1 h2 h3
     have h2 := manyUp_iff.1 (by simpa using h2)
     have h3 := okUp_iff.1 h3
     have at1 : ∀ x ∈ l, ∃ i, i < l.length ∧ pAt l i = x ∧ okAt l i = true := fun x hx => by
      obtain ⟨i, hi, e⟩ := pAt_of hx
      exact ⟨i, hi, e, h3 i hi⟩
     exact {
      few := by omega
      spots := fun x hx => by obtain ⟨i, hi, rfl, _⟩ := at1 x hx; exact h2 i hi
      some := fun x hx => by obtain ⟨i, hi, rfl, h⟩ := at1 x hx; exact (okAt_iff.1 h).2.2.2.1
      docs := fun x hx => by obtain ⟨i, hi, rfl, h⟩ := at1 x hx; exact ⟨(okAt_iff.1 h).1, (okAt_iff.1 h).2.1⟩
      up := fun i hi => (okAt_iff.1 (h3 i hi)).2.2.1
      pos := fun x hx => by obtain ⟨i, hi, rfl, h⟩ := at1 x hx; exact (okAt_iff.1 h).2.2.2.2.1
      at_ := fun x hx => by obtain ⟨i, hi, rfl, h⟩ := at1 x hx; exact (okAt_iff.1 h).2.2.2.2.2
      fit := hf }
    ·cases h
 ·intro h
  have h1 := h.few
  rw [if_neg (by omega), if_neg, if_pos]
  ·exact okUp_iff.2 fun i hi => okAt_iff.2 ⟨(h.docs _ (pAt_mem hi)).1, (h.docs _ (pAt_mem hi)).2, h.up i hi, h.some _ (pAt_mem hi), h.pos _ (pAt_mem hi), h.at_ _ (pAt_mem hi)⟩
  ·rw [manyUp_iff.2 fun i hi => h.spots _ (pAt_mem hi)]
   simp
def past1 (b : List UInt8) (n : Nat) : Nat := if (getL (b.drop n)).2.2 = 0 then n + (getL (b.drop n)).2.1 else n
def pastB (b : List UInt8) (n : Nat) : Nat := past1 b (past1 b n)
def skipB (b : List UInt8) (i n : Nat) : Nat := if i % 4 = 0 then pastB b (if i % 16 = 0 then pastB b n else n) else (if i % 16 = 0 then pastB b n else n)
def rdOne (b : List UInt8) (n : Nat) : Option (Nat × List (Int × Int) × Nat) :=
 if (getL (b.drop n)).2.2 ≠ 0 ∨ 4294967296 < (getL (b.drop n)).1 then none
 else
  if (getR (b.drop (n + (getL (b.drop n)).2.1)) 4096).2.2 ≠ 0 then none
  else
   if (getR (b.drop (n + (getL (b.drop n)).2.1 + (getR (b.drop (n + (getL (b.drop n)).2.1)) 4096).2.1)) 4096).2.2 ≠ 0 ∨ (getR (b.drop (n + (getL (b.drop n)).2.1 + (getR (b.drop (n + (getL (b.drop n)).2.1)) 4096).2.1)) 4096).1.length ≠ (getR (b.drop (n + (getL (b.drop n)).2.1)) 4096).1.length then none
   else some ((getL (b.drop n)).1, (getR (b.drop (n + (getL (b.drop n)).2.1)) 4096).1.zip (getR (b.drop (n + (getL (b.drop n)).2.1 + (getR (b.drop (n + (getL (b.drop n)).2.1)) 4096).2.1)) 4096).1,
    n + (getL (b.drop n)).2.1 + (getR (b.drop (n + (getL (b.drop n)).2.1)) 4096).2.1 + (getR (b.drop (n + (getL (b.drop n)).2.1 + (getR (b.drop (n + (getL (b.drop n)).2.1)) 4096).2.1)) 4096).2.1)
def rdUp (b : List UInt8) (n0 : Nat) : Nat → Option (List Pst × Nat × Int)
 | 0 => some ([], n0, -1)
 | i + 1 => match rdUp b n0 i with
  | none => none
  | some (l, n, doc) => match rdOne b (skipB b i n) with
   | none => none
   | some (d, s, n2) => some (l ++ [(doc + d + 1, s)], n2, doc + d + 1)
def getP (b : List UInt8) : List Pst × Int :=
 if (getL b).2.2 ≠ 0 ∨ 4096 < (getL b).1 then ([], 3)
 else match rdUp b (getL b).2.1 (getL b).1 with
  | none => ([], 3)
  | some (l, _, _) => if checkP l = 0 ∧ putP l = b then (l, 0) else ([], 3)
theorem past_head {b : List UInt8} {n : Nat} {u v : Nat} {r : List UInt8} (hu : u < 2 ^ 64) (hv : v < 2 ^ 64) (h : b.drop n = putL u ++ putL v ++ r) : pastB b n = n + (putL u ++ putL v).length ∧ b.drop (pastB b n) = r := by
 have h1 : getL (b.drop n) = (u, (putL u).length, 0) := by rw [h, List.append_assoc]; exact getL_put hu _
 have e1 : past1 b n = n + (putL u).length := by unfold past1; rw [h1]; simp
 have h2 : b.drop (n + (putL u).length) = putL v ++ r := by rw [← List.drop_drop, h, List.append_assoc, getL_drop]
 have h3 : getL (b.drop (n + (putL u).length)) = (v, (putL v).length, 0) := by rw [h2]; exact getL_put hv _
 have e2 : pastB b n = n + (putL u).length + (putL v).length := by
  unfold pastB
  rw [e1]
  unfold past1
  rw [h3]
  simp
 refine ⟨by rw [e2, List.length_append]; omega, ?_⟩
 rw [e2, ← List.drop_drop, h2, getL_drop]
theorem zip_spots (s : List (Int × Int)) : (poss s).zip (atss s) = s := by
 induction s with
 | nil => rfl
 | cons x s ih =>
  simp only [poss, atss, List.map_cons, List.zip_cons_cons] at ih ⊢
  rw [ih]
theorem rdOne_put {l : List Pst} (hl : ValidP l) {i : Nat} (hi : i < l.length) {b : List UInt8} {n : Nat} {r : List UInt8} (h : b.drop n = unitB l i ++ r) :
  rdOne b n = some (((pAt l i).1 - lastD l i - 1).toNat, (pAt l i).2, n + (unitB l i).length) ∧ b.drop (n + (unitB l i).length) = r := by
 have q1 := hl.docs _ (pAt_mem hi)
 have w1 := hl.last (Nat.le_of_lt hi)
 have u1 := hl.up i hi
 have p1 := poss_le (hl.fit _ (pAt_mem hi))
 have n1 := poss_len (pAt l i).2
 have s1 := hl.spots _ (pAt_mem hi)
 have h0 := h
 obtain ⟨d, hd⟩ : ∃ d, d = ((pAt l i).1 - lastD l i - 1).toNat := ⟨_, rfl⟩
 obtain ⟨P, hP⟩ : ∃ P, P = poss (pAt l i).2 := ⟨_, rfl⟩
 obtain ⟨Q, hQ⟩ : ∃ Q, Q = atss (pAt l i).2 := ⟨_, rfl⟩
 have e0 : unitB l i = putL d ++ (putR P ++ putR Q) := by unfold unitB; rw [← hd, ← hP, ← hQ]
 rw [e0, List.append_assoc] at h
 have g1 : getL (b.drop n) = (d, (putL d).length, 0) := by rw [h]; exact getL_put (by omega) _
 have h2 : b.drop (n + (putL d).length) = putR P ++ (putR Q ++ r) := by rw [← List.drop_drop, h, getL_drop, List.append_assoc]
 have g2 : getR (b.drop (n + (putL d).length)) 4096 = (P, (putR P).length, 0) := by
  rw [h2]
  exact getR_put P (by rw [hP]; omega) (by rw [hP]; exact hl.pos _ (pAt_mem hi)) (by rw [hP]; exact p1.1) _ _ (by rw [hP]; omega)
 have h3 : b.drop (n + (putL d).length + (putR P).length) = putR Q ++ r := by rw [← List.drop_drop, h2, List.drop_left]
 have g3 : getR (b.drop (n + (putL d).length + (putR P).length)) 4096 = (Q, (putR Q).length, 0) := by
  rw [h3]
  exact getR_put Q (by rw [hQ]; omega) (by rw [hQ]; exact hl.at_ _ (pAt_mem hi)) (by rw [hQ]; exact p1.2) _ _ (by rw [hQ]; omega)
 constructor
 ·unfold rdOne
  simp only [g1, g2, g3]
  rw [if_neg (by simp; omega), if_neg (by simp), if_neg (by rw [hP, hQ]; simp; omega), hP, hQ, zip_spots, ← hP, ← hQ, e0, ← hd]
  simp only [List.length_append, Option.some.injEq, Prod.mk.injEq, true_and]
  omega
 ·rw [← List.drop_drop, h0, List.drop_left]
theorem skip_put {l : List Pst} (hl : ValidP l) {i : Nat} (hi : i < l.length) {b : List UInt8} {n : Nat} {r : List UInt8} (h : b.drop n = lin l i ++ r) : b.drop (skipB b i n) = unitB l i ++ r ∧ skipB b i n + (unitB l i).length = n + (lin l i).length := by
 have b1 := units_len hl (i := i) (k := min l.length (i + 4) - i) (by omega)
 have g1 := linBs_len hl (i := i) (k := min l.length (i + 16) - i) (by omega)
 obtain ⟨n1, hn1⟩ : ∃ n1, n1 = if i % 16 = 0 then pastB b n else n := ⟨_, rfl⟩
 have hb : b.drop n1 = linB l i ++ r ∧ n1 + (linB l i).length = n + (lin l i).length := by
  unfold lin at h ⊢
  by_cases h16 : i % 16 = 0
  ·rw [if_pos h16] at h hn1 ⊢
   rw [List.append_assoc] at h
   obtain ⟨e1, e2⟩ := past_head (head_val hl (by omega) (by omega)) (by omega) h
   rw [hn1]
   refine ⟨e2, ?_⟩
   rw [e1]
   unfold groupB headB
   simp only [List.length_append]
   omega
  ·rw [if_neg h16] at h hn1 ⊢
   rw [hn1]
   exact ⟨h, by simp⟩
 have hs : skipB b i n = if i % 4 = 0 then pastB b n1 else n1 := by rw [hn1]; rfl
 rw [hs]
 obtain ⟨hb1, hb2⟩ := hb
 unfold linB at hb1 hb2
 by_cases h4 : i % 4 = 0
 ·rw [if_pos h4] at hb1 hb2 ⊢
  rw [List.append_assoc] at hb1
  obtain ⟨e1, e2⟩ := past_head (head_val hl (by omega) (by omega)) (by omega) hb1
  refine ⟨e2, ?_⟩
  rw [e1, ← hb2]
  unfold blockB headB
  simp only [List.length_append]
  omega
 ·rw [if_neg h4] at hb1 hb2 ⊢
  exact ⟨hb1, by rw [← hb2]; simp⟩
theorem rdUp_put {l : List Pst} (hl : ValidP l) {b : List UInt8} {n0 : Nat} (hb : b.drop n0 = cat (lin l) 0 l.length) : ∀ i, i ≤ l.length → rdUp b n0 i = some (l.take i, n0 + (cat (lin l) 0 i).length, lastD l i)
 | 0, _ => by simp [rdUp, cat, lastD]
 | i + 1, hi => by
  have ih := rdUp_put hl hb i (by omega)
  have hx := pAt_mem (show i < l.length by omega)
  have hd : b.drop (n0 + (cat (lin l) 0 i).length) = lin l i ++ cat (lin l) (i + 1) (l.length - (i + 1)) := by
   have e := cat_add (lin l) 0 i (l.length - i)
   rw [show i + (l.length - i) = l.length by omega, Nat.zero_add] at e
   rw [← List.drop_drop, hb, e, List.drop_left, show l.length - i = (l.length - (i + 1)) + 1 by omega, cat_cons]
  obtain ⟨h1, h2⟩ := skip_put hl (by omega) hd
  obtain ⟨h3, _⟩ := rdOne_put hl (by omega) h1
  have u1 := hl.up i (by omega)
  unfold rdUp
  rw [ih]
  simp only [h3]
  have e1 : lastD l i + (((pAt l i).1 - lastD l i - 1).toNat : Int) + 1 = (pAt l i).1 := by omega
  have e2 : lastD l (i + 1) = (pAt l i).1 := by unfold lastD; rw [if_neg (by omega)]; rfl
  have e3 : l.take (i + 1) = l.take i ++ [pAt l i] := by
   rw [List.take_add_one]
   unfold pAt
   rw [List.getD_eq_getElem?_getD, List.getElem?_eq_getElem (by omega)]
   rfl
  rw [e1, e2, e3, h2, cat, List.length_append, Nat.zero_add]
  simp only [Option.some.injEq, Prod.mk.injEq]
  exact ⟨trivial, by omega, trivial⟩
theorem getP_put {l : List Pst} (hl : ValidP l) : getP (putP l) = (l, 0) := by
 have f1 := hl.few
 have h1 : getL (putP l) = (l.length, (putL l.length).length, 0) := by unfold putP; exact getL_put (by omega) _
 have h2 : (putP l).drop (putL l.length).length = cat (lin l) 0 l.length := by unfold putP; rw [getL_drop]
 unfold getP
 rw [h1]
 simp only
 rw [if_neg (by simp; omega), rdUp_put hl h2 l.length (Nat.le_refl _)]
 simp only [List.take_length]
 rw [if_pos ⟨(check_ok hl.fit).2 hl, trivial⟩]
theorem getP_some {b : List UInt8} (h : (getP b).2 = 0) : checkP (getP b).1 = 0 ∧ putP (getP b).1 = b := by
 unfold getP at h ⊢
 split at h
 ·cases h
 ·rename_i h1
  rw [if_neg h1]
  split at h
  ·cases h
  ·rename_i l n d h2
   split at h
   ·rename_i h3
    rw [if_pos h3]
    exact h3
   ·cases h
theorem getP_err (b : List UInt8) : (getP b).2 = 0 ∨ getP b = ([], 3) := by
 unfold getP
 split
 ·exact .inr rfl
 ·split
  ·exact .inr rfl
  ·split
   ·exact .inl rfl
   ·exact .inr rfl
def poly : Nat := 3988292384
def all1 : Nat := 4294967295
def bitStep (r : Nat) : Nat := if r % 2 = 1 then (r / 2) ^^^ poly else r / 2
def bitSteps : Nat → Nat → Nat
 | 0, r => r
 | k + 1, r => bitStep (bitSteps k r)
def s8 (r : Nat) : Nat := bitSteps 8 r
def step (r : Nat) (c : UInt8) : Nat := s8 (r ^^^ c.toNat)
def reg (r : Nat) (l : List UInt8) : Nat := l.foldl step r
def moreN (s : Nat) (l : List UInt8) : Nat := all1 ^^^ reg (all1 ^^^ s) l
def sumN (l : List UInt8) : Nat := moreN 0 l
theorem xor_mod2 (x y : Nat) : (x ^^^ y) % 2 = (x % 2 + y % 2) % 2 := by
 have h := Nat.testBit_xor x y 0
 rw [Nat.testBit_zero, Nat.testBit_zero, Nat.testBit_zero] at h
 have hx : x % 2 = 0 ∨ x % 2 = 1 := by omega
 have hy : y % 2 = 0 ∨ y % 2 = 1 := by omega
 have hz : (x ^^^ y) % 2 = 0 ∨ (x ^^^ y) % 2 = 1 := by omega
 rcases hx with hx | hx <;> rcases hy with hy | hy <;> rcases hz with hz | hz <;> simp [hx, hy, hz] at h ⊢
theorem xor_div2 (x y : Nat) : (x ^^^ y) / 2 = x / 2 ^^^ y / 2 := by
 have := @Nat.shiftRight_xor_distrib 1 x y
 simpa [Nat.shiftRight_eq_div_pow] using this
theorem xor_lt {x y : Nat} (hx : x < 4294967296) (hy : y < 4294967296) : x ^^^ y < 4294967296 := Nat.xor_lt_two_pow (n := 32) hx hy
theorem xor_lt8 {x y : Nat} (hx : x < 256) (hy : y < 256) : x ^^^ y < 256 := Nat.xor_lt_two_pow (n := 8) hx hy
theorem xor_cancel (a b : Nat) : a ^^^ (a ^^^ b) = b := by rw [← Nat.xor_assoc, Nat.xor_self, Nat.zero_xor]
theorem xor_inj {a b c : Nat} (h : a ^^^ b = a ^^^ c) : b = c := by rw [← xor_cancel a b, h, xor_cancel]
theorem xor_inj_right {a b c : Nat} (h : b ^^^ a = c ^^^ a) : b = c := xor_inj (a := a) (by rw [Nat.xor_comm a b, h, Nat.xor_comm])
theorem xor_eq_zero' {a b : Nat} (h : a ^^^ b = 0) : a = b := xor_inj (a := a) (by rw [Nat.xor_self, h])
theorem xor4 (a b c d : Nat) : (a ^^^ b) ^^^ (c ^^^ d) = (a ^^^ c) ^^^ (b ^^^ d) := by
 rw [Nat.xor_assoc, Nat.xor_assoc, ← Nat.xor_assoc b c d, Nat.xor_comm b c, Nat.xor_assoc c b d]
theorem bitStep_xor (x y : Nat) : bitStep (x ^^^ y) = bitStep x ^^^ bitStep y := by
 unfold bitStep
 rw [xor_mod2, xor_div2]
 have hx : x % 2 = 0 ∨ x % 2 = 1 := by omega
 have hy : y % 2 = 0 ∨ y % 2 = 1 := by omega
 rcases hx with hx | hx <;> rcases hy with hy | hy <;> simp only [hx, hy]
 ·rfl
 ·simp [Nat.xor_assoc]
 ·rw [if_pos (by decide), if_pos trivial, if_neg (by decide), Nat.xor_assoc, Nat.xor_assoc, Nat.xor_comm poly]
 ·rw [if_neg (by decide), if_pos trivial, if_pos trivial, xor4, Nat.xor_self, Nat.xor_zero]
theorem bitSteps_xor (k x y : Nat) : bitSteps k (x ^^^ y) = bitSteps k x ^^^ bitSteps k y := by
 induction k with
 | zero => rfl
 | succ k ih => simp only [bitSteps, ih, bitStep_xor]
theorem s8_xor (x y : Nat) : s8 (x ^^^ y) = s8 x ^^^ s8 y := bitSteps_xor 8 x y
theorem bitStep_even (q : Nat) : bitStep (2 * q) = q := by
 unfold bitStep
 rw [if_neg (by omega)]
 omega
theorem s8_high (q : Nat) : s8 (256 * q) = q := by
 unfold s8 bitSteps bitSteps bitSteps bitSteps bitSteps bitSteps bitSteps bitSteps bitSteps
 rw [show 256 * q = 2 * (128 * q) by omega, bitStep_even, show 128 * q = 2 * (64 * q) by omega, bitStep_even, show 64 * q = 2 * (32 * q) by omega, bitStep_even,
  show 32 * q = 2 * (16 * q) by omega, bitStep_even, show 16 * q = 2 * (8 * q) by omega, bitStep_even, show 8 * q = 2 * (4 * q) by omega, bitStep_even,
  show 4 * q = 2 * (2 * q) by omega, bitStep_even, bitStep_even]
theorem low_split (r c : Nat) : r ^^^ c = 256 * (r / 256) ^^^ (r % 256 ^^^ c) := by
 have h : r = 256 * (r / 256) ^^^ (r % 256) := by
  have h1 := @Nat.two_pow_add_eq_or_of_lt 8 (r % 256) (Nat.mod_lt _ (by decide)) (r / 256)
  apply Nat.eq_of_testBit_eq
  intro i
  have h2 : r = 2 ^ 8 * (r / 256) + r % 256 := by omega
  rw [Nat.testBit_xor]
  have h3 := Nat.testBit_two_pow_mul_add (r / 256) (b := r % 256) (i := 8) (Nat.mod_lt _ (by decide)) i
  have h4 := Nat.testBit_two_pow_mul (i := 8) (a := r / 256) (j := i)
  rw [show (2 : Nat) ^ 8 = 256 by decide] at h3 h4
  rw [h4]
  conv => lhs; rw [h2, show (2 : Nat) ^ 8 = 256 by decide]
  rw [h3]
  by_cases hi : i < 8
  ·have h8 : ¬ 8 ≤ i := by omega
   simp [hi, h8]
  ·have h8 : 8 ≤ i := by omega
   have : (r % 256).testBit i = false := Nat.testBit_lt_two_pow (Nat.lt_of_lt_of_le (Nat.mod_lt _ (by decide)) (by
    have : 2 ^ 8 ≤ 2 ^ i := Nat.pow_le_pow_right (by omega) (by omega)
    simpa using this))
   simp [hi, h8, this]
 have h5 : r ^^^ c = 256 * (r / 256) ^^^ (r % 256) ^^^ c := congrArg (· ^^^ c) h
 rw [h5, Nat.xor_assoc]
theorem step_tab (r : Nat) (c : UInt8) : step r c = r / 256 ^^^ s8 (r % 256 ^^^ c.toNat) := by
 unfold step
 rw [low_split r c.toNat, s8_xor, s8_high]
theorem bitStep_lt {x : Nat} (h : x < 4294967296) : bitStep x < 4294967296 := by
 unfold bitStep
 split
 ·exact xor_lt (by omega) (by decide)
 ·omega
theorem bitSteps_lt (k : Nat) {x : Nat} (h : x < 4294967296) : bitSteps k x < 4294967296 := by
 induction k with
 | zero => exact h
 | succ k ih => exact bitStep_lt ih
theorem s8_lt {x : Nat} (h : x < 4294967296) : s8 x < 4294967296 := bitSteps_lt 8 h
theorem byte_lt (c : UInt8) : c.toNat < 4294967296 := by have := c.toNat_lt; omega
theorem step_lt {r : Nat} (h : r < 4294967296) (c : UInt8) : step r c < 4294967296 := s8_lt (xor_lt h (byte_lt c))
theorem reg_lt {r : Nat} (h : r < 4294967296) (l : List UInt8) : reg r l < 4294967296 := by
 induction l generalizing r with
 | nil => exact h
 | cons c l ih => exact ih (step_lt h c)
theorem inv_lt {r : Nat} (h : r < 4294967296) : all1 ^^^ r < 4294967296 := xor_lt (by decide) h
theorem moreN_lt {s : Nat} (h : s < 4294967296) (l : List UInt8) : moreN s l < 4294967296 := inv_lt (reg_lt (inv_lt h) l)
theorem bitStep_zero {x : Nat} (hx : x < 4294967296) (h : bitStep x = 0) : x = 0 := by
 unfold bitStep at h
 split at h
 ·have := xor_eq_zero' h
  unfold poly at this
  omega
 ·omega
theorem bitSteps_zero (k : Nat) {x : Nat} (hx : x < 4294967296) (h : bitSteps k x = 0) : x = 0 := by
 induction k with
 | zero => exact h
 | succ k ih => exact ih (bitStep_zero (bitSteps_lt k hx) h)
theorem s8_inj {x y : Nat} (hx : x < 4294967296) (hy : y < 4294967296) (h : s8 x = s8 y) : x = y :=
 xor_eq_zero' (bitSteps_zero 8 (xor_lt hx hy) (by rw [bitSteps_xor]; show s8 x ^^^ s8 y = 0; rw [h, Nat.xor_self]))
theorem step_inj {x y : Nat} (hx : x < 4294967296) (hy : y < 4294967296) (c : UInt8) (h : step x c = step y c) : x = y :=
 xor_inj_right (s8_inj (xor_lt hx (byte_lt c)) (xor_lt hy (byte_lt c)) h)
theorem reg_inj {x y : Nat} (hx : x < 4294967296) (hy : y < 4294967296) (l : List UInt8) (h : reg x l = reg y l) : x = y := by
 induction l generalizing x y with
 | nil => exact h
 | cons c l ih => exact step_inj hx hy c (ih (step_lt hx c) (step_lt hy c) h)
theorem reg_append (r : Nat) (a b : List UInt8) : reg r (a ++ b) = reg (reg r a) b := List.foldl_append ..
theorem turned (l : List UInt8) (k : Nat) (c d : UInt8) (hk : l[k]? = some c) (hd : d ≠ c) : sumN (l.set k d) ≠ sumN l := by
 obtain ⟨hlt, hc⟩ := List.getElem?_eq_some_iff.1 hk
 intro h
 have hs : l.set k d = l.take k ++ d :: l.drop (k + 1) := List.set_eq_take_append_cons_drop .. |>.trans (by rw [if_pos hlt])
 have hl : l = l.take k ++ c :: l.drop (k + 1) := by rw [← hc, List.getElem_cons_drop, List.take_append_drop]
 have h0 := xor_inj (a := all1) h
 rw [hs] at h0
 rw [show reg (all1 ^^^ 0) l = reg (all1 ^^^ 0) (l.take k ++ c :: l.drop (k + 1)) from congrArg _ hl] at h0
 rw [reg_append, reg_append] at h0
 have hr : reg (all1 ^^^ 0) (l.take k) < 4294967296 := reg_lt (inv_lt (by decide)) _
 have h1 := reg_inj (step_lt hr d) (step_lt hr c) _ h0
 have h2 := s8_inj (xor_lt hr (byte_lt d)) (xor_lt hr (byte_lt c)) h1
 exact hd (UInt8.toNat_inj.1 (xor_inj h2))
theorem tab_step : ∀ (i : Fin 8) (j : Fin 128), j.val < 2 ^ i.val → s8 (2 ^ i.val ||| j.val) = s8 j.val ^^^ (#[1996959894, 3993919788, 124634137, 249268274, 498536548, 997073096, 1994146192, 3988292384] : Array Nat)[i] := by decide +kernel
def le4 (s : Nat) : List UInt8 := [UInt8.ofNat (s % 256), UInt8.ofNat (s / 256 % 256), UInt8.ofNat (s / 65536 % 256), UInt8.ofNat (s / 16777216 % 256)]
def un4 (l : List UInt8) : Nat := (l.getD 0 0).toNat + 256 * (l.getD 1 0).toNat + 65536 * (l.getD 2 0).toNat + 16777216 * (l.getD 3 0).toNat
theorem un4_le4 {s : Nat} (h : s < 4294967296) (more : List UInt8) : un4 (le4 s ++ more) = s := by
 simp only [le4, un4, List.cons_append, List.nil_append, List.getD_cons_zero, List.getD_cons_succ]
 rw [ofNat_toNat (by omega), ofNat_toNat (by omega), ofNat_toNat (by omega), ofNat_toNat (by omega)]
 omega
theorem le4_un4 (a b c d : UInt8) (r : List UInt8) : le4 (un4 (a :: b :: c :: d :: r)) = [a, b, c, d] := by
 have h0 := a.toNat_lt
 have h1 := b.toNat_lt
 have h2 := c.toNat_lt
 have h3 := d.toNat_lt
 simp only [le4, un4, List.getD_cons_zero, List.getD_cons_succ]
 congr 1
 ·apply UInt8.toNat_inj.1
  rw [ofNat_toNat (by omega)]
  omega
 ·congr 1
  ·apply UInt8.toNat_inj.1
   rw [ofNat_toNat (by omega)]
   omega
  ·congr 1
   ·apply UInt8.toNat_inj.1
    rw [ofNat_toNat (by omega)]
    omega
   ·congr 1
    apply UInt8.toNat_inj.1
    rw [ofNat_toNat (by omega)]
    omega
theorem le4_len (s : Nat) : (le4 s).length = 4 := rfl
theorem four {l : List UInt8} (h : 4 ≤ l.length) : ∃ a b c d r, l = a :: b :: c :: d :: r := by
 match l, h with
 | a :: b :: c :: d :: r, _ => exact ⟨a, b, c, d, r, rfl⟩
theorem sumN_lt (l : List UInt8) : sumN l < 4294967296 := moreN_lt (by decide) l
def putF (b : List UInt8) : List UInt8 := putL b.length ++ (le4 (sumN b) ++ b)
def getF (c : List UInt8) : List UInt8 × Nat × Int :=
 if (getL c).2.2 ≠ 0 then ([], 0, (getL c).2.2)
 else if 262144 < (getL c).1 then ([], 0, 32)
 else if c.length < (getL c).2.1 + 4 + (getL c).1 then ([], 0, 31)
 else if sumN ((c.drop ((getL c).2.1 + 4)).take (getL c).1) ≠ un4 (c.drop (getL c).2.1) then ([], 0, 41)
 else ((c.drop ((getL c).2.1 + 4)).take (getL c).1, (getL c).2.1 + 4 + (getL c).1, 0)
theorem putF_len (b : List UInt8) : (putF b).length = (putL b.length).length + 4 + b.length := by
 simp only [putF, List.length_append, le4_len]
 omega
theorem putF_pos (b : List UInt8) : 0 < (putF b).length := by rw [putF_len]; omega
theorem getF_put (b : List UInt8) (hb : b.length ≤ 262144) (more : List UInt8) : getF (putF b ++ more) = (b, (putF b).length, 0) := by
 have hg : getL (putF b ++ more) = (b.length, (putL b.length).length, 0) := by
  unfold putF
  rw [List.append_assoc]
  exact getL_put (by omega) _
 have h1 : (putF b ++ more).drop (putL b.length).length = le4 (sumN b) ++ (b ++ more) := by
  unfold putF
  rw [List.append_assoc, List.append_assoc]
  simp
 have h2 : (putF b ++ more).drop ((putL b.length).length + 4) = b ++ more := by
  rw [← List.drop_drop, h1]
  rfl
 unfold getF
 rw [hg]
 simp only
 rw [if_neg (by simp), if_neg (by omega), if_neg (by rw [List.length_append, putF_len]; omega), h1, h2, un4_le4 (sumN_lt b)]
 rw [List.take_append_of_le_length (Nat.le_refl _), List.take_length, if_neg (by simp), putF_len]
theorem getF_inv {c x : List UInt8} {m : Nat} (h : getF c = (x, m, 0)) : 0 < m ∧ m ≤ c.length ∧ c.take m = putF x ∧ x.length ≤ 262144 := by
 unfold getF at h
 rcases hg : getL c with ⟨n, k, e⟩
 rw [hg] at h
 simp only at h
 split at h
 ·rename_i he
  simp only [Prod.mk.injEq] at h
  exact absurd h.2.2 he
 rename_i he
 have he0 : e = 0 := by simpa using he
 subst he0
 split at h
 ·simp at h
 rename_i hn
 split at h
 ·simp at h
 rename_i hl
 split at h
 ·simp at h
 rename_i hs
 simp only [Prod.mk.injEq, and_true] at h
 obtain ⟨hx, rfl⟩ := h
 obtain ⟨g1, g2, g3, g4, g5⟩ := getL_inv hg
 have hxl : x.length = n := by rw [← hx]; simp; omega
 refine ⟨by omega, by omega, ?_, by omega⟩
 obtain ⟨a, b, c', d, r, hd⟩ := four (l := c.drop k) (by simp; omega)
 have hd4 : c.drop (k + 4) = r := by rw [← List.drop_drop, hd]; rfl
 have hs' : sumN x = un4 (c.drop k) := by
  rw [← hx]
  exact Decidable.not_not.1 hs
 have e1 : c.take (k + 4 + n) = c.take k ++ (c.drop k).take (4 + n) := by rw [Nat.add_assoc, List.take_add]
 rw [e1, g4, putF, hxl]
 congr 1
 rw [hs', hd, le4_un4, Nat.add_comm 4 n]
 simp only [List.take_succ_cons]
 rw [hd4] at hx
 rw [hx]
 rfl
theorem getF_cut (b : List UInt8) (hb : b.length ≤ 262144) {k : Nat} (hk : k < (putF b).length) : getF ((putF b).take k) = ([], 0, 31) := by
 rcases Nat.lt_or_ge k (putL b.length).length with h | h
 ·have e : (putF b).take k = (putL b.length).take k := by
   unfold putF
   rw [List.take_append_of_le_length (by omega)]
  have hg := getL_cut (n := b.length) (by omega) h
  unfold getF
  rw [e, hg]
  simp
 ·have e : (putF b).take k = putL b.length ++ (le4 (sumN b) ++ b).take (k - (putL b.length).length) := by
   unfold putF
   rw [List.take_append, List.take_of_length_le h]
  have hg : getL ((putF b).take k) = (b.length, (putL b.length).length, 0) := by
   rw [e]
   exact getL_put (by omega) _
  unfold getF
  rw [hg]
  simp only
  rw [putF_len] at hk
  rw [if_neg (by simp), if_neg (by omega), if_pos (by rw [List.length_take, putF_len]; omega)]
theorem getF_turned (b : List UInt8) (hb : b.length ≤ 262144) {k : Nat} {x y : UInt8} (hk : (putL b.length).length ≤ k) (hx : (putF b)[k]? = some x) (hy : y ≠ x) : getF ((putF b).set k y) = ([], 0, 41) := by
 have hkl := (List.getElem?_eq_some_iff.1 hx).1
 rw [putF_len] at hkl
 obtain ⟨j, rfl⟩ : ∃ j, k = (putL b.length).length + j := ⟨k - (putL b.length).length, by omega⟩
 have e : (putF b).set ((putL b.length).length + j) y = putL b.length ++ (le4 (sumN b) ++ b).set j y := by
  unfold putF
  rw [List.set_append_right _ _ (by omega), Nat.add_sub_cancel_left]
 have hxj : (le4 (sumN b) ++ b)[j]? = some x := by
  unfold putF at hx
  rw [List.getElem?_append_right (by omega), Nat.add_sub_cancel_left] at hx
  exact hx
 have hg : getL ((putF b).set ((putL b.length).length + j) y) = (b.length, (putL b.length).length, 0) := by
  rw [e]
  exact getL_put (by omega) _
 have h1 : ((putF b).set ((putL b.length).length + j) y).drop (putL b.length).length = (le4 (sumN b) ++ b).set j y := by
  rw [e]
  simp
 unfold getF
 rw [hg]
 simp only
 rw [if_neg (by simp), if_neg (by omega), if_neg (by rw [List.length_set, putF_len]; omega), ← List.drop_drop, h1, if_pos]
 rcases Nat.lt_or_ge j 4 with hj | hj
 ·have e2 : (le4 (sumN b) ++ b).set j y = (le4 (sumN b)).set j y ++ b := by rw [List.set_append_left _ _ (by rw [le4_len]; exact hj)]
  have e3 : ((le4 (sumN b)).set j y ++ b).drop 4 = b := by
   rw [List.drop_append_of_le_length (by simp [le4_len]), List.drop_of_length_le (by simp [le4_len])]
   rfl
  rw [e2, e3, List.take_length]
  rw [List.getElem?_append_left (by rw [le4_len]; exact hj)] at hxj
  intro hs
  have h4 := le4_un4
  have h5 : le4 (sumN b) = (le4 (sumN b)).set j y := by
   obtain ⟨p, q, r, s, t, ht⟩ := four (l := (le4 (sumN b)).set j y) (by simp [le4_len])
   have hlen : ((le4 (sumN b)).set j y).length = 4 := by simp [le4_len]
   rw [ht] at hs hlen ⊢
   have ht0 : t = [] := List.eq_nil_of_length_eq_zero (by simpa using hlen)
   subst ht0
   rw [hs, List.cons_append, List.cons_append, List.cons_append, List.cons_append, h4]
  have h6 : ((le4 (sumN b)).set j y)[j]? = some y := by rw [List.getElem?_set_self (by rw [le4_len]; exact hj)]
  rw [← h5, hxj] at h6
  exact hy (Option.some.inj h6).symm
 ·obtain ⟨i, rfl⟩ : ∃ i, j = 4 + i := ⟨j - 4, by omega⟩
  have e2 : (le4 (sumN b) ++ b).set (4 + i) y = le4 (sumN b) ++ b.set i y := by rw [List.set_append_right _ _ (by rw [le4_len]; omega), le4_len, Nat.add_sub_cancel_left]
  have e3 : (le4 (sumN b) ++ b.set i y).drop 4 = b.set i y := rfl
  rw [e2, e3, un4_le4 (sumN_lt b), List.take_of_length_le (by simp)]
  rw [List.getElem?_append_right (by rw [le4_len]; omega), le4_len, Nat.add_sub_cancel_left] at hxj
  exact turned b i x y hxj hy
def allAux : Nat → List UInt8 → List (List UInt8) → List (List UInt8) × Int
 | 0, _, acc => (acc, 0)
 | f + 1, c, acc => if c.length = 0 then (acc, 0) else if (getF c).2.2 ≠ 0 then ([], (getF c).2.2) else allAux f (c.drop (getF c).2.1) (acc ++ [(getF c).1])
def allF (c : List UInt8) : List (List UInt8) × Int := allAux c.length c []
def wholeAux : Nat → Nat → List UInt8 → List (List UInt8) → List (List UInt8) × Nat
 | 0, at_, _, acc => (acc, at_)
 | f + 1, at_, c, acc => if c.length = 0 then (acc, at_) else if (getF c).2.2 ≠ 0 then (acc, at_) else wholeAux f (at_ + (getF c).2.1) (c.drop (getF c).2.1) (acc ++ [(getF c).1])
def wholeF (c : List UInt8) : List (List UInt8) × Nat := wholeAux c.length 0 c []
def Short (L : List (List UInt8)) : Prop := ∀ x ∈ L, x.length ≤ 262144
theorem allAux_put (L : List (List UInt8)) (hL : Short L) : ∀ (f : Nat) (c : List UInt8) (acc : List (List UInt8)), (L.flatMap putF).length + c.length ≤ f → ∃ f', c.length ≤ f' ∧ allAux f (L.flatMap putF ++ c) acc = allAux f' c (acc ++ L) := by
 induction L with
 | nil => intro f c acc hf; exact ⟨f, by simpa using hf, by simp⟩
 | cons x r ih =>
  intro f c acc hf
  simp only [List.flatMap_cons, List.length_append] at hf
  have hp := putF_pos x
  cases f with
  | zero => omega
  | succ f =>
   have hg := getF_put x (hL x (List.mem_cons_self ..)) (r.flatMap putF ++ c)
   obtain ⟨f', h1, h2⟩ := ih (fun y hy => hL y (List.mem_cons_of_mem _ hy)) f c (acc ++ [x]) (by omega)
   refine ⟨f', h1, ?_⟩
   simp only [List.flatMap_cons, List.append_assoc, allAux, hg]
   rw [if_neg (by simp only [List.length_append]; omega), if_neg (by simp)]
   rw [List.drop_append_of_le_length (Nat.le_refl _), List.drop_length, List.nil_append, h2]
   simp
theorem allF_put (L : List (List UInt8)) (hL : Short L) : allF (L.flatMap putF) = (L, 0) := by
 obtain ⟨f', _, h2⟩ := allAux_put L hL (L.flatMap putF).length [] [] (by simp)
 rw [List.append_nil] at h2
 unfold allF
 rw [h2]
 cases f' <;> simp [allAux]
theorem allF_bad (L : List (List UInt8)) (hL : Short L) (c : List UInt8) {e : Int} (hc : c ≠ []) (h : getF c = ([], 0, e)) (he : e ≠ 0) : allF (L.flatMap putF ++ c) = ([], e) := by
 obtain ⟨f', h1, h2⟩ := allAux_put L hL (L.flatMap putF ++ c).length c [] (by simp)
 unfold allF
 rw [h2]
 have hl : c.length ≠ 0 := fun e0 => hc (List.eq_nil_of_length_eq_zero e0)
 cases f' with
 | zero => omega
 | succ f' => simp only [allAux, h]; rw [if_neg hl, if_pos he]
end Go.Proofs.YthcjikpabpgpfaaGreat
