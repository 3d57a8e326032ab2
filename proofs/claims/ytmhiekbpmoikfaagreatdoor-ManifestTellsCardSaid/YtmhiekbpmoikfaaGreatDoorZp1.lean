/- Numbers as few bytes: what a number's bytes are, and what bytes begin with; both ways. Rising numbers as bytes, both ways; what a reader of bytes does. CRC-32 over natural numbers: the step of a byte, by eight steps of a bit and by a table; it is linear, and it loses nothing. Frames: a text with its length and its sum; both ways. Manifests in plain words: whether one is right, its bytes, there and back. Words of all layers: what may change in a call ('Kept'), a block that is known whole, rows of one's own. Words of all layers, without a word on bytes' types: rows as sources, append onto a row of one's own, what weighs how much. Bytes in slices, as lists: of one's own, and what came in; append onto a row of one's own from whatever comes. Bytes that came in, later; nil; a literal's bytes. What is deleted, in plain words: a number, and which; its bytes, there and back. What is deleted: its bytes are read as it was; what is read has them as they stood; one more changes one bit. Words of Put and Get, the document's and the program's. Integers of 64 bits in slices that came in, of whatever name. 'string(b)' of bytes, of one's own or that came in. bytes.Equal of whatever bytes. bytes.Clone of whatever bytes. -/
import Derived.Test.YtmhiekbpmoikfaaGreatDoorProg
import Derived.WalkKit
import Derived.WalkSpells
import Derived.WalkLawsBesides
import Derived.Laws.EntriesVeiled
import Derived.Lib.Hide
import Derived.Maps.OwnSet
import Derived.Maps.Ext
import Derived.Sort.KeysCollected
import Derived.Deep.Draws
import Derived.Deep.AppendLies
import Derived.Maps.AppendAt
import Derived.Laws.Rows
import Derived.StringKeys
import Derived.RegionTactic
import Derived.Deep.RegionHeld3
import Derived.Deep.RegionLaw
import Derived.ProofKit
import Derived.OpenShut
import Derived.ChangeOld
import Derived.SizedLaws
import Derived.Deep.Slices
import Derived.Deep.Fields
import Derived.Lib.SmallJoins
import Derived.Laws.OwnMore
import Derived.Lib.SlBytesConst
import Derived.Laws.BitsAllLaws
import Derived.Deep.QuietTactic
import Derived.BigQuiet
import Derived.Lib.Strings
import Derived.Lib.UnsafeStr
import Derived.Lib.BufferRead
namespace Go.Proofs.YtmhiekbpmoikfaaGreatDoor

theorem div_lt' {n : Nat} (h : ¬ n < 128) : n / 128 < n := Nat.div_lt_self (by omega) (by omega)
/-- A number's bytes. -/
def putL (n : Nat) : List UInt8 := if h : n < 128 then [UInt8.ofNat n] else UInt8.ofNat (n % 128 + 128) :: putL (n / 128)
termination_by n
decreasing_by exact div_lt' h
theorem putL_small {n : Nat} (h : n < 128) : putL n = [UInt8.ofNat n] := by
  rw [putL, dif_pos h]
theorem putL_big {n : Nat} (h : ¬ n < 128) : putL n = UInt8.ofNat (n % 128 + 128) :: putL (n / 128) := by
  rw [putL, dif_neg h]
/-- What bytes begin with, at place i, acc read so far: the number, how many bytes, the error. -/
def getAux : Nat → Nat → List UInt8 → Nat × Nat × Int
  | _, _, [] => (0, 0, 31)
  | i, acc, c :: r =>
    if (i = 9 ∧ 1 < c.toNat) ∨ (c.toNat = 0 ∧ 0 < i) then (0, 0, 32)
    else if c.toNat < 128 then (acc + c.toNat % 128 * 2 ^ (7 * i), i + 1, 0)
    else getAux (i + 1) (acc + c.toNat % 128 * 2 ^ (7 * i)) r
def getL (l : List UInt8) : Nat × Nat × Int := getAux 0 0 l

theorem ofNat_toNat {n : Nat} (h : n < 256) : (UInt8.ofNat n).toNat = n := UInt8.toNat_ofNat_of_lt' (by show _ < 256; omega)
theorem pow7 (i : Nat) : 2 ^ (7 * (i + 1)) = 128 * 2 ^ (7 * i) := by rw [Nat.mul_add, Nat.pow_add]; omega
theorem pow7_pos (i : Nat) : 0 < 2 ^ (7 * i) := Nat.pow_pos (by omega)
theorem putL_pos (n : Nat) : 0 < (putL n).length := by
  by_cases h : n < 128
  · rw [putL_small h]; simp
  · rw [putL_big h]; simp

theorem split7 (n p : Nat) : n % 128 * p + n / 128 * (128 * p) = n * p := by
  have h := Nat.div_add_mod n 128
  have e : n * p = (128 * (n / 128) + n % 128) * p := by rw [h]
  rw [e, Nat.add_mul, Nat.add_comm, ← Nat.mul_assoc, Nat.mul_comm (n / 128) 128]
theorem small_of_mul {n i : Nat} (h : n * 2 ^ (7 * i) < 2 ^ 64) (hi : 9 ≤ i) : n < 2 := by
  have h1 : 2 ^ 63 ≤ 2 ^ (7 * i) := Nat.pow_le_pow_right (by omega) (by omega)
  rcases Nat.lt_or_ge n 2 with h2 | h2
  · exact h2
  · have := Nat.mul_le_mul h2 h1
    omega
theorem getAux_put (n : Nat) : ∀ (i acc : Nat) (more : List UInt8), n * 2 ^ (7 * i) < 2 ^ 64 → (0 < i → 0 < n) →
    getAux i acc (putL n ++ more) = (acc + n * 2 ^ (7 * i), i + (putL n).length, 0) := by
  induction n using Nat.strongRecOn with
  | _ n ih =>
    intro i acc more hn hp
    by_cases h : n < 128
    · rw [putL_small h]
      have e : (UInt8.ofNat n).toNat = n := ofNat_toNat (by omega)
      simp only [List.cons_append, List.nil_append, getAux, e, List.length_singleton]
      rw [if_neg, if_pos h, Nat.mod_eq_of_lt h]
      rintro (⟨h1, h2⟩ | ⟨h1, h2⟩)
      · have := small_of_mul hn (by omega)
        omega
      · have := hp h2
        omega
    · rw [putL_big h]
      have e : (UInt8.ofNat (n % 128 + 128)).toNat = n % 128 + 128 := ofNat_toNat (by omega)
      simp only [List.cons_append, getAux, e, List.length_cons]
      rw [if_neg, if_neg (by omega)]
      · rw [ih (n / 128) (div_lt' h) (i + 1) _ more]
        · rw [pow7, Nat.add_mod_right, Nat.mod_mod, Nat.add_assoc, split7, Nat.add_assoc, Nat.add_comm 1]
        · rw [pow7]
          have := split7 n (2 ^ (7 * i))
          omega
        · intro _
          omega
      · rintro (⟨h1, h2⟩ | ⟨h1, h2⟩)
        · have := small_of_mul hn (by omega)
          omega
        · omega
theorem getL_put {n : Nat} (hn : n < 2 ^ 64) (more : List UInt8) : getL (putL n ++ more) = (n, (putL n).length, 0) := by
  have := getAux_put n 0 0 more (by simpa using hn) (by omega)
  simpa [getL] using this

theorem getAux_inv : ∀ (l : List UInt8) (i acc v k : Nat), getAux i acc l = (v, k, 0) → i ≤ 9 →
    ∃ n, v = acc + n * 2 ^ (7 * i) ∧ i < k ∧ k ≤ 10 ∧ k ≤ i + l.length ∧ l.take (k - i) = putL n ∧ (0 < i → 0 < n) ∧ n * 2 ^ (7 * i) + 2 ^ (7 * i) ≤ 2 ^ 64
  | [], i, acc, v, k, h, _ => by simp [getAux] at h
  | c :: r, i, acc, v, k, h, hi => by
    have hc := c.toNat_lt
    simp only [getAux] at h
    split at h
    · simp at h
    · rename_i hn
      have hn1 : i = 9 → c.toNat ≤ 1 := fun e => by
        rcases Nat.lt_or_ge 1 c.toNat with h1 | h1
        · exact absurd (Or.inl ⟨e, h1⟩) hn
        · exact h1
      have hn2 : 0 < i → 0 < c.toNat := fun e => by
        rcases Nat.eq_zero_or_pos c.toNat with h1 | h1
        · exact absurd (Or.inr ⟨h1, e⟩) hn
        · exact h1
      split at h
      · rename_i hs
        simp only [Prod.mk.injEq, and_true] at h
        obtain ⟨rfl, rfl⟩ := h
        refine ⟨c.toNat, by rw [Nat.mod_eq_of_lt hs], by omega, by omega, by simp, ?_, hn2, ?_⟩
        · rw [show i + 1 - i = 1 by omega, putL_small hs]
          simp
        · rcases Nat.lt_or_ge i 9 with h9 | h9
          · have h1 : 2 ^ (7 * i) ≤ 2 ^ 56 := Nat.pow_le_pow_right (by omega) (by omega)
            have h2 := Nat.mul_le_mul (show c.toNat + 1 ≤ 128 by omega) h1
            rw [Nat.add_mul] at h2
            omega
          · obtain rfl : i = 9 := by omega
            have := hn1 rfl
            omega
      · rename_i hs
        have hi9 : i ≠ 9 := fun e => by have := hn1 e; omega
        obtain ⟨n, h1, h2, h3, h4, h5, h6, h7⟩ := getAux_inv r (i + 1) _ v k h (by omega)
        have hn0 := h6 (by omega)
        refine ⟨c.toNat % 128 + 128 * n, ?_, by omega, h3, by simp; omega, ?_, fun _ => (by clear h1 h7; omega), ?_⟩
        · rw [h1, pow7, Nat.add_assoc, Nat.add_mul, Nat.mul_assoc, Nat.mul_left_comm n 128]
        · rw [show k - i = (k - (i + 1)) + 1 by omega, List.take_succ_cons, h5, putL_big (n := c.toNat % 128 + 128 * n) (by omega)]
          have e1 : (c.toNat % 128 + 128 * n) % 128 = c.toNat % 128 := by omega
          have e2 : (c.toNat % 128 + 128 * n) / 128 = n := by omega
          rw [e1, e2]
          congr 1
          apply UInt8.toNat_inj.1
          rw [ofNat_toNat (by omega)]
          omega
        · rw [pow7] at h7
          have h8 : c.toNat % 128 + 1 ≤ 128 := by omega
          have h9 := Nat.mul_le_mul_right (2 ^ (7 * i)) h8
          rw [Nat.add_mul] at h9 ⊢
          rw [Nat.mul_left_comm] at h7
          rw [Nat.mul_assoc]
          omega
theorem getL_inv {l : List UInt8} {v k : Nat} (h : getL l = (v, k, 0)) : 0 < k ∧ k ≤ 10 ∧ k ≤ l.length ∧ l.take k = putL v ∧ v < 2 ^ 64 := by
  obtain ⟨n, h1, h2, h3, h4, h5, _, h7⟩ := getAux_inv l 0 0 v k h (by omega)
  simp at h1 h4 h5 h7
  subst h1
  exact ⟨h2, h3, h4, h5, by omega⟩
theorem getAux_err : ∀ (l : List UInt8) (i acc : Nat), (getAux i acc l).2.2 = 0 ∨ ((getAux i acc l).2.2 = 31 ∨ (getAux i acc l).2.2 = 32) ∧ (getAux i acc l).1 = 0 ∧ (getAux i acc l).2.1 = 0
  | [], i, acc => by simp [getAux]
  | c :: r, i, acc => by
    simp only [getAux]
    split
    · simp
    · split
      · simp
      · exact getAux_err r (i + 1) _
theorem getL_err (l : List UInt8) : (getL l).2.2 = 0 ∨ ((getL l).2.2 = 31 ∨ (getL l).2.2 = 32) ∧ (getL l).1 = 0 ∧ (getL l).2.1 = 0 := getAux_err l 0 0

/-- A number's bytes, cut. -/
theorem getAux_cut (n : Nat) : ∀ (i acc k : Nat), n * 2 ^ (7 * i) < 2 ^ 64 → (0 < i → 0 < n) → k < (putL n).length → getAux i acc ((putL n).take k) = (0, 0, 31) := by
  induction n using Nat.strongRecOn with
  | _ n ih =>
    intro i acc k hn hp hk
    cases k with
    | zero => rw [List.take_zero]; rfl
    | succ k =>
      by_cases h : n < 128
      · rw [putL_small h] at hk
        simp at hk
      · rw [putL_big h] at hk ⊢
        have e : (UInt8.ofNat (n % 128 + 128)).toNat = n % 128 + 128 := ofNat_toNat (by omega)
        simp only [List.take_succ_cons, getAux, e]
        rw [if_neg, if_neg (by omega)]
        · refine ih (n / 128) (div_lt' h) (i + 1) _ k ?_ (fun _ => by omega) (by simpa using hk)
          rw [pow7]
          have := split7 n (2 ^ (7 * i))
          omega
        · rintro (⟨h1, h2⟩ | ⟨h1, h2⟩)
          · have := small_of_mul hn (by omega)
            omega
          · omega
theorem getL_cut {n : Nat} (hn : n < 2 ^ 64) {k : Nat} (hk : k < (putL n).length) : getL ((putL n).take k) = (0, 0, 31) := getAux_cut n 0 0 k (by simpa using hn) (by omega) hk
theorem putL_mono (a : Nat) : ∀ b, a ≤ b → (putL a).length ≤ (putL b).length := by
  induction a using Nat.strongRecOn with
  | _ a ih =>
    intro b hab
    by_cases h : a < 128
    · rw [putL_small h]
      exact putL_pos b
    · rw [putL_big h, putL_big (show ¬ b < 128 by omega)]
      simp only [List.length_cons]
      have := ih (a / 128) (div_lt' h) (b / 128) (Nat.div_le_div_right hab)
      omega
theorem putL_len (n : Nat) (hn : n < 2 ^ 64) : (putL n).length ≤ 10 := (getL_inv (getL_put hn [])).2.1
/-- One way each. -/
theorem putL_inj {a b : Nat} (ha : a < 2 ^ 64) (hb : b < 2 ^ 64) {x y : List UInt8} (h : putL a ++ x = putL b ++ y) : a = b ∧ x = y := by
  have h1 := getL_put ha x
  have h2 := getL_put hb y
  rw [h] at h1
  have e := h1.symm.trans h2
  simp only [Prod.mk.injEq, and_true] at e
  obtain ⟨rfl, _⟩ := e
  exact ⟨rfl, List.append_cancel_left h⟩
end Go.Proofs.YtmhiekbpmoikfaaGreatDoor
namespace Go.Proofs.YtmhiekbpmoikfaaGreatDoor

/-- How far each is behind the one ahead, less 1. -/
def gaps : Int → List Int → List Nat
  | _, [] => []
  | p, x :: r => (x - p - 1).toNat :: gaps x r
def rises : Int → List Int → Bool
  | _, [] => true
  | p, x :: r => decide (p < x) && rises x r
def putGaps (l : List Nat) : List UInt8 := l.flatMap putL
def putR (l : List Int) : List UInt8 := putL l.length ++ putGaps (gaps (-1) l)
/-- Rising numbers that bytes begin with: how many are left, the last one, the place, what is left, those so far. -/
def getRAux : Nat → Int → Nat → List UInt8 → List Int → List Int × Nat × Int
  | 0, _, at_, _, acc => (acc, at_, 0)
  | m + 1, p, at_, b, acc =>
    if (getL b).2.2 ≠ 0 then ([], 0, (getL b).2.2)
    else if 9223372036854775807 < p + (getL b).1 + 1 then ([], 0, 32)
    else getRAux m (p + (getL b).1 + 1) (at_ + (getL b).2.1) (b.drop (getL b).2.1) (acc ++ [p + (getL b).1 + 1])
def getR (b : List UInt8) (most : Int) : List Int × Nat × Int :=
  if (getL b).2.2 ≠ 0 then ([], 0, (getL b).2.2)
  else if most < 0 ∨ most < ((getL b).1 : Int) then ([], 0, 2)
  else getRAux (getL b).1 (-1) (getL b).2.1 (b.drop (getL b).2.1) []

theorem gaps_len (l : List Int) : ∀ p, (gaps p l).length = l.length := by
  induction l with
  | nil => intro p; rfl
  | cons x r ih => intro p; simp [gaps, ih x]
theorem getL_drop {n : Nat} (more : List UInt8) : (putL n ++ more).drop (putL n).length = more := by
  simp

theorem getRAux_put (l : List Int) : ∀ (p : Int) (at_ : Nat) (more : List UInt8) (acc : List Int), -1 ≤ p → rises p l = true → (∀ x ∈ l, x ≤ 9223372036854775807) →
    getRAux l.length p at_ (putGaps (gaps p l) ++ more) acc = (acc ++ l, at_ + (putGaps (gaps p l)).length, 0) := by
  induction l with
  | nil => intro p at_ more acc _ _ _; simp [getRAux, gaps, putGaps]
  | cons x r ih =>
    intro p at_ more acc hp hr hx
    simp only [rises, Bool.and_eq_true, decide_eq_true_eq] at hr
    have hxm := hx x (List.mem_cons_self ..)
    have hn : (x - p - 1).toNat < 2 ^ 64 := by omega
    have hg : getL (putGaps (gaps p (x :: r)) ++ more) = ((x - p - 1).toNat, (putL (x - p - 1).toNat).length, 0) := by
      simp only [gaps, putGaps, List.flatMap_cons, List.append_assoc]
      exact getL_put hn _
    simp only [List.length_cons, getRAux, hg]
    rw [if_neg (by simp), if_neg (by omega)]
    have e : p + (x - p - 1).toNat + 1 = x := by omega
    rw [e]
    have hd : (putGaps (gaps p (x :: r)) ++ more).drop (putL (x - p - 1).toNat).length = putGaps (gaps x r) ++ more := by
      simp only [gaps, putGaps, List.flatMap_cons, List.append_assoc]
      exact getL_drop _
    rw [hd, ih x _ more _ (by omega) hr.2 (fun y hy => hx y (List.mem_cons_of_mem _ hy))]
    simp only [gaps, putGaps, List.flatMap_cons, List.length_append, List.append_assoc, List.cons_append, List.nil_append]
    rw [Nat.add_assoc]
theorem getR_put (l : List Int) (hl : l.length < 2 ^ 63) (hr : rises (-1) l = true) (hx : ∀ x ∈ l, x ≤ 9223372036854775807) (more : List UInt8) (most : Int) (hm : (l.length : Int) ≤ most) :
    getR (putR l ++ more) most = (l, (putR l).length, 0) := by
  have hg : getL (putR l ++ more) = (l.length, (putL l.length).length, 0) := by
    unfold putR
    rw [List.append_assoc]
    exact getL_put (by omega) _
  unfold getR
  rw [hg]
  simp only
  rw [if_neg (by simp), if_neg (by omega)]
  have hd : (putR l ++ more).drop (putL l.length).length = putGaps (gaps (-1) l) ++ more := by
    unfold putR
    rw [List.append_assoc]
    exact getL_drop _
  rw [hd, getRAux_put l (-1) _ more [] (by omega) hr hx]
  simp [putR]

theorem getRAux_inv : ∀ (m : Nat) (p : Int) (at_ : Nat) (b : List UInt8) (acc : List Int) (l : List Int) (k : Nat), getRAux m p at_ b acc = (l, k, 0) → -1 ≤ p →
    ∃ r, l = acc ++ r ∧ r.length = m ∧ rises p r = true ∧ (∀ x ∈ r, x ≤ 9223372036854775807) ∧ at_ ≤ k ∧ k ≤ at_ + b.length ∧ b.take (k - at_) = putGaps (gaps p r)
  | 0, p, at_, b, acc, l, k, h, _ => by
    simp only [getRAux, Prod.mk.injEq, and_true] at h
    obtain ⟨rfl, rfl⟩ := h
    exact ⟨[], by simp, rfl, rfl, by simp, Nat.le_refl _, by omega, by simp [gaps, putGaps]⟩
  | m + 1, p, at_, b, acc, l, k, h, hp => by
    simp only [getRAux] at h
    split at h
    · rename_i he
      simp only [Prod.mk.injEq] at h
      exact absurd h.2.2 he
    · rename_i he
      split at h
      · simp at h
      · rename_i ho
        rcases hgl : getL b with ⟨n, j, e⟩
        rw [hgl] at h he ho
        simp only at h he ho
        have he0 : e = 0 := by
          rcases Int.lt_trichotomy e 0 with h1 | h1 | h1
          · exact absurd (show e ≠ 0 by omega) he
          · exact h1
          · exact absurd (show e ≠ 0 by omega) he
        subst he0
        obtain ⟨g1, g2, g3, g4, g5⟩ := getL_inv hgl
        obtain ⟨r, h1, h2, h3, h4, h5, h6, h7⟩ := getRAux_inv m _ _ _ _ l k h (by omega)
        refine ⟨(p + n + 1) :: r, by rw [h1]; simp, by simp [h2], by simp [rises, h3]; omega, fun x hx => ?_, by omega, by rw [List.length_drop] at h6; omega, ?_⟩
        · rcases List.mem_cons.1 hx with rfl | hx
          · omega
          · exact h4 x hx
        · have e1 : (p + n + 1 - p - 1).toNat = n := by omega
          simp only [gaps, putGaps, List.flatMap_cons, e1]
          have e2 : b = putL n ++ b.drop j := by rw [← g4, List.take_append_drop]
          have e3 : (putL n).length = j := by rw [← g4]; simp; omega
          rw [e2, List.take_append]
          rw [List.take_of_length_le (by omega), e3, show k - at_ - j = k - (at_ + j) by omega, h7]
          rfl
theorem getR_inv {b : List UInt8} {most : Int} {l : List Int} {k : Nat} (h : getR b most = (l, k, 0)) :
    rises (-1) l = true ∧ (∀ x ∈ l, x ≤ 9223372036854775807) ∧ k ≤ b.length ∧ b.take k = putR l ∧ (l.length : Int) ≤ most := by
  unfold getR at h
  split at h
  · rename_i he
    simp only [Prod.mk.injEq] at h
    exact absurd h.2.2 he
  · rename_i he
    split at h
    · simp at h
    · rename_i hm
      rcases hgl : getL b with ⟨n, j, e⟩
      rw [hgl] at h he hm
      simp only at h he hm
      have he0 : e = 0 := by
        rcases Int.lt_trichotomy e 0 with h1 | h1 | h1
        · exact absurd (show e ≠ 0 by omega) he
        · exact h1
        · exact absurd (show e ≠ 0 by omega) he
      subst he0
      obtain ⟨g1, g2, g3, g4, g5⟩ := getL_inv hgl
      obtain ⟨r, h1, h2, h3, h4, h5, h6, h7⟩ := getRAux_inv n _ _ _ _ l k h (by omega)
      rw [List.nil_append] at h1
      subst h1
      refine ⟨h3, h4, by rw [List.length_drop] at h6; omega, ?_, by rw [h2]; omega⟩
      have e2 : b = putL n ++ b.drop j := by rw [← g4, List.take_append_drop]
      have e3 : (putL n).length = j := by rw [← g4]; simp; omega
      rw [e2, List.take_append, List.take_of_length_le (by omega), e3, h7, putR, h2]
theorem getRAux_err : ∀ (m : Nat) (p : Int) (at_ : Nat) (b : List UInt8) (acc : List Int), (getRAux m p at_ b acc).2.2 = 0 ∨ (getRAux m p at_ b acc).1 = [] ∧ (getRAux m p at_ b acc).2.1 = 0
  | 0, p, at_, b, acc => by simp [getRAux]
  | m + 1, p, at_, b, acc => by
    simp only [getRAux]
    split
    · simp
    · split
      · simp
      · exact getRAux_err m _ _ _ _
theorem getR_err (b : List UInt8) (most : Int) : (getR b most).2.2 = 0 ∨ (getR b most).1 = [] ∧ (getR b most).2.1 = 0 := by
  unfold getR
  split
  · simp
  · split
    · simp
    · exact getRAux_err _ _ _ _ _
theorem rises_at (l : List Int) : ∀ p, rises p l = true ↔ ∀ (i : Nat) (x : Int), l[i]? = some x → (if i = 0 then p else l.getD (i - 1) 0) < x := by
  induction l with
  | nil => intro p; simp [rises]
  | cons y r ih =>
    intro p
    simp only [rises, Bool.and_eq_true, decide_eq_true_eq, ih y]
    constructor
    · rintro ⟨h1, h2⟩ i x hx
      cases i with
      | zero => simp at hx; subst hx; simpa using h1
      | succ i =>
        have h := h2 i x (by simpa using hx)
        rw [if_neg (by omega)]
        cases i with
        | zero => simpa using h
        | succ i => simpa using h
    · intro h
      refine ⟨by simpa using h 0 y rfl, fun i x hx => ?_⟩
      have := h (i + 1) x (by simpa using hx)
      cases i with
      | zero => simpa using this
      | succ i => simpa using this

/-- A reader: its bytes, its place, the first error. -/
structure Rd where
  bs : List UInt8
  p : Nat
  e : Int
def rInt (s : Rd) (most : Int) : Int × Rd :=
  if s.e ≠ 0 then (0, s)
  else if (getL (s.bs.drop s.p)).2.2 ≠ 0 then (0, { s with e := (getL (s.bs.drop s.p)).2.2 })
  else if most < 0 ∨ most < ((getL (s.bs.drop s.p)).1 : Int) then (0, { s with e := 32 })
  else ((getL (s.bs.drop s.p)).1, { s with p := s.p + (getL (s.bs.drop s.p)).2.1 })
def rBytes (s : Rd) (n : Int) : List UInt8 × Rd :=
  if s.e ≠ 0 ∨ n ≤ 0 then ([], s)
  else if (s.bs.length : Int) - s.p < n then ([], { s with e := 31 })
  else ((s.bs.drop s.p).take n.toNat, { s with p := s.p + n.toNat })
def rText (s : Rd) (most : Int) : List UInt8 × Rd := rBytes (rInt s most).2 (rInt s most).1
def rLeft (s : Rd) : Nat := if s.e ≠ 0 then 0 else s.bs.length - s.p
structure Rd.Ok (s : Rd) : Prop where
  place : s.p ≤ s.bs.length
theorem rInt_ok {s : Rd} (h : s.Ok) (most : Int) : (rInt s most).2.Ok ∧ (rInt s most).2.bs = s.bs := by
  unfold rInt
  split
  · exact ⟨h, rfl⟩
  · split
    · exact ⟨⟨h.place⟩, rfl⟩
    · split
      · exact ⟨⟨h.place⟩, rfl⟩
      · rename_i he _
        refine ⟨⟨?_⟩, rfl⟩
        rcases hg : getL (s.bs.drop s.p) with ⟨v, k, e⟩
        rw [hg] at he
        have he0 : e = 0 := by simpa using he
        subst he0
        have h3 := (getL_inv hg).2.2.1
        have := h.place
        simp only [List.length_drop] at h3 ⊢
        omega
theorem rBytes_ok {s : Rd} (h : s.Ok) (n : Int) : (rBytes s n).2.Ok ∧ (rBytes s n).2.bs = s.bs := by
  have := h.place
  unfold rBytes
  split
  · exact ⟨h, rfl⟩
  · split
    · exact ⟨⟨h.place⟩, rfl⟩
    · exact ⟨⟨by simp only; omega⟩, rfl⟩
theorem rText_ok {s : Rd} (h : s.Ok) (most : Int) : (rText s most).2.Ok ∧ (rText s most).2.bs = s.bs := by
  have h1 := rInt_ok h most
  have h2 := rBytes_ok h1.1 (rInt s most).1
  exact ⟨h2.1, h2.2.trans h1.2⟩
end Go.Proofs.YtmhiekbpmoikfaaGreatDoor
namespace Go.Proofs.YtmhiekbpmoikfaaGreatDoor

def poly : Nat := 3988292384
def all1 : Nat := 4294967295
def bitStep (r : Nat) : Nat := if r % 2 = 1 then (r / 2) ^^^ poly else r / 2
def bitSteps : Nat → Nat → Nat
  | 0, r => r
  | k + 1, r => bitStep (bitSteps k r)
def s8 (r : Nat) : Nat := bitSteps 8 r
def step (r : Nat) (c : UInt8) : Nat := s8 (r ^^^ c.toNat)
def reg (r : Nat) (l : List UInt8) : Nat := l.foldl step r
def moreN (s : Nat) (l : List UInt8) : Nat := all1 ^^^ reg (all1 ^^^ s) l
def sumN (l : List UInt8) : Nat := moreN 0 l

theorem xor_mod2 (x y : Nat) : (x ^^^ y) % 2 = (x % 2 + y % 2) % 2 := by
  have h := Nat.testBit_xor x y 0
  rw [Nat.testBit_zero, Nat.testBit_zero, Nat.testBit_zero] at h
  have hx : x % 2 = 0 ∨ x % 2 = 1 := by omega
  have hy : y % 2 = 0 ∨ y % 2 = 1 := by omega
  have hz : (x ^^^ y) % 2 = 0 ∨ (x ^^^ y) % 2 = 1 := by omega
  rcases hx with hx | hx <;> rcases hy with hy | hy <;> rcases hz with hz | hz <;> simp [hx, hy, hz] at h ⊢
theorem xor_div2 (x y : Nat) : (x ^^^ y) / 2 = x / 2 ^^^ y / 2 := by
  have := @Nat.shiftRight_xor_distrib 1 x y
  simpa [Nat.shiftRight_eq_div_pow] using this
theorem xor_lt {x y : Nat} (hx : x < 4294967296) (hy : y < 4294967296) : x ^^^ y < 4294967296 := Nat.xor_lt_two_pow (n := 32) hx hy
theorem xor_lt8 {x y : Nat} (hx : x < 256) (hy : y < 256) : x ^^^ y < 256 := Nat.xor_lt_two_pow (n := 8) hx hy
theorem xor_cancel (a b : Nat) : a ^^^ (a ^^^ b) = b := by rw [← Nat.xor_assoc, Nat.xor_self, Nat.zero_xor]
theorem xor_inj {a b c : Nat} (h : a ^^^ b = a ^^^ c) : b = c := by rw [← xor_cancel a b, h, xor_cancel]
theorem xor_inj_right {a b c : Nat} (h : b ^^^ a = c ^^^ a) : b = c := xor_inj (a := a) (by rw [Nat.xor_comm a b, h, Nat.xor_comm])
theorem xor_eq_zero' {a b : Nat} (h : a ^^^ b = 0) : a = b := xor_inj (a := a) (by rw [Nat.xor_self, h])
theorem xor4 (a b c d : Nat) : (a ^^^ b) ^^^ (c ^^^ d) = (a ^^^ c) ^^^ (b ^^^ d) := by
  rw [Nat.xor_assoc, Nat.xor_assoc, ← Nat.xor_assoc b c d, Nat.xor_comm b c, Nat.xor_assoc c b d]

theorem bitStep_xor (x y : Nat) : bitStep (x ^^^ y) = bitStep x ^^^ bitStep y := by
  unfold bitStep
  rw [xor_mod2, xor_div2]
  have hx : x % 2 = 0 ∨ x % 2 = 1 := by omega
  have hy : y % 2 = 0 ∨ y % 2 = 1 := by omega
  rcases hx with hx | hx <;> rcases hy with hy | hy <;> simp only [hx, hy]
  · rfl
  · simp [Nat.xor_assoc]
  · rw [if_pos (by decide), if_pos trivial, if_neg (by decide), Nat.xor_assoc, Nat.xor_assoc, Nat.xor_comm poly]
  · rw [if_neg (by decide), if_pos trivial, if_pos trivial, xor4, Nat.xor_self, Nat.xor_zero]
theorem bitSteps_xor (k x y : Nat) : bitSteps k (x ^^^ y) = bitSteps k x ^^^ bitSteps k y := by
  induction k with
  | zero => rfl
  | succ k ih => simp only [bitSteps, ih, bitStep_xor]
theorem s8_xor (x y : Nat) : s8 (x ^^^ y) = s8 x ^^^ s8 y := bitSteps_xor 8 x y
theorem bitStep_even (q : Nat) : bitStep (2 * q) = q := by
  unfold bitStep
  rw [if_neg (by omega)]
  omega
theorem s8_high (q : Nat) : s8 (256 * q) = q := by
  unfold s8 bitSteps bitSteps bitSteps bitSteps bitSteps bitSteps bitSteps bitSteps bitSteps
  rw [show 256 * q = 2 * (128 * q) by omega, bitStep_even, show 128 * q = 2 * (64 * q) by omega, bitStep_even, show 64 * q = 2 * (32 * q) by omega, bitStep_even,
    show 32 * q = 2 * (16 * q) by omega, bitStep_even, show 16 * q = 2 * (8 * q) by omega, bitStep_even, show 8 * q = 2 * (4 * q) by omega, bitStep_even,
    show 4 * q = 2 * (2 * q) by omega, bitStep_even, bitStep_even]
theorem low_split (r c : Nat) : r ^^^ c = 256 * (r / 256) ^^^ (r % 256 ^^^ c) := by
  have h : r = 256 * (r / 256) ^^^ (r % 256) := by
    have h1 := @Nat.two_pow_add_eq_or_of_lt 8 (r % 256) (Nat.mod_lt _ (by decide)) (r / 256)
    apply Nat.eq_of_testBit_eq
    intro i
    have h2 : r = 2 ^ 8 * (r / 256) + r % 256 := by omega
    rw [Nat.testBit_xor]
    have h3 := Nat.testBit_two_pow_mul_add (r / 256) (b := r % 256) (i := 8) (Nat.mod_lt _ (by decide)) i
    have h4 := Nat.testBit_two_pow_mul (i := 8) (a := r / 256) (j := i)
    rw [show (2 : Nat) ^ 8 = 256 by decide] at h3 h4
    rw [h4]
    conv => lhs; rw [h2, show (2 : Nat) ^ 8 = 256 by decide]
    rw [h3]
    by_cases hi : i < 8
    · have h8 : ¬ 8 ≤ i := by omega
      simp [hi, h8]
    · have h8 : 8 ≤ i := by omega
      have : (r % 256).testBit i = false := Nat.testBit_lt_two_pow (Nat.lt_of_lt_of_le (Nat.mod_lt _ (by decide)) (by
        have : 2 ^ 8 ≤ 2 ^ i := Nat.pow_le_pow_right (by omega) (by omega)
        simpa using this))
      simp [hi, h8, this]
  have h5 : r ^^^ c = 256 * (r / 256) ^^^ (r % 256) ^^^ c := congrArg (· ^^^ c) h
  rw [h5, Nat.xor_assoc]
/-- The step of a byte by the table of what has but its lowest eight bits. -/
theorem step_tab (r : Nat) (c : UInt8) : step r c = r / 256 ^^^ s8 (r % 256 ^^^ c.toNat) := by
  unfold step
  rw [low_split r c.toNat, s8_xor, s8_high]

theorem bitStep_lt {x : Nat} (h : x < 4294967296) : bitStep x < 4294967296 := by
  unfold bitStep
  split
  · exact xor_lt (by omega) (by decide)
  · omega
theorem bitSteps_lt (k : Nat) {x : Nat} (h : x < 4294967296) : bitSteps k x < 4294967296 := by
  induction k with
  | zero => exact h
  | succ k ih => exact bitStep_lt ih
theorem s8_lt {x : Nat} (h : x < 4294967296) : s8 x < 4294967296 := bitSteps_lt 8 h
theorem byte_lt (c : UInt8) : c.toNat < 4294967296 := by have := c.toNat_lt; omega
theorem step_lt {r : Nat} (h : r < 4294967296) (c : UInt8) : step r c < 4294967296 := s8_lt (xor_lt h (byte_lt c))
theorem reg_lt {r : Nat} (h : r < 4294967296) (l : List UInt8) : reg r l < 4294967296 := by
  induction l generalizing r with
  | nil => exact h
  | cons c l ih => exact ih (step_lt h c)
theorem inv_lt {r : Nat} (h : r < 4294967296) : all1 ^^^ r < 4294967296 := xor_lt (by decide) h
theorem moreN_lt {s : Nat} (h : s < 4294967296) (l : List UInt8) : moreN s l < 4294967296 := inv_lt (reg_lt (inv_lt h) l)

theorem bitStep_zero {x : Nat} (hx : x < 4294967296) (h : bitStep x = 0) : x = 0 := by
  unfold bitStep at h
  split at h
  · have := xor_eq_zero' h
    unfold poly at this
    omega
  · omega
theorem bitSteps_zero (k : Nat) {x : Nat} (hx : x < 4294967296) (h : bitSteps k x = 0) : x = 0 := by
  induction k with
  | zero => exact h
  | succ k ih => exact ih (bitStep_zero (bitSteps_lt k hx) h)
theorem s8_inj {x y : Nat} (hx : x < 4294967296) (hy : y < 4294967296) (h : s8 x = s8 y) : x = y :=
  xor_eq_zero' (bitSteps_zero 8 (xor_lt hx hy) (by rw [bitSteps_xor]; show s8 x ^^^ s8 y = 0; rw [h, Nat.xor_self]))
theorem step_inj {x y : Nat} (hx : x < 4294967296) (hy : y < 4294967296) (c : UInt8) (h : step x c = step y c) : x = y :=
  xor_inj_right (s8_inj (xor_lt hx (byte_lt c)) (xor_lt hy (byte_lt c)) h)
theorem reg_inj {x y : Nat} (hx : x < 4294967296) (hy : y < 4294967296) (l : List UInt8) (h : reg x l = reg y l) : x = y := by
  induction l generalizing x y with
  | nil => exact h
  | cons c l ih => exact step_inj hx hy c (ih (step_lt hx c) (step_lt hy c) h)
theorem moreN_inj {x y : Nat} (hx : x < 4294967296) (hy : y < 4294967296) (l : List UInt8) (h : moreN x l = moreN y l) : x = y :=
  xor_inj (reg_inj (inv_lt hx) (inv_lt hy) l (xor_inj h))
theorem moreN_nil (s : Nat) : moreN s [] = s := xor_cancel all1 s
theorem reg_append (r : Nat) (a b : List UInt8) : reg r (a ++ b) = reg (reg r a) b := List.foldl_append ..
theorem moreN_append (s : Nat) (a b : List UInt8) : moreN s (a ++ b) = moreN (moreN s a) b := by
  unfold moreN
  rw [reg_append, xor_cancel]

/-- One byte turned. -/
theorem turned (l : List UInt8) (k : Nat) (c d : UInt8) (hk : l[k]? = some c) (hd : d ≠ c) : sumN (l.set k d) ≠ sumN l := by
  obtain ⟨hlt, hc⟩ := List.getElem?_eq_some_iff.1 hk
  intro h
  have hs : l.set k d = l.take k ++ d :: l.drop (k + 1) := List.set_eq_take_append_cons_drop .. |>.trans (by rw [if_pos hlt])
  have hl : l = l.take k ++ c :: l.drop (k + 1) := by rw [← hc, List.getElem_cons_drop, List.take_append_drop]
  have h0 := xor_inj (a := all1) h
  rw [hs] at h0
  rw [show reg (all1 ^^^ 0) l = reg (all1 ^^^ 0) (l.take k ++ c :: l.drop (k + 1)) from congrArg _ hl] at h0
  rw [reg_append, reg_append] at h0
  have hr : reg (all1 ^^^ 0) (l.take k) < 4294967296 := reg_lt (inv_lt (by decide)) _
  have h1 := reg_inj (step_lt hr d) (step_lt hr c) _ h0
  have h2 := s8_inj (xor_lt hr (byte_lt d)) (xor_lt hr (byte_lt c)) h1
  exact hd (UInt8.toNat_inj.1 (xor_inj h2))

theorem fixed0 : ∀ d : Fin 256, s8 d.val = d.val → d.val = 0 := by decide +kernel
/-- Two bytes beside one another that change places. -/
theorem swapped (r : Nat) (hr : r < 4294967296) (a b : UInt8) (h : step (step r a) b = step (step r b) a) : a = b := by
  have h1 := s8_inj (xor_lt (step_lt hr a) (byte_lt b)) (xor_lt (step_lt hr b) (byte_lt a)) h
  unfold step at h1
  have h2 : s8 (a.toNat ^^^ b.toNat) = a.toNat ^^^ b.toNat := by
    rw [s8_xor] at h1 ⊢
    rw [s8_xor] at h1
    apply xor_eq_zero'
    have h3 : (s8 r ^^^ s8 a.toNat ^^^ b.toNat) ^^^ (s8 r ^^^ s8 b.toNat ^^^ a.toNat) = 0 := by rw [h1, Nat.xor_self]
    rw [xor4, xor4 (s8 r), Nat.xor_self, Nat.zero_xor] at h3
    rw [Nat.xor_comm a.toNat b.toNat]
    exact h3
  have h3 := fixed0 ⟨a.toNat ^^^ b.toNat, xor_lt8 (by have := a.toNat_lt; omega) (by have := b.toNat_lt; omega)⟩ h2
  exact UInt8.toNat_inj.1 (xor_eq_zero' h3)
theorem order (l : List UInt8) (k : Nat) (a b : UInt8) (ha : l[k]? = some a) (hb : l[k + 1]? = some b) : sumN ((l.set k b).set (k + 1) a) = sumN l ↔ a = b := by
  obtain ⟨h1, ea⟩ := List.getElem?_eq_some_iff.1 ha
  obtain ⟨h2, eb⟩ := List.getElem?_eq_some_iff.1 hb
  have hl : l = l.take k ++ a :: b :: l.drop (k + 2) := by
    have e1 : l.drop k = a :: l.drop (k + 1) := by rw [← ea, List.getElem_cons_drop]
    have e2 : l.drop (k + 1) = b :: l.drop (k + 2) := by rw [← eb, List.getElem_cons_drop]
    rw [← e2, ← e1, List.take_append_drop]
  have hs : (l.set k b).set (k + 1) a = l.take k ++ b :: a :: l.drop (k + 2) := by
    apply List.ext_getElem?
    intro i
    rw [List.getElem?_set, List.length_set, List.getElem?_set]
    rcases Nat.lt_trichotomy i k with hi | hi | hi
    · rw [if_neg (by omega), if_neg (by omega), List.getElem?_append_left (by simp; omega), List.getElem?_take, if_pos hi]
    · subst hi
      rw [if_neg (by omega), if_pos rfl, if_pos h1, List.getElem?_append_right (by simp; omega)]
      simp [Nat.min_eq_left (Nat.le_of_lt h1)]
    · rw [List.getElem?_append_right (by simp; omega)]
      simp only [List.length_take, Nat.min_eq_left (Nat.le_of_lt h1)]
      rcases Nat.lt_or_ge (k + 1) i with h | h
      · rw [if_neg (by omega), if_neg (by omega)]
        obtain ⟨j, rfl⟩ : ∃ j, i = k + 2 + j := ⟨i - (k + 2), by omega⟩
        rw [show k + 2 + j - k = j + 1 + 1 by omega, List.getElem?_cons_succ, List.getElem?_cons_succ, List.getElem?_drop]
      · obtain rfl : i = k + 1 := by omega
        rw [if_pos rfl, if_pos h2, show k + 1 - k = 0 + 1 by omega]
        rfl
  constructor
  · intro h
    have h0 := xor_inj (a := all1) h
    rw [hs] at h0
    rw [show reg (all1 ^^^ 0) l = reg (all1 ^^^ 0) (l.take k ++ a :: b :: l.drop (k + 2)) from congrArg _ hl] at h0
    rw [reg_append, reg_append] at h0
    have hr : reg (all1 ^^^ 0) (l.take k) < 4294967296 := reg_lt (inv_lt (by decide)) _
    have h3 := reg_inj (step_lt (step_lt hr b) a) (step_lt (step_lt hr a) b) _ h0
    exact (swapped _ hr b a h3).symm
  · rintro rfl
    rw [hs, ← hl]
/-- Three texts of one length. -/
def xor3 (a b c : List UInt8) : Nat → List UInt8
  | 0 => []
  | k + 1 => xor3 a b c k ++ [a.getD k 0 ^^^ b.getD k 0 ^^^ c.getD k 0]
theorem xor3_len (a b c : List UInt8) (k : Nat) : (xor3 a b c k).length = k := by
  induction k with
  | zero => rfl
  | succ k ih => simp [xor3, ih]
theorem take_succ_getD (a : List UInt8) (k : Nat) (h : k < a.length) : a.take (k + 1) = a.take k ++ [a.getD k 0] := by
  rw [List.take_add_one, List.getElem?_eq_getElem h]
  simp [List.getD_eq_getElem?_getD, List.getElem?_eq_getElem h]
theorem xor6 (a b c x y z : Nat) : (a ^^^ b ^^^ c) ^^^ (x ^^^ y ^^^ z) = (a ^^^ x) ^^^ (b ^^^ y) ^^^ (c ^^^ z) := by
  rw [xor4, xor4 a b x y]
theorem sums_reg (a b c : List UInt8) (k : Nat) (ha : k ≤ a.length) (hb : k ≤ b.length) (hc : k ≤ c.length) (x y z : Nat) :
    reg (x ^^^ y ^^^ z) (xor3 a b c k) = reg x (a.take k) ^^^ reg y (b.take k) ^^^ reg z (c.take k) := by
  induction k with
  | zero => simp [xor3, reg]
  | succ k ih =>
    rw [take_succ_getD a k (by omega), take_succ_getD b k (by omega), take_succ_getD c k (by omega)]
    simp only [xor3]
    rw [reg_append, reg_append, reg_append, reg_append, ih (by omega) (by omega) (by omega)]
    simp only [reg, List.foldl_cons, List.foldl_nil, step]
    rw [← s8_xor, ← s8_xor]
    congr 1
    rw [show (a.getD k 0 ^^^ b.getD k 0 ^^^ c.getD k 0).toNat = (a.getD k 0).toNat ^^^ (b.getD k 0).toNat ^^^ (c.getD k 0).toNat by simp, xor6]
theorem sums (a b c : List UInt8) (k : Nat) (ha : k ≤ a.length) (hb : k ≤ b.length) (hc : k ≤ c.length) : sumN (xor3 a b c k) = sumN (a.take k) ^^^ sumN (b.take k) ^^^ sumN (c.take k) := by
  unfold sumN moreN
  have h : all1 ^^^ 0 = (all1 ^^^ 0) ^^^ (all1 ^^^ 0) ^^^ (all1 ^^^ 0) := by decide
  have h2 := sums_reg a b c k ha hb hc (all1 ^^^ 0) (all1 ^^^ 0) (all1 ^^^ 0)
  rw [← h] at h2
  rw [h2, ← xor6]
  rfl
/-- The table's own making: what an entry has of one with fewer bits. -/
theorem tab_step : ∀ (i : Fin 8) (j : Fin 128), j.val < 2 ^ i.val → s8 (2 ^ i.val ||| j.val) = s8 j.val ^^^ (#[1996959894, 3993919788, 124634137, 249268274, 498536548, 997073096, 1994146192, 3988292384] : Array Nat)[i] := by decide +kernel
end Go.Proofs.YtmhiekbpmoikfaaGreatDoor
namespace Go.Proofs.YtmhiekbpmoikfaaGreatDoor

def le4 (s : Nat) : List UInt8 := [UInt8.ofNat (s % 256), UInt8.ofNat (s / 256 % 256), UInt8.ofNat (s / 65536 % 256), UInt8.ofNat (s / 16777216 % 256)]
def un4 (l : List UInt8) : Nat := (l.getD 0 0).toNat + 256 * (l.getD 1 0).toNat + 65536 * (l.getD 2 0).toNat + 16777216 * (l.getD 3 0).toNat
theorem un4_le4 {s : Nat} (h : s < 4294967296) (more : List UInt8) : un4 (le4 s ++ more) = s := by
  simp only [le4, un4, List.cons_append, List.nil_append, List.getD_cons_zero, List.getD_cons_succ]
  rw [ofNat_toNat (by omega), ofNat_toNat (by omega), ofNat_toNat (by omega), ofNat_toNat (by omega)]
  omega
theorem un4_lt (l : List UInt8) : un4 l < 4294967296 := by
  unfold un4
  have h0 := (l.getD 0 0).toNat_lt
  have h1 := (l.getD 1 0).toNat_lt
  have h2 := (l.getD 2 0).toNat_lt
  have h3 := (l.getD 3 0).toNat_lt
  omega
theorem le4_un4 (a b c d : UInt8) (r : List UInt8) : le4 (un4 (a :: b :: c :: d :: r)) = [a, b, c, d] := by
  have h0 := a.toNat_lt
  have h1 := b.toNat_lt
  have h2 := c.toNat_lt
  have h3 := d.toNat_lt
  simp only [le4, un4, List.getD_cons_zero, List.getD_cons_succ]
  congr 1
  · apply UInt8.toNat_inj.1
    rw [ofNat_toNat (by omega)]
    omega
  · congr 1
    · apply UInt8.toNat_inj.1
      rw [ofNat_toNat (by omega)]
      omega
    · congr 1
      · apply UInt8.toNat_inj.1
        rw [ofNat_toNat (by omega)]
        omega
      · congr 1
        apply UInt8.toNat_inj.1
        rw [ofNat_toNat (by omega)]
        omega
theorem le4_len (s : Nat) : (le4 s).length = 4 := rfl
theorem four {l : List UInt8} (h : 4 ≤ l.length) : ∃ a b c d r, l = a :: b :: c :: d :: r := by
  match l, h with
  | a :: b :: c :: d :: r, _ => exact ⟨a, b, c, d, r, rfl⟩
theorem sumN_lt (l : List UInt8) : sumN l < 4294967296 := moreN_lt (by decide) l

/-- A text's frame. -/
def putF (b : List UInt8) : List UInt8 := putL b.length ++ (le4 (sumN b) ++ b)
/-- What stands in the frame that bytes begin with. -/
def getF (c : List UInt8) : List UInt8 × Nat × Int :=
  if (getL c).2.2 ≠ 0 then ([], 0, (getL c).2.2)
  else if 262144 < (getL c).1 then ([], 0, 32)
  else if c.length < (getL c).2.1 + 4 + (getL c).1 then ([], 0, 31)
  else if sumN ((c.drop ((getL c).2.1 + 4)).take (getL c).1) ≠ un4 (c.drop (getL c).2.1) then ([], 0, 41)
  else ((c.drop ((getL c).2.1 + 4)).take (getL c).1, (getL c).2.1 + 4 + (getL c).1, 0)
theorem putF_len (b : List UInt8) : (putF b).length = (putL b.length).length + 4 + b.length := by
  simp only [putF, List.length_append, le4_len]
  omega
theorem putF_pos (b : List UInt8) : 0 < (putF b).length := by rw [putF_len]; omega
theorem getF_put (b : List UInt8) (hb : b.length ≤ 262144) (more : List UInt8) : getF (putF b ++ more) = (b, (putF b).length, 0) := by
  have hg : getL (putF b ++ more) = (b.length, (putL b.length).length, 0) := by
    unfold putF
    rw [List.append_assoc]
    exact getL_put (by omega) _
  have h1 : (putF b ++ more).drop (putL b.length).length = le4 (sumN b) ++ (b ++ more) := by
    unfold putF
    rw [List.append_assoc, List.append_assoc]
    simp
  have h2 : (putF b ++ more).drop ((putL b.length).length + 4) = b ++ more := by
    rw [← List.drop_drop, h1]
    rfl
  unfold getF
  rw [hg]
  simp only
  rw [if_neg (by simp), if_neg (by omega), if_neg (by rw [List.length_append, putF_len]; omega), h1, h2, un4_le4 (sumN_lt b)]
  rw [List.take_append_of_le_length (Nat.le_refl _), List.take_length, if_neg (by simp), putF_len]
theorem getF_inv {c x : List UInt8} {m : Nat} (h : getF c = (x, m, 0)) : 0 < m ∧ m ≤ c.length ∧ c.take m = putF x ∧ x.length ≤ 262144 := by
  unfold getF at h
  rcases hg : getL c with ⟨n, k, e⟩
  rw [hg] at h
  simp only at h
  split at h
  · rename_i he
    simp only [Prod.mk.injEq] at h
    exact absurd h.2.2 he
  rename_i he
  have he0 : e = 0 := by simpa using he
  subst he0
  split at h
  · simp at h
  rename_i hn
  split at h
  · simp at h
  rename_i hl
  split at h
  · simp at h
  rename_i hs
  simp only [Prod.mk.injEq, and_true] at h
  obtain ⟨hx, rfl⟩ := h
  obtain ⟨g1, g2, g3, g4, g5⟩ := getL_inv hg
  have hxl : x.length = n := by rw [← hx]; simp; omega
  refine ⟨by omega, by omega, ?_, by omega⟩
  obtain ⟨a, b, c', d, r, hd⟩ := four (l := c.drop k) (by simp; omega)
  have hd4 : c.drop (k + 4) = r := by rw [← List.drop_drop, hd]; rfl
  have hs' : sumN x = un4 (c.drop k) := by
    rw [← hx]
    exact Decidable.not_not.1 hs
  have e1 : c.take (k + 4 + n) = c.take k ++ (c.drop k).take (4 + n) := by rw [Nat.add_assoc, List.take_add]
  rw [e1, g4, putF, hxl]
  congr 1
  rw [hs', hd, le4_un4, Nat.add_comm 4 n]
  simp only [List.take_succ_cons]
  rw [hd4] at hx
  rw [hx]
  rfl
theorem getF_err (c : List UInt8) : (getF c).2.2 = 0 ∨ (getF c).1 = [] ∧ (getF c).2.1 = 0 := by
  unfold getF
  split
  · simp
  · split
    · simp
    · split
      · simp
      · split
        · simp
        · simp
theorem getF_step {c : List UInt8} (h : (getF c).2.2 = 0) : 0 < (getF c).2.1 ∧ (getF c).2.1 ≤ c.length ∧ (getF c).1.length ≤ 262144 := by
  rcases hg : getF c with ⟨x, m, e⟩
  rw [hg] at h
  simp only at h
  subst h
  obtain ⟨h1, h2, _, h4⟩ := getF_inv hg
  exact ⟨h1, h2, h4⟩
/-- A frame that is cut. -/
theorem getF_cut (b : List UInt8) (hb : b.length ≤ 262144) {k : Nat} (hk : k < (putF b).length) : getF ((putF b).take k) = ([], 0, 31) := by
  rcases Nat.lt_or_ge k (putL b.length).length with h | h
  · have e : (putF b).take k = (putL b.length).take k := by
      unfold putF
      rw [List.take_append_of_le_length (by omega)]
    have hg := getL_cut (n := b.length) (by omega) h
    unfold getF
    rw [e, hg]
    simp
  · have e : (putF b).take k = putL b.length ++ (le4 (sumN b) ++ b).take (k - (putL b.length).length) := by
      unfold putF
      rw [List.take_append, List.take_of_length_le h]
    have hg : getL ((putF b).take k) = (b.length, (putL b.length).length, 0) := by
      rw [e]
      exact getL_put (by omega) _
    unfold getF
    rw [hg]
    simp only
    rw [putF_len] at hk
    rw [if_neg (by simp), if_neg (by omega), if_pos (by rw [List.length_take, putF_len]; omega)]
/-- A frame of which one byte behind the number is changed. -/
theorem getF_turned (b : List UInt8) (hb : b.length ≤ 262144) {k : Nat} {x y : UInt8} (hk : (putL b.length).length ≤ k) (hx : (putF b)[k]? = some x) (hy : y ≠ x) : getF ((putF b).set k y) = ([], 0, 41) := by
  have hkl := (List.getElem?_eq_some_iff.1 hx).1
  rw [putF_len] at hkl
  obtain ⟨j, rfl⟩ : ∃ j, k = (putL b.length).length + j := ⟨k - (putL b.length).length, by omega⟩
  have e : (putF b).set ((putL b.length).length + j) y = putL b.length ++ (le4 (sumN b) ++ b).set j y := by
    unfold putF
    rw [List.set_append_right _ _ (by omega), Nat.add_sub_cancel_left]
  have hxj : (le4 (sumN b) ++ b)[j]? = some x := by
    unfold putF at hx
    rw [List.getElem?_append_right (by omega), Nat.add_sub_cancel_left] at hx
    exact hx
  have hg : getL ((putF b).set ((putL b.length).length + j) y) = (b.length, (putL b.length).length, 0) := by
    rw [e]
    exact getL_put (by omega) _
  have h1 : ((putF b).set ((putL b.length).length + j) y).drop (putL b.length).length = (le4 (sumN b) ++ b).set j y := by
    rw [e]
    simp
  unfold getF
  rw [hg]
  simp only
  rw [if_neg (by simp), if_neg (by omega), if_neg (by rw [List.length_set, putF_len]; omega), ← List.drop_drop, h1, if_pos]
  rcases Nat.lt_or_ge j 4 with hj | hj
  · have e2 : (le4 (sumN b) ++ b).set j y = (le4 (sumN b)).set j y ++ b := by rw [List.set_append_left _ _ (by rw [le4_len]; exact hj)]
    have e3 : ((le4 (sumN b)).set j y ++ b).drop 4 = b := by
      rw [List.drop_append_of_le_length (by simp [le4_len]), List.drop_of_length_le (by simp [le4_len])]
      rfl
    rw [e2, e3, List.take_length]
    rw [List.getElem?_append_left (by rw [le4_len]; exact hj)] at hxj
    intro hs
    have h4 := le4_un4
    have h5 : le4 (sumN b) = (le4 (sumN b)).set j y := by
      obtain ⟨p, q, r, s, t, ht⟩ := four (l := (le4 (sumN b)).set j y) (by simp [le4_len])
      have hlen : ((le4 (sumN b)).set j y).length = 4 := by simp [le4_len]
      rw [ht] at hs hlen ⊢
      have ht0 : t = [] := List.eq_nil_of_length_eq_zero (by simpa using hlen)
      subst ht0
      rw [hs, List.cons_append, List.cons_append, List.cons_append, List.cons_append, h4]
    have h6 : ((le4 (sumN b)).set j y)[j]? = some y := by rw [List.getElem?_set_self (by rw [le4_len]; exact hj)]
    rw [← h5, hxj] at h6
    exact hy (Option.some.inj h6).symm
  · obtain ⟨i, rfl⟩ : ∃ i, j = 4 + i := ⟨j - 4, by omega⟩
    have e2 : (le4 (sumN b) ++ b).set (4 + i) y = le4 (sumN b) ++ b.set i y := by rw [List.set_append_right _ _ (by rw [le4_len]; omega), le4_len, Nat.add_sub_cancel_left]
    have e3 : (le4 (sumN b) ++ b.set i y).drop 4 = b.set i y := rfl
    rw [e2, e3, un4_le4 (sumN_lt b), List.take_of_length_le (by simp)]
    rw [List.getElem?_append_right (by rw [le4_len]; omega), le4_len, Nat.add_sub_cancel_left] at hxj
    exact turned b i x y hxj hy

/-- What stands in all of the frames, one behind the other. -/
def allAux : Nat → List UInt8 → List (List UInt8) → List (List UInt8) × Int
  | 0, _, acc => (acc, 0)
  | f + 1, c, acc => if c.length = 0 then (acc, 0) else if (getF c).2.2 ≠ 0 then ([], (getF c).2.2) else allAux f (c.drop (getF c).2.1) (acc ++ [(getF c).1])
def allF (c : List UInt8) : List (List UInt8) × Int := allAux c.length c []
/-- .. in those that are whole. -/
def wholeAux : Nat → Nat → List UInt8 → List (List UInt8) → List (List UInt8) × Nat
  | 0, at_, _, acc => (acc, at_)
  | f + 1, at_, c, acc => if c.length = 0 then (acc, at_) else if (getF c).2.2 ≠ 0 then (acc, at_) else wholeAux f (at_ + (getF c).2.1) (c.drop (getF c).2.1) (acc ++ [(getF c).1])
def wholeF (c : List UInt8) : List (List UInt8) × Nat := wholeAux c.length 0 c []

def Short (L : List (List UInt8)) : Prop := ∀ x ∈ L, x.length ≤ 262144
theorem allAux_put (L : List (List UInt8)) (hL : Short L) : ∀ (f : Nat) (c : List UInt8) (acc : List (List UInt8)), (L.flatMap putF).length + c.length ≤ f → ∃ f', c.length ≤ f' ∧ allAux f (L.flatMap putF ++ c) acc = allAux f' c (acc ++ L) := by
  induction L with
  | nil => intro f c acc hf; exact ⟨f, by simpa using hf, by simp⟩
  | cons x r ih =>
    intro f c acc hf
    simp only [List.flatMap_cons, List.length_append] at hf
    have hp := putF_pos x
    cases f with
    | zero => omega
    | succ f =>
      have hg := getF_put x (hL x (List.mem_cons_self ..)) (r.flatMap putF ++ c)
      obtain ⟨f', h1, h2⟩ := ih (fun y hy => hL y (List.mem_cons_of_mem _ hy)) f c (acc ++ [x]) (by omega)
      refine ⟨f', h1, ?_⟩
      simp only [List.flatMap_cons, List.append_assoc, allAux, hg]
      rw [if_neg (by simp only [List.length_append]; omega), if_neg (by simp)]
      rw [List.drop_append_of_le_length (Nat.le_refl _), List.drop_length, List.nil_append, h2]
      simp
theorem allF_put (L : List (List UInt8)) (hL : Short L) : allF (L.flatMap putF) = (L, 0) := by
  obtain ⟨f', _, h2⟩ := allAux_put L hL (L.flatMap putF).length [] [] (by simp)
  rw [List.append_nil] at h2
  unfold allF
  rw [h2]
  cases f' <;> simp [allAux]
theorem wholeAux_put (L : List (List UInt8)) (hL : Short L) : ∀ (f at_ : Nat) (c : List UInt8) (acc : List (List UInt8)), (L.flatMap putF).length + c.length ≤ f → ∃ f', c.length ≤ f' ∧ wholeAux f at_ (L.flatMap putF ++ c) acc = wholeAux f' (at_ + (L.flatMap putF).length) c (acc ++ L) := by
  induction L with
  | nil => intro f at_ c acc hf; exact ⟨f, by simpa using hf, by simp⟩
  | cons x r ih =>
    intro f at_ c acc hf
    simp only [List.flatMap_cons, List.length_append] at hf
    have hp := putF_pos x
    cases f with
    | zero => omega
    | succ f =>
      have hg := getF_put x (hL x (List.mem_cons_self ..)) (r.flatMap putF ++ c)
      obtain ⟨f', h1, h2⟩ := ih (fun y hy => hL y (List.mem_cons_of_mem _ hy)) f (at_ + (putF x).length) c (acc ++ [x]) (by omega)
      refine ⟨f', h1, ?_⟩
      simp only [List.flatMap_cons, List.append_assoc, wholeAux, hg, List.length_append]
      rw [if_neg (by omega), if_neg (by simp)]
      rw [List.drop_append_of_le_length (Nat.le_refl _), List.drop_length, List.nil_append, h2]
      simp [Nat.add_assoc]
theorem wholeAux_up : ∀ (f at_ : Nat) (c : List UInt8) (acc : List (List UInt8)), at_ ≤ (wholeAux f at_ c acc).2 ∧ ∃ r, (wholeAux f at_ c acc).1 = acc ++ r
  | 0, at_, c, acc => ⟨Nat.le_refl _, [], by simp [wholeAux]⟩
  | f + 1, at_, c, acc => by
    simp only [wholeAux]
    split
    · exact ⟨Nat.le_refl _, [], by simp⟩
    · split
      · exact ⟨Nat.le_refl _, [], by simp⟩
      · obtain ⟨h1, r, h2⟩ := wholeAux_up f (at_ + (getF c).2.1) (c.drop (getF c).2.1) (acc ++ [(getF c).1])
        exact ⟨by omega, [(getF c).1] ++ r, by rw [h2, List.append_assoc]⟩
theorem wholeF_put (L : List (List UInt8)) (hL : Short L) (c : List UInt8) : (L.flatMap putF).length ≤ (wholeF (L.flatMap putF ++ c)).2 ∧ ∃ r, (wholeF (L.flatMap putF ++ c)).1 = L ++ r := by
  obtain ⟨f', _, h2⟩ := wholeAux_put L hL (L.flatMap putF ++ c).length 0 c [] (by simp)
  unfold wholeF
  rw [h2]
  obtain ⟨h3, r, h4⟩ := wholeAux_up f' (0 + (L.flatMap putF).length) c ([] ++ L)
  exact ⟨by omega, r, by rw [h4]; rfl⟩
/-- Frames, and then bytes that are none. -/
theorem allF_bad (L : List (List UInt8)) (hL : Short L) (c : List UInt8) {e : Int} (hc : c ≠ []) (h : getF c = ([], 0, e)) (he : e ≠ 0) : allF (L.flatMap putF ++ c) = ([], e) := by
  obtain ⟨f', h1, h2⟩ := allAux_put L hL (L.flatMap putF ++ c).length c [] (by simp)
  unfold allF
  rw [h2]
  have hl : c.length ≠ 0 := fun e0 => hc (List.eq_nil_of_length_eq_zero e0)
  cases f' with
  | zero => omega
  | succ f' => simp only [allAux, h]; rw [if_neg hl, if_pos he]
theorem wholeF_bad (L : List (List UInt8)) (hL : Short L) (c : List UInt8) {e : Int} (hc : c ≠ []) (h : getF c = ([], 0, e)) (he : e ≠ 0) : wholeF (L.flatMap putF ++ c) = (L, (L.flatMap putF).length) := by
  obtain ⟨f', h1, h2⟩ := wholeAux_put L hL (L.flatMap putF ++ c).length 0 c [] (by simp)
  unfold wholeF
  rw [h2]
  have hl : c.length ≠ 0 := fun e0 => hc (List.eq_nil_of_length_eq_zero e0)
  cases f' with
  | zero => omega
  | succ f' => simp only [wholeAux, h]; rw [if_neg hl, if_pos he]; simp
end Go.Proofs.YtmhiekbpmoikfaaGreatDoor
namespace Go.Proofs.YtmhiekbpmoikfaaGreatDoor

structure Rf where
  num : Int
  docs : Int
  level : Int
  dels : Int
deriving DecidableEq
structure Mf where
  gen : Int
  next : Int
  refs : List Rf
deriving DecidableEq
def refZ : Rf := ⟨0, 0, 0, 0⟩
/-- Is a number one of those of these? -/
def knownL (l : List Rf) (n : Int) : Bool := l.any fun r => (r.num == n) || (r.dels == n)
/-- Is the reference at place i right? -/
def refOk (m : Mf) (i : Nat) : Prop :=
  (1 ≤ (m.refs.getD i refZ).num ∧ (m.refs.getD i refZ).num < m.next ∧ (0 < i → (m.refs.getD (i - 1) refZ).num < (m.refs.getD i refZ).num) ∧ 0 ≤ (m.refs.getD i refZ).docs ∧ (m.refs.getD i refZ).docs ≤ 64 ∧ 0 ≤ (m.refs.getD i refZ).level ∧ (m.refs.getD i refZ).level ≤ 16) ∧
  (0 ≤ (m.refs.getD i refZ).dels ∧ (m.refs.getD i refZ).dels < m.next ∧ (m.refs.getD i refZ).dels ≠ (m.refs.getD i refZ).num ∧ knownL (m.refs.take i) (m.refs.getD i refZ).num = false ∧ ((m.refs.getD i refZ).dels ≤ 0 ∨ knownL (m.refs.take i) (m.refs.getD i refZ).dels = false))
instance (m : Mf) (i : Nat) : Decidable (refOk m i) := by unfold refOk; infer_instance
def maxNum : Int := 1099511627776
def mTop (m : Mf) : Prop := 0 ≤ m.gen ∧ m.gen ≤ maxNum ∧ 1 ≤ m.next ∧ m.next ≤ maxNum ∧ m.refs.length ≤ 24
instance (m : Mf) : Decidable (mTop m) := by unfold mTop; infer_instance
def mOk (m : Mf) : Prop := mTop m ∧ ∀ i, i < m.refs.length → refOk m i
instance (m : Mf) : Decidable (mOk m) := by unfold mOk; infer_instance
def mErr (m : Mf) : Int := if mOk m then 0 else 1
def refB (r : Rf) : List UInt8 := putL r.num.toNat ++ putL r.docs.toNat ++ putL r.level.toNat ++ putL r.dels.toNat
/-- The bytes of the first k references. -/
def refsB (l : List Rf) : Nat → List UInt8
  | 0 => []
  | k + 1 => refsB l k ++ refB (l.getD k refZ)
def mBody (m : Mf) : List UInt8 := putL m.gen.toNat ++ putL m.next.toNat ++ putL m.refs.length ++ refsB m.refs m.refs.length
def mPutB (m : Mf) : List UInt8 := putF (mBody m)
/-- A reader that has gone without fault, and what is left. -/
def AtR (s : Rd) (t : List UInt8) : Prop := s.e = 0 ∧ s.bs.drop s.p = t ∧ s.p ≤ s.bs.length
theorem rInt_at {s : Rd} {v : Nat} {t : List UInt8} {most : Int} (h : AtR s (putL v ++ t)) (hv : (v : Int) ≤ most) (h64 : v < 2 ^ 64) : (rInt s most).1 = (v : Int) ∧ AtR (rInt s most).2 t ∧ (rInt s most).2.bs = s.bs := by
  obtain ⟨h1, h2, h3⟩ := h
  have hg := getL_put h64 t
  rw [← h2] at hg
  have hl : (s.bs.drop s.p).length = (putL v ++ t).length := by rw [h2]
  rw [List.length_drop, List.length_append] at hl
  have he : rInt s most = ((v : Int), { s with p := s.p + (putL v).length }) := by
    unfold rInt
    rw [if_neg (by rw [h1]; simp), hg]
    simp only
    rw [if_neg (by simp), if_neg (by omega)]
  rw [he]
  refine ⟨rfl, ⟨h1, ?_, ?_⟩, rfl⟩
  · show s.bs.drop (s.p + (putL v).length) = t
    rw [← List.drop_drop, h2, List.drop_left]
  · show s.p + (putL v).length ≤ s.bs.length
    omega
theorem rInt_back {s : Rd} {most : Int} (hp : s.p ≤ s.bs.length) (h : (rInt s most).2.e = 0) : ∃ (v : Nat) (t : List UInt8), AtR s (putL v ++ t) ∧ (rInt s most).1 = (v : Int) ∧ (v : Int) ≤ most ∧ v < 2 ^ 64 ∧ AtR (rInt s most).2 t := by
  by_cases h0 : s.e = 0
  · obtain ⟨v, k, e, hg⟩ : ∃ v k e, getL (s.bs.drop s.p) = (v, k, e) := ⟨_, _, _, rfl⟩
    have hr : rInt s most = if e ≠ 0 then (0, { s with e := e }) else if most < 0 ∨ most < (v : Int) then (0, { s with e := 32 }) else ((v : Int), { s with p := s.p + k }) := by
      unfold rInt
      rw [if_neg (by rw [h0]; simp), hg]
    rw [hr] at h ⊢
    by_cases he : e = 0
    · subst he
      rw [if_neg (by simp)] at h ⊢
      by_cases hm : most < 0 ∨ most < (v : Int)
      · rw [if_pos hm] at h
        simp at h
      · rw [if_neg hm]
        obtain ⟨g1, g2, g3, g4, g5⟩ := getL_inv hg
        rw [List.length_drop] at g3
        refine ⟨v, s.bs.drop (s.p + k), ⟨h0, ?_, hp⟩, rfl, by omega, g5, ⟨h0, rfl, by show s.p + k ≤ s.bs.length; omega⟩⟩
        rw [← g4, ← List.drop_drop, List.take_append_drop]
    · rw [if_pos he] at h
      exact absurd h he
  · exfalso
    unfold rInt at h
    rw [if_pos h0] at h
    exact h0 h
/-- One reference is read. -/
def rRef (s : Rd) : Rf × Rd :=
  (⟨(rInt s maxNum).1, (rInt (rInt s maxNum).2 maxNum).1, (rInt (rInt (rInt s maxNum).2 maxNum).2 maxNum).1, (rInt (rInt (rInt (rInt s maxNum).2 maxNum).2 maxNum).2 maxNum).1⟩, (rInt (rInt (rInt (rInt s maxNum).2 maxNum).2 maxNum).2 maxNum).2)
/-- The first k of them. -/
def rUp (s : Rd) : Nat → List Rf × Rd
  | 0 => ([], s)
  | k + 1 => ((rUp s k).1 ++ [(rRef (rUp s k).2).1], (rRef (rUp s k).2).2)
def mHd (x : List UInt8) : Rd := (rInt (rInt (rInt ⟨x, 0, 0⟩ maxNum).2 maxNum).2 24).2
def mMany (x : List UInt8) : Int := (rInt (rInt (rInt ⟨x, 0, 0⟩ maxNum).2 maxNum).2 24).1
def mRead (x : List UInt8) : Mf := ⟨(rInt ⟨x, 0, 0⟩ maxNum).1, (rInt (rInt ⟨x, 0, 0⟩ maxNum).2 maxNum).1, (rUp (mHd x) (mMany x).toNat).1⟩
/-- What a frame's content is. -/
def mOf (x : List UInt8) : Option Mf := if (rUp (mHd x) (mMany x).toNat).2.e ≠ 0 ∨ 0 < rLeft (rUp (mHd x) (mMany x).toNat).2 ∨ ¬ mOk (mRead x) then none else some (mRead x)
def mGetB (b : List UInt8) : Option Mf := if (allF b).2 ≠ 0 ∨ (allF b).1.length ≠ 1 then none else mOf ((allF b).1.getD 0 [])
end Go.Proofs.YtmhiekbpmoikfaaGreatDoor
namespace Go.Proofs.YtmhiekbpmoikfaaGreatDoor
open Go.RowKit Go.Maps

/-- Only blocks of F, and new ones, have turned. -/
structure Kept (F : Nat → Prop) (w w' : World) : Prop where
  os : w'.os = w.os
  tape : w'.tape = w.tape
  output : w'.output = w.output
  size : w.heap.size ≤ w'.heap.size
  block : ∀ k, k < w.heap.size → ¬ F k → w'.heap[k]? = w.heap[k]?

theorem Kept.refl (F : Nat → Prop) (w : World) : Kept F w w := ⟨rfl, rfl, rfl, Nat.le_refl _, fun _ _ _ => rfl⟩
/-- The second step's F may hold what is new in the first. -/
theorem Kept.trans {F F' : Nat → Prop} {a b c : World} (h : Kept F a b) (k : Kept F' b c) (hF : ∀ i, i < a.heap.size → F' i → F i) : Kept F a c :=
  ⟨k.os.trans h.os, k.tape.trans h.tape, k.output.trans h.output, Nat.le_trans h.size k.size,
   fun i hi hn => (k.block i (Nat.lt_of_lt_of_le hi h.size) (fun h' => hn (hF i hi h'))).trans (h.block i hi hn)⟩
theorem Kept.mono {F F' : Nat → Prop} {w w' : World} (h : Kept F w w') (hF : ∀ i, F i → F' i) : Kept F' w w' :=
  ⟨h.os, h.tape, h.output, h.size, fun k hk hn => h.block k hk (fun hf => hn (hF k hf))⟩
theorem Kept.alloc {F : Nat → Prop} {a w : World} (h : Kept F a w) (o : Obj) : Kept F a (w.alloc o) :=
  ⟨h.os, h.tape, h.output, Nat.le_trans h.size (by simp), fun k hk hn => (Below.heap_alloc w o k (Nat.lt_of_lt_of_le hk h.size)).trans (h.block k hk hn)⟩
theorem Kept.drew {F : Nat → Prop} {a w : World} (h : Kept F a w) : Kept F a w.drew := ⟨h.os, h.tape, h.output, h.size, h.block⟩
theorem Kept.drewN {F : Nat → Prop} {a w : World} (h : Kept F a w) (n : Nat) : Kept F a (w.drewN n) := ⟨h.os, h.tape, h.output, h.size, h.block⟩
theorem Kept.setCell {F : Nat → Prop} {a w : World} (h : Kept F a w) {p : Addr} (hp : F p.block ∨ a.heap.size ≤ p.block) (u : Value) : Kept F a (w.setCell p u) :=
  ⟨h.os, h.tape, h.output, by simpa [World.setCell] using h.size, fun k hk hn => (Below.heap_setCell w p u k (by
    rintro rfl
    rcases hp with hp | hp
    · exact hn hp
    · omega)).trans (h.block k hk hn)⟩
theorem Kept.below {F : Nat → Prop} {a w : World} (h : Below a.heap.size a w) : Kept F a w := ⟨h.os, h.tape, h.output, h.size, fun k hk _ => h.block k hk⟩
theorem Kept.toBelow {F : Nat → Prop} {a w : World} {B : Nat} (h : Kept F a w) (hB : B ≤ a.heap.size) (hF : ∀ i, F i → B ≤ i) : Below B a w :=
  ⟨h.os, h.tape, h.output, h.size, fun k hk => h.block k (Nat.lt_of_lt_of_le hk hB) (fun hf => by have := hF k hf; omega)⟩
theorem Kept.grown {F : Nat → Prop} {a w w' : World} {row : Option Nat} (h : Kept F a w) (hg : w.grownBy w' row) (hr : ∀ k, row = some k → F k ∨ a.heap.size ≤ k) : Kept F a w' :=
  ⟨hg.os.trans h.os, hg.tape.trans h.tape, hg.output.trans h.output, Nat.le_trans h.size hg.size,
   fun k hk hn => (hg.block k (Nat.lt_of_lt_of_le hk h.size) (fun e => by
     rcases hr k e.symm with h1 | h1
     · exact hn h1
     · omega)).trans (h.block k hk hn)⟩
theorem Kept.cell {F : Nat → Prop} {w w' : World} (h : Kept F w w') {p : Addr} (hp : p.block < w.heap.size) (hn : ¬ F p.block) : w'.cell? p = w.cell? p := World.cell?_of_block (h.block p.block hp hn)

/-- Block g is just these cells, none frozen. -/
def Blk (w : World) (g : Nat) (t : TypeId) (cs : Array Value) : Prop := w.heap[g]? = some (.cells cs t (0, 0))
section
variable {w w' : World} {g : Nat} {t : TypeId} {cs : Array Value}
theorem Blk.lt (h : Blk w g t cs) : g < w.heap.size := by
  rcases Nat.lt_or_ge g w.heap.size with hlt | hge
  · exact hlt
  · unfold Blk at h; rw [Array.getElem?_eq_none hge] at h; cases h
theorem Blk.cell (h : Blk w g t cs) (i : Nat) : w.cell? ⟨g, i, none⟩ = cs[i]? := cell_of_row w g i cs t (0, 0) h
theorem Blk.frozen (h : Blk w g t cs) (i : Nat) : w.frozen? ⟨g, i, none⟩ = false := by
  unfold Blk at h
  simp [World.frozen?, h]
theorem Blk.new (w : World) (t : TypeId) (cs : Array Value) : Blk (w.alloc (.cells cs t)) w.heap.size t cs := heap_alloc_new w _
theorem Blk.drew (h : Blk w g t cs) : Blk w.drew g t cs := h
theorem Blk.drewN (h : Blk w g t cs) (n : Nat) : Blk (w.drewN n) g t cs := h
theorem Blk.alloc (h : Blk w g t cs) (o : Obj) : Blk (w.alloc o) g t cs := (Below.heap_alloc w o g h.lt).trans h
theorem Blk.set_ (h : Blk w g t cs) (i : Nat) (u : Value) : Blk (w.setCell ⟨g, i, none⟩ u) g t (cs.setIfInBounds i u) := by
  unfold Blk at h ⊢
  simp [World.setCell, Array.getElem?_modify, h]
theorem Blk.far (h : Blk w g t cs) {p : Addr} (hp : g ≠ p.block) (u : Value) : Blk (w.setCell p u) g t cs := (Below.heap_setCell w p u g hp).trans h
theorem Blk.below {B : Nat} (h : Blk w g t cs) (hb : Below B w w') (hg : g < B) : Blk w' g t cs := (hb.block g hg).trans h
theorem Blk.kept {F : Nat → Prop} (h : Blk w g t cs) (hk : Kept F w w') (hg : ¬ F g) : Blk w' g t cs := (hk.block g h.lt hg).trans h
theorem Blk.grown {row : Option Nat} (h : Blk w g t cs) (hb : w.grownBy w' row) (hg : some g ≠ row) : Blk w' g t cs := (hb.block g h.lt hg).trans h
theorem Blk.ne_ {g' : Nat} {t' : TypeId} {cs' : Array Value} (h : Blk w g t cs) (h' : Blk w g' t' cs') (hne : t ≠ t') : g ≠ g' := by
  rintro rfl
  unfold Blk at h h'
  rw [h] at h'
  injection h' with h'
  injection h' with _ ht
  exact hne ht
theorem Blk.ne_map {H : Type} {P : Program} {k : TypeId} {R : Value → Option (DataW H × List MemPlace)} {m n : Nat} {D : DataW H} (h : Blk w g t cs) (h' : w.ownsMap P k R m n D) : g ≠ m := by
  rintro rfl
  obtain ⟨es, clock, hb, _⟩ := h'
  unfold Blk at h
  rw [h] at hb
  cases hb
theorem own_blk_ne {base : Nat} {e : TypeId} {size n : Nat} {v : Value} {xs : List Value} (h : w.ownsRow base e size v n xs) (hg : Blk w g t cs) (hne : e ≠ t) : v.ownBlock ≠ some g := by
  rcases h.2 with ⟨rfl, _⟩ | ⟨g', cap, cur, rfl, _, hh, _⟩
  · simp [Value.ownBlock]
  · intro he
    have : g' = g := by simpa [Value.ownBlock] using he
    subst this
    exact Blk.ne_ (t := e) hh hg hne rfl
theorem own_map_ne {H : Type} {P : Program} {k : TypeId} {R : Value → Option (DataW H × List MemPlace)} {m n' : Nat} {D : DataW H} {base : Nat} {e : TypeId} {size n : Nat} {v : Value} {xs : List Value} (h : w.ownsRow base e size v n xs) (h' : w.ownsMap P k R m n' D) : v.ownBlock ≠ some m := by
  rcases h.2 with ⟨rfl, _⟩ | ⟨g', cap, cur, rfl, _, hh, _⟩
  · simp [Value.ownBlock]
  · intro he
    have : g' = m := by simpa [Value.ownBlock] using he
    subst this
    exact Blk.ne_map (t := e) hh h' rfl
end

theorem own_row_ne {w : World} {base base' : Nat} {e e' : TypeId} {size size' n n' : Nat} {v v' : Value} {xs xs' : List Value} (h : w.ownsRow base e size v n xs) (h' : w.ownsRow base' e' size' v' n' xs') (hne : e ≠ e') : ∀ g, v.ownBlock = some g → v'.ownBlock ≠ some g := by
  intro g hg
  rcases h.2 with ⟨rfl, _⟩ | ⟨k, cap, cur, rfl, _, hh, _⟩
  · simp [Value.ownBlock] at hg
  · have e1 : k = g := by simpa [Value.ownBlock] using hg
    subst e1
    exact own_blk_ne h' hh (fun e2 => hne e2.symm)
theorem ownsRow_block {w w' : World} {base : Nat} {e : TypeId} {size n : Nat} {v : Value} {xs : List Value} (h : w.ownsRow base e size v n xs) (hb : ∀ g, v.ownBlock = some g → w'.heap[g]? = w.heap[g]?) : w'.ownsRow base e size v n xs := by
  refine ⟨h.1, ?_⟩
  rcases h.2 with h1 | ⟨g, cap, cur, rfl, h1, h2, h3⟩
  · exact .inl h1
  · exact .inr ⟨g, cap, cur, rfl, h1, (hb g rfl).trans h2, h3⟩
theorem ownsRow_kept {F : Nat → Prop} {w w' : World} {base : Nat} {e : TypeId} {size n : Nat} {v : Value} {xs : List Value} (h : w.ownsRow base e size v n xs) (hk : Kept F w w') (hn : ∀ g, v.ownBlock = some g → ¬ F g) : w'.ownsRow base e size v n xs :=
  ownsRow_block h fun g hg => hk.block g (h.lt g hg).2 (hn g hg)
theorem ownsMap_block {H : Type} {P : Program} {k : TypeId} {R : Value → Option (DataW H × List MemPlace)} {w w' : World} {b n : Nat} {D : DataW H} (h : w.ownsMap P k R b n D) (hb : w'.heap[b]? = w.heap[b]?) : w'.ownsMap P k R b n D := by
  obtain ⟨es, clock, h1, r⟩ := h
  exact ⟨es, clock, hb.trans h1, r⟩
theorem ownsMap_tight {H : Type} {P : Program} {k : TypeId} {R : Value → Option (DataW H × List MemPlace)} {w : World} {b n : Nat} {D : DataW H} (h : w.ownsMap P k R b n D) : w.ownsMap P k R b (Maps.size D) D := by
  obtain ⟨es, clock, h1, h2, _, rfl⟩ := h
  exact ⟨es, clock, h1, h2, by simp [Maps.size, length_sorted], rfl⟩

/-- How a pointer to a whole block reads: its block's number. -/
def ptrElem : Value → Option (DataW Unit × List MemPlace)
  | .pointer (some ⟨b, 0, none⟩) => some (.lit (.int .i64 b), [])
  | .pointer none => some (.lit (.bool false), [])
  | _ => none
theorem ptrElem_mk (b : Nat) : ptrElem (.pointer (some ⟨b, 0, none⟩)) = some (.lit (.int .i64 b), []) := rfl
theorem ptrElem_inv {v : Value} {b : Nat} {ps : List MemPlace} (h : ptrElem v = some (.lit (.int .i64 b), ps)) : v = .pointer (some ⟨b, 0, none⟩) := by
  unfold ptrElem at h
  split at h
  · simp only [Option.some.injEq, Prod.mk.injEq, DataW.lit.injEq, Lit.int.injEq] at h
    obtain ⟨⟨_, h1⟩, _⟩ := h
    have : (_ : Nat) = b := Int.ofNat.inj h1
    rw [this]
  · cases h
  · cases h
end Go.Proofs.YtmhiekbpmoikfaaGreatDoor
namespace Go.Proofs.YtmhiekbpmoikfaaGreatDoor
open Go.RowKit Go.Maps Go.WideMaps Go.ChangeShapes Go.WideShapes Go.ChangeAt Go.Deep

abbrev Nm := List UInt8
def fits64 (x : Int) : Prop := -9223372036854775808 ≤ x ∧ x ≤ 9223372036854775807
def byteV (c : UInt8) : Value := .int .u8 c.toNat
def at0 (b : Nat) : Value := .pointer (some ⟨b, 0, none⟩)
theorem u8_one (l : Nm) : ∀ u ∈ l.map byteV, u.oneCell' = true := by
  intro u hu
  obtain ⟨x, _, rfl⟩ := List.mem_map.1 hu
  rfl
theorem heap_setCell_other (w : World) (p : Addr) (u : Value) {i : Nat} (h : i ≠ p.block) : (w.setCell p u).heap[i]? = w.heap[i]? := Below.heap_setCell w p u i h
theorem size_setCell' (w : World) (p : Addr) (u : Value) : (w.setCell p u).heap.size = w.heap.size := by simp [World.setCell]

theorem own_slice {w : World} {base : Nat} {e : TypeId} {size n : Nat} {v : Value} {xs : List Value} (h : w.ownsRow base e size v n xs) : ∃ A c, v = .slice A n c := by
  rcases h.2 with ⟨rfl, rfl⟩ | ⟨g, cap, cur, rfl, _⟩
  · exact ⟨_, _, rfl⟩
  · exact ⟨_, _, rfl⟩

/-- A slice's elements lie in memory as xs; nil has none. -/
structure Src (w : World) (A : Option Addr) (n : Nat) (xs : List Value) : Prop where
  len : xs.length = n
  cells : ∀ ad, A = some ad → ∀ j u, xs[j]? = some u → w.cell? (ad.add j) = some u
  nil : A = none → n = 0

theorem Src.keep {w w' : World} {A : Option Addr} {n : Nat} {xs : List Value} (h : Src w A n xs) (hb : ∀ ad, A = some ad → 0 < n → w'.heap[ad.block]? = w.heap[ad.block]?) : Src w' A n xs :=
  ⟨h.len, fun ad e j u hu => by
    have hc := h.cells ad e j u hu
    have hbl : (ad.add j).block = ad.block := by unfold Addr.add; split <;> rfl
    have hn : 0 < n := by
      have := (List.getElem?_eq_some_iff.1 hu).1
      have := h.len
      omega
    rw [World.cell?_of_block (w := w) (by rw [hbl]; exact hb ad e hn)]
    exact hc, h.nil⟩

theorem append_src {P : Program} (w : World) (base : Nat) (t ty e : TypeId) (i : TypeInfo) (z : Value) (bytes : Nat) (ht : P.underlying t = some (.slice e)) (hi : P.info? e = some i) (hz : i.zero = some z)
    (hsize : i.size = 1) (hby : i.bytes = bytes) (hzs : z.cells.size = 1) (v : Value) (n : Nat) (xs : List Value) (hown : w.ownsRow base e 1 v n xs)
    (A : Option Addr) (m c : Nat) (news : List Value) (hr : Src w A m news) (h1 : ∀ u ∈ news, u.oneCell' = true)
    (h63 : n + m ≤ maxLen) (hbytes : (n + m) * bytes ≤ 140737488355328) (hbase : base ≤ w.heap.size) :
    ∃ v' w', (Builtin.append_ #[t, t] ty #[v, .slice A m c]).run P w = .ok v' w' ∧ w'.ownsRow base e 1 v' (n + m) (xs ++ news) ∧ w.grownBy w' v.ownBlock ∧
      (v'.ownBlock = v.ownBlock ∨ v'.ownBlock = some w.heap.size) := by
  cases A with
  | none =>
    have hm := hr.nil rfl
    subst hm
    have hn : news = [] := List.eq_nil_of_length_eq_zero hr.len
    subst hn
    refine ⟨v, w, ?_, by simpa using hown, World.grownBy.refl w _, .inl rfl⟩
    rcases hown.2 with ⟨rfl, rfl⟩ | ⟨g, cap, cur, rfl, _, _, hnc, _⟩
    · simp [Builtin.append_, run_underlying ht, sizeOf, typeInfo, hi, Builtin.lenOf, Builtin.firstCells]
    · simp [Builtin.append_, run_underlying ht, sizeOf, typeInfo, hi, Builtin.lenOf, Builtin.firstCells, hnc, storeCells]
  | some ad =>
    obtain ⟨v', w', hrun, h2, h3, _, h5⟩ := run_append_own_at (P := P) w base t ty e i z 1 bytes ht hi hz hsize hby hzs (by decide) v n xs hown ad m c news (by rw [hr.len]; omega) (hr.cells ad rfl) h1 h63 hbytes hbase
    exact ⟨v', w', hrun, h2, h3, h5⟩

theorem step_append_src {P : Program} (w : World) {ops : Array Oper} {o : Oper} {a : Act} {K : Act → World → Prop} {Q : Exit → Act → World → Prop} {E : Prop} (hgd : o.guard = none) (s x : Operand) (t : TypeId)
    (ho : o.op = .call { callee := .builtin .append, args := #[s, x], argTypes := #[t, t] })
    (base : Nat) (e : TypeId) (i : TypeInfo) (z : Value) (bytes : Nat) (ht : P.underlying t = some (.slice e)) (hi : P.info? e = some i) (hz : i.zero = some z)
    (hsize : i.size = 1) (hby : i.bytes = bytes) (hzs : z.cells.size = 1)
    (v : Value) (n : Nat) (xs : List Value) (hs : a.eval s = v) (hown : w.ownsRow base e 1 v n xs)
    (A : Option Addr) (m c : Nat) (news : List Value) (hx : a.eval x = .slice A m c) (hr : Src w A m news) (h1 : ∀ u ∈ news, u.oneCell' = true)
    (h63 : n + m ≤ maxLen) (hbytes : (n + m) * bytes ≤ 140737488355328) (hbase : base ≤ w.heap.size)
    (h : ∀ v' w', w'.ownsRow base e 1 v' (n + m) (xs ++ news) → w.grownBy w' v.ownBlock → (v'.ownBlock = v.ownBlock ∨ v'.ownBlock = some w.heap.size) → K (a.put o.dst v') w') :
    if Region.wanted o (yielded ops a.tmps) = true then Oper.wp P o a w K Q else E := by
  have hw : Region.wanted o (yielded ops a.tmps) = true := by simp [Region.wanted, hgd]
  rw [if_pos hw]
  obtain ⟨v', w', hrun, h2, h3, h4⟩ := append_src (P := P) w base t o.type e i z bytes ht hi hz hsize hby hzs v n xs hown A m c news hr h1 h63 hbytes hbase
  unfold Oper.wp execOp
  simp only [ho, resolve, invoke, builtin, Sem.run_bind, Sem.run_pure, Result.andThen_ok, List.map_toArray, List.map_cons, List.map_nil, hs, hx, hrun]
  exact h v' w' h2 h3 h4

theorem below_cells {W w' : World} (hb : Below W.heap.size W w') {a : Addr} {v : Value} (h : W.cell? a = some v) : w'.cell? a = some v := (hb.cell (World.block_lt_of_cell? W a h)).trans h
theorem below_drewN2 (w : World) (m n : Nat) : Below w.heap.size w ((w.drewN m).drewN n) := ⟨rfl, rfl, rfl, Nat.le_refl _, fun _ _ => rfl⟩
theorem wp_at {P : Program} {c : Code} {Q : Exit → Act → World → Prop} {a : Act} {w : World} (h : ∀ W, W = w → c.wp P Q a W) : c.wp P Q a w := h w rfl
theorem wpList_append_src {P : Program} (w : World) {ops : Array Oper} {rest : List Oper} {o : Oper} {a : Act} {Q : Exit → Act → World → Prop} (hgd : o.guard = none) (s x : Operand) (t : TypeId)
    (ho : o.op = .call { callee := .builtin .append, args := #[s, x], argTypes := #[t, t] })
    (base : Nat) (e : TypeId) (i : TypeInfo) (z : Value) (bytes : Nat) (ht : P.underlying t = some (.slice e)) (hi : P.info? e = some i) (hz : i.zero = some z)
    (hsize : i.size = 1) (hby : i.bytes = bytes) (hzs : z.cells.size = 1)
    (v : Value) (n : Nat) (xs : List Value) (hs : a.eval s = v) (hown : w.ownsRow base e 1 v n xs)
    (A : Option Addr) (m c : Nat) (news : List Value) (hx : a.eval x = .slice A m c) (hr : Src w A m news) (h1 : ∀ u ∈ news, u.oneCell' = true)
    (h63 : n + m ≤ maxLen) (hbytes : (n + m) * bytes ≤ 140737488355328) (hbase : base ≤ w.heap.size)
    (h : ∀ v' w', w'.ownsRow base e 1 v' (n + m) (xs ++ news) → w.grownBy w' v.ownBlock → (v'.ownBlock = v.ownBlock ∨ v'.ownBlock = some w.heap.size) → wpList P ops Q rest (a.put o.dst v') w') : wpList P ops Q (o :: rest) a w := by
  refine wpList_plain hgd fun K hK => ?_
  obtain ⟨v', w', hrun, h2, h3, h4⟩ := append_src (P := P) w base t o.type e i z bytes ht hi hz hsize hby hzs v n xs hown A m c news hr h1 h63 hbytes hbase
  unfold Oper.wp execOp
  simp only [ho, resolve, invoke, builtin, Sem.run_bind, Sem.run_pure, Result.andThen_ok, List.map_toArray, List.map_cons, List.map_nil, hs, hx, hrun]
  exact hK _ _ (h v' w' h2 h3 h4)

theorem src_of_own {w : World} {A : Option Addr} {n c base : Nat} {e : TypeId} {xs : List Value} (h : w.ownsRow base e 1 (.slice A n c) n xs) : Src w A n xs := by
  refine ⟨by have := h.1; simpa using this, fun ad e j u hu => ?_, fun e => ?_⟩
  · rcases h.2 with ⟨h1, h0⟩ | ⟨g, cap, cur, h1, _⟩
    · injection h1 with h1
      rw [h1] at e; cases e
    · injection h1 with h1
      rw [h1] at e
      injection e with e
      subst e
      exact h.cells (by rw [h1]; rfl) j u hu
  · rcases h.2 with ⟨_, h0⟩ | ⟨g, cap, cur, h1, _⟩
    · exact h0
    · injection h1 with h1
      rw [h1] at e; cases e
theorem own_cap {w : World} {base : Nat} {e : TypeId} {n : Nat} {v : Value} {xs : List Value} (h : w.ownsRow base e 1 v n xs) : ∃ A c, v = .slice A n c ∧ n ≤ c := by
  rcases h.2 with ⟨rfl, rfl⟩ | ⟨g, cap, cur, rfl, _, _, h1, _⟩
  · exact ⟨_, _, rfl, Nat.le_refl _⟩
  · exact ⟨_, _, rfl, h1⟩
theorem own : ownKnob Tryz.prog.godebug = none := by kernel_rfl
theorem laidOut : laidOutB Tryz.prog = true := by kernel_rfl

/-- A slice of bytes that came in. -/
def BytesIn (w : World) (A : Option Addr) (n : Nat) (bs : Nm) : Prop := n ≤ maxLen ∧ Src w A n (bs.map byteV) ∧ ∀ ad, A = some ad → 0 < n → ad.block < w.heap.size
section
variable {H : Type} {enc : TypeId × Value → H} {w : World}
theorem cap_in {t e : TypeId} (ht : Tryz.prog.underlying t = some (.slice e)) {A : Option Addr} {n c : Nat} {x : DataW H × List MemPlace} {fuel : Nat} {base : Nat} {spare : Nat → Bool} {held : Bool} (h : DataW.trod enc Tryz.prog w base spare held fuel t [.slice A n c] = some x) : n ≤ c := by
  rcases open_slice ht h with ⟨hcs, _⟩ | ⟨a, len, cap, m, f, D, Pl, hcs, _, hl, _⟩
  · simp only [List.cons.injEq, Value.slice.injEq, and_true] at hcs
    omega
  · simp only [List.cons.injEq, Value.slice.injEq, and_true] at hcs
    omega
end

section
variable {H : Type} {enc : TypeId × Value → H} {w : World}
/-- All that a datum weighs is within the reach. -/
def Sized (t : TypeId) (d : DataW H) : Prop := ∀ v ∈ d.weights Tryz.prog t, v ≤ reachBytes
theorem Sized.field {t : TypeId} {fs : Array Field} {ds : List (DataW H)} (h : Sized t (.agg ds)) (ht : Tryz.prog.underlying t = some (.struct fs)) {j : Nat} {f : Field} {d : DataW H} (hf : fs[j]? = some f) (hd : ds[j]? = some d) : Sized f.type d := fun v hv =>
  h v (by
    simp only [DataW.weights, ht]
    exact DataW.weights_mem_each (j := j) (t := f.type) (by simp [hf]) hd v hv)
theorem weights_all {e : TypeId} : ∀ {ds : List (DataW H)} {d : DataW H}, d ∈ ds → ∀ v ∈ d.weights Tryz.prog e, v ∈ DataW.weightsAll Tryz.prog e ds
  | x :: r, d, h, v, hv => by
    simp only [DataW.weightsAll, List.mem_append]
    rcases List.mem_cons.1 h with h | h
    · subst h; exact .inl hv
    · exact .inr (weights_all h v hv)
theorem Sized.elem {t e : TypeId} {ds sp : List (DataW H)} (h : Sized t (.slice ds sp)) (ht : Tryz.prog.underlying t = some (.slice e)) {d : DataW H} (hd : d ∈ ds) : Sized e d := fun v hv =>
  h v (by
    simp only [DataW.weights, ht, List.mem_cons, List.mem_append]
    exact .inr (.inl (weights_all hd v hv)))
theorem Sized.len {t e : TypeId} {ds sp : List (DataW H)} (h : Sized t (.slice ds sp)) (ht : Tryz.prog.underlying t = some (.slice e)) : (ds.length + sp.length) * Tryz.prog.bytesOf e ≤ 140737488351232 :=
  h _ (by simp only [DataW.weights, ht, List.mem_cons, true_or])
theorem Sized.str {t : TypeId} {l : List UInt8} (h : Sized (H := H) t (.lit (.string l))) : l.length ≤ 140737488351232 :=
  h _ (by simp [DataW.weights])
theorem Sized.ints {t e : TypeId} {k : IntKind} {fuel : Nat} {A : Option Addr} {n c : Nat} {x : DataW H × List MemPlace} {base : Nat} {spare : Nat → Bool} {held : Bool} (hs : Sized t x.1) (ht : Tryz.prog.underlying t = some (.slice e)) (he : Tryz.prog.underlying e = some (.int k)) (hc : Tryz.prog.cellsOf e = 1)
    (h : DataW.trod enc Tryz.prog w base spare held fuel t [.slice A n c] = some x) : n * Tryz.prog.bytesOf e ≤ 140737488351232 := by
  rcases open_ints ht he hc h with ⟨hcs, _⟩ | ⟨a, l, cp, zs, hcs, _, hl, hm, hz, hx, _⟩
  · simp only [List.cons.injEq, Value.slice.injEq, and_true] at hcs
    obtain ⟨_, rfl, _⟩ := hcs
    omega
  · simp only [List.cons.injEq, Value.slice.injEq, and_true] at hcs
    obtain ⟨_, rfl, _⟩ := hcs
    rw [hx] at hs
    have h1 := hs.len ht
    simp only [lits, List.length_map, List.length_take, List.length_drop] at h1
    have : n ≤ zs.length := by rw [hz]; split <;> omega
    rw [show min n zs.length + (zs.length - n) = zs.length by omega] at h1
    exact Nat.le_trans (Nat.mul_le_mul_right _ this) h1
end
theorem below_then {a b c : World} {B : Nat} (h : Below B a b) (k : Below b.heap.size b c) (hB : B ≤ b.heap.size) : Below B a c := h.trans (k.mono hB)
theorem below_drewN {a w : World} {B : Nat} (h : Below B a w) (n : Nat) : Below B a (w.drewN n) := ⟨h.os, h.tape, h.output, h.size, h.block⟩
theorem drop_take' (l : List UInt8) (p n : Nat) : (l.take (p + n)).drop p = (l.drop p).take n := by
  rw [List.drop_take, Nat.add_sub_cancel_left]
/-- Where 'x[p:]' begins. -/
def cutAddr (A : Option Addr) (p c : Nat) : Option Addr := if c = p then A else A.map (·.add p)
end Go.Proofs.YtmhiekbpmoikfaaGreatDoor
namespace Go.Proofs.YtmhiekbpmoikfaaGreatDoor
open Go.RowKit Go.Maps Go.WideMaps Go.ChangeShapes Go.WideShapes Go.ChangeAt Go.Deep

theorem byteInfo : (Tryz.prog.info? 5).map (fun i => (i.zero, i.size, i.bytes)) = some (some (.int .u8 0), 1, 1) := by kernel_rfl
set_option maxRecDepth 100000 in
theorem slice_to (w : World) (A : Option Addr) (n c p : Nat) (h : p ≤ c) : (Instr.slice 25 (.slice A n c) none (some (.int .i64 p)) none).run Tryz.prog w = .ok (.slice A p c) w := by
  obtain ⟨i0, hi, hz0, hz1, hz2⟩ := info_parts byteInfo
  rw [run_slice_h (P := Tryz.prog) (w := w) 25 A n c Tryz.underlying25 .i64 p (by omega) (by omega)]
  have he : Tryz.prog.elem 25 = 5 := by kernel_rfl
  rw [he]
  have hs : (sizeOf 5).run Tryz.prog w = Result.ok i0.size w := by
    rw [run_sizeOf w hi]
    unfold Program.cellsOf
    rw [hi]
    rfl
  rw [hs]
  simp [Result.andThen, sliced, Addr.add]

section
variable {H : Type} {enc : TypeId × Value → H} {w : World}
theorem bytes_in {A : Option Addr} {n c : Nat} {x : DataW H × List MemPlace} {fuel : Nat} {base : Nat} {spare : Nat → Bool} {held : Bool} (h : DataW.trod enc Tryz.prog w base spare held fuel 25 [.slice A n c] = some x) : ∃ bs, BytesIn w A n bs := by
  rcases open_ints Tryz.underlying25 Tryz.underlying5 (by kernel_rfl) h with ⟨hcs, _⟩ | ⟨a, l, cp, zs, hcs, _, hl, hm, hz, _, hcell, hwz⟩
  · simp only [List.cons.injEq, Value.slice.injEq, and_true] at hcs
    obtain ⟨rfl, rfl, rfl⟩ := hcs
    exact ⟨[], by unfold maxLen; omega, ⟨rfl, (fun ad e => by cases e), fun _ => rfl⟩, fun ad e => by cases e⟩
  · simp only [List.cons.injEq, Value.slice.injEq, and_true] at hcs
    obtain ⟨rfl, rfl, rfl⟩ := hcs
    have hzl : n ≤ zs.length := by rw [hz]; split <;> omega
    have hc : ∀ j u, ((zs.take n).map fun z => byteV (UInt8.ofNat z.toNat))[j]? = some u → w.cell? (a.add j) = some u := by
      intro j u hu
      rw [List.getElem?_map, List.getElem?_take] at hu
      split at hu
      · rename_i hj
        have hjz : j < zs.length := by omega
        rw [List.getElem?_eq_getElem hjz] at hu
        simp only [Option.map_some, Option.some.injEq] at hu
        rw [hcell j hjz, ← hu]
        have hw := hwz zs[j] (List.getElem_mem hjz)
        have hb : 0 ≤ zs[j] ∧ zs[j] ≤ 255 := by
          have := hw
          simp [Lit.wf, IntKind.min, IntKind.max, IntKind.signed, IntKind.bits] at this
          exact this
        simp only [byteV, List.getD_eq_getElem?_getD, List.getElem?_eq_getElem hjz, Option.getD_some, Option.some.injEq, Value.int.injEq, true_and]
        have : (UInt8.ofNat zs[j].toNat).toNat = zs[j].toNat := by
          exact UInt8.toNat_ofNat_of_lt' (by show _ < 256; omega)
        rw [this]
        omega
      · cases hu
    refine ⟨(zs.take n).map fun z => UInt8.ofNat z.toNat, by omega, ⟨by simp; omega, fun ad e j u hu => ?_, (fun e => by cases e)⟩, fun ad e hn => ?_⟩
    · injection e with e
      subst e
      exact hc j u (by rw [← hu, List.map_map]; rfl)
    · injection e with e
      subst e
      have h0 := hcell 0 (by omega)
      have h1 : a.add 0 = a := by simp [Addr.add]
      rw [h1] at h0
      exact World.block_lt_of_cell? w a h0
theorem bytes_shape {A : Value} {x : DataW H × List MemPlace} {fuel : Nat} {base : Nat} {spare : Nat → Bool} {held : Bool} (h : DataW.trod enc Tryz.prog w base spare held fuel 25 [A] = some x) : ∃ C k cc, A = .slice C k cc ∧ k ≤ cc := by
  rcases open_ints Tryz.underlying25 Tryz.underlying5 (by kernel_rfl) h with ⟨hcs, _⟩ | ⟨a, l, cp, zs, hcs, _, hl, _⟩
  · simp only [List.cons.injEq, and_true] at hcs
    exact ⟨_, _, _, hcs, Nat.le_refl _⟩
  · simp only [List.cons.injEq, and_true] at hcs
    exact ⟨_, _, _, hcs, hl⟩
theorem bytesIn {A : Option Addr} {n c : Nat} {x : DataW H × List MemPlace} {fuel : Nat} {base : Nat} {spare : Nat → Bool} {held : Bool} (h : DataW.trod enc Tryz.prog w base spare held fuel 25 [.slice A n c] = some x) (_ : Sized 25 x.1) : ∃ l, BytesIn w A n l := bytes_in h
end
end Go.Proofs.YtmhiekbpmoikfaaGreatDoor
namespace Go.Proofs.YtmhiekbpmoikfaaGreatDoor
open Go.RowKit Go.Maps Go.WideMaps

theorem BytesIn.below {w w' : World} {A : Option Addr} {n : Nat} {l : Nm} (h : BytesIn w A n l) (hb : Below w.heap.size w w') : BytesIn w' A n l :=
  ⟨h.1, h.2.1.keep fun ad e hn => hb.block _ (h.2.2 ad e hn), fun ad e hn => Nat.lt_of_lt_of_le (h.2.2 ad e hn) hb.size⟩
theorem BytesIn.nil (w : World) : BytesIn w none 0 [] := ⟨by unfold maxLen; omega, ⟨rfl, (fun ad e => by cases e), fun _ => rfl⟩, fun ad e => by cases e⟩
/-- Whatever block holds just these bytes. -/
theorem BytesIn.ofRow {w : World} {g n : Nat} {l : Nm} {t : TypeId} {fr : Nat × Nat} (h : w.heap[g]? = some (.cells (l.map byteV).toArray t fr)) (hn : l.length = n) (h63 : n ≤ maxLen) : BytesIn w (some ⟨g, 0, none⟩) n l := by
  have hlt : g < w.heap.size := by
    rcases Nat.lt_or_ge g w.heap.size with h1 | h1
    · exact h1
    · rw [Array.getElem?_eq_none h1] at h; cases h
  refine ⟨h63, ⟨by simpa using hn, fun ad e j u hu => ?_, fun e => by cases e⟩, fun ad e _ => ?_⟩
  · cases e
    have e2 : (⟨g, 0, none⟩ : Addr).add j = ⟨g, j, none⟩ := by
      unfold Addr.add
      split
      · rename_i h0; rw [h0]
      · simp
    rw [e2, cell_of_row w g j _ t fr h]
    simpa using hu
  · cases e
    exact hlt
/-- '[]byte("..")' of a constant: what the walk asks. -/
theorem const_bytes (w : World) (C : Array Value) (n c : Nat) :
    (convert 25 25 (.slice (some ⟨w.heap.size, 0, none⟩) n c)).run Tryz.prog (w.alloc (.cells C 5)) = .ok (.slice (some ⟨w.heap.size, 0, none⟩) n c) (w.alloc (.cells C 5 (C.size, C.size + 1))) :=
  Lib.run_convert_bytes_const w 25 5 C n c Tryz.underlying25 Tryz.underlying5
theorem const_in (w : World) (l : Nm) (fr : Nat × Nat) (h63 : l.length ≤ maxLen) : BytesIn (w.alloc (.cells (l.map byteV).toArray 5 fr)) (some ⟨w.heap.size, 0, none⟩) l.length l :=
  BytesIn.ofRow (heap_alloc_new w _) rfl h63
/-- One byte in a new block, as a source. -/
theorem one_src (w : World) (x : UInt8) : Src (w.alloc (.cells #[.int .u8 x.toNat] 5)) (some ⟨w.heap.size, 0, none⟩) 1 ([x].map byteV) :=
  (BytesIn.ofRow (n := 1) (l := [x]) (heap_alloc_new w _) rfl (by unfold maxLen; omega)).2.1
/-- Some bytes in a new block, as a source. -/
theorem new_src (w : World) (l : Nm) (h : l.length ≤ maxLen) : Src (w.alloc (.cells (l.map byteV).toArray 5)) (some ⟨w.heap.size, 0, none⟩) l.length (l.map byteV) := (const_in w l (0, 0) h).2.1
theorem own_alloc {w : World} {base n : Nat} {v : Value} {xs : List Value} (h : w.ownsRow base 5 1 v n xs) (o : Obj) : (w.alloc o).ownsRow base 5 1 v n xs := World.ownsRow.alloc h o
/-- A part of the bytes that came in. -/
theorem BytesIn.part {w : World} {ad : Addr} {n : Nat} {l : Nm} (h : BytesIn w (some ad) n l) (p q : Nat) (hp : p ≤ q) (hq : q ≤ n) : BytesIn w (some (ad.add p)) (q - p) ((l.take q).drop p) := by
  have hl : l.length = n := by have := h.2.1.len; simpa using this
  have hb : (ad.add p).block = ad.block := by unfold Addr.add; split <;> rfl
  refine ⟨by have := h.1; omega, ⟨by simp; omega, fun a e j u hu => ?_, fun e => by cases e⟩, fun a e h0 => ?_⟩
  · cases e
    have e2 : (ad.add p).add j = ad.add (p + j) := by
      unfold Addr.add
      split <;> split <;> (first | rfl | (split <;> simp_all <;> omega) | (simp_all; omega) | skip)
    rw [e2]
    refine h.2.1.cells ad rfl (p + j) u ?_
    rw [List.getElem?_map, List.getElem?_drop, List.getElem?_take] at hu
    split at hu
    · rw [List.getElem?_map]; exact hu
    · cases hu
  · cases e
    rw [hb]
    exact h.2.2 ad rfl (by omega)
/-- All is as it was, and these bytes lie where they lay. -/
structure Still (w : World) (A : Option Addr) (n : Nat) (l : Nm) (w' : World) : Prop where
  below : Below w.heap.size w w'
  bytes : BytesIn w' A n l
theorem Still.then {w a b : World} {A : Option Addr} {n : Nat} {l : Nm} (h : Still w A n l a) (k : Below a.heap.size a b) : Still w A n l b := ⟨below_then h.below k h.below.size, h.bytes.below k⟩
theorem BytesIn.drew {w : World} {A : Option Addr} {n : Nat} {l : Nm} (h : BytesIn w A n l) : BytesIn w.drew A n l := ⟨h.1, ⟨h.2.1.1, h.2.1.2, h.2.1.3⟩, h.2.2⟩
theorem BytesIn.drewN {w : World} {A : Option Addr} {n : Nat} {l : Nm} (h : BytesIn w A n l) (q : Nat) : BytesIn (w.drewN q) A n l := ⟨h.1, ⟨h.2.1.1, h.2.1.2, h.2.1.3⟩, h.2.2⟩
theorem Still.drew {w a : World} {A : Option Addr} {n : Nat} {l : Nm} (h : Still w A n l a) : Still w A n l a.drew := ⟨h.below.drew, h.bytes.drew⟩
/-- Bytes of one's own are bytes as well. -/
theorem BytesIn.own {w : World} {base : Nat} {A : Option Addr} {n c : Nat} {l : Nm} (h : w.ownsRow base 5 1 (.slice A n c) n (l.map byteV)) (h63 : n ≤ maxLen) : BytesIn w A n l :=
  ⟨h63, src_of_own h, fun ad e _ => (h.lt ad.block (by rw [e]; rfl)).2⟩
theorem cell_this {w : World} {ad : Addr} {n K : Nat} {l : Nm} {x : UInt8} (h : BytesIn w (some ad) n l) (hx : l[K]? = some x) : w.cell? (ad.add K) = some (.int .u8 x.toNat) :=
  h.2.1.cells ad rfl K (byteV x) (by rw [List.getElem?_map, hx]; rfl)
theorem cell_next {w : World} {ad : Addr} {n K : Nat} {l : Nm} {x : UInt8} (h : BytesIn w (some ad) n l) (hx : l[K + 1]? = some x) : w.cell? ⟨ad.block, ad.off + (K + 1), none⟩ = some (.int .u8 x.toNat) := by
  have := cell_this h hx
  simpa [Addr.add] using this
theorem own_cell {w : World} {base g n cap K : Nat} {l : Nm} {x : UInt8} (h : w.ownsRow base 5 1 (.slice (some ⟨g, 0, none⟩) n cap) n (l.map byteV)) (hx : l[K]? = some x) : w.cell? ⟨g, K, none⟩ = some (.int .u8 x.toNat) := by
  have hl : K < n * 1 := by
    have h1 := (List.getElem?_eq_some_iff.1 hx).1
    have h2 := h.1
    simp at h2
    omega
  rw [h.cellAt K hl, List.getElem?_map, hx]
  rfl
/-- Where an element lies. -/
theorem BytesIn.at {w : World} {A : Option Addr} {n : Nat} {l : Nm} (h : BytesIn w A n l) (k : Nat) (hk : k < n) : ∃ ad x, A = some ad ∧ l[k]? = some x ∧ w.cell? (ad.add k) = some (.int .u8 x.toNat) := by
  have hl : l.length = n := by have := h.2.1.len; simpa using this
  cases hA : A with
  | none => have := h.2.1.nil hA; omega
  | some ad =>
    subst hA
    have hx : l[k]? = some (l[k]'(by omega)) := List.getElem?_eq_getElem _
    exact ⟨ad, _, rfl, hx, cell_this h hx⟩
theorem BytesIn.sub {w : World} {A : Option Addr} {n c : Nat} {l : Nm} (h : BytesIn w A n l) (hc : n ≤ c) (p q : Nat) (hp : p ≤ q) (hq : q ≤ n) : BytesIn w (cutAddr A p c) (q - p) ((l.take q).drop p) := by
  have hl : l.length = n := by have := h.2.1.len; simpa using this
  unfold cutAddr
  by_cases hcp : c = p
  · rw [if_pos hcp]
    have e : (l.take q).drop p = [] := List.eq_nil_of_length_eq_zero (by simp; omega)
    rw [e, show q - p = 0 by omega]
    exact ⟨Nat.zero_le _, ⟨rfl, fun ad _ j u hu => by simp at hu, fun _ => rfl⟩, fun ad _ h0 => by omega⟩
  · rw [if_neg hcp]
    cases A with
    | none =>
      have := h.2.1.nil rfl
      have e : (l.take q).drop p = [] := List.eq_nil_of_length_eq_zero (by simp; omega)
      rw [e, show q - p = 0 by omega]
      exact ⟨Nat.zero_le _, ⟨rfl, fun ad _ j u hu => by simp at hu, fun _ => rfl⟩, fun ad _ h0 => by omega⟩
    | some ad => exact h.part p q hp hq
theorem BytesIn.upto {w : World} {A : Option Addr} {n : Nat} {l : Nm} (h : BytesIn w A n l) (q : Nat) (hq : q ≤ n) : BytesIn w A q (l.take q) := by
  have hl : l.length = n := by have := h.2.1.len; simpa using this
  refine ⟨Nat.le_trans hq h.1, ⟨by simp; omega, fun ad e j u hu => ?_, fun e => by have := h.2.1.nil e; omega⟩, fun ad e h0 => h.2.2 ad e (by omega)⟩
  refine h.2.1.cells ad e j u ?_
  rw [List.getElem?_map, List.getElem?_take] at hu
  split at hu
  · rw [List.getElem?_map]; exact hu
  · cases hu
set_option maxRecDepth 100000 in
theorem elemSize (w : World) : (sizeOf (Tryz.prog.elem 25)).run Tryz.prog w = .ok 1 w := by
  obtain ⟨i0, hi, hz0, hz1, hz2⟩ := info_parts byteInfo
  rw [show Tryz.prog.elem 25 = 5 by kernel_rfl, run_sizeOf w hi]
  unfold Program.cellsOf
  rw [hi]
  simp [hz1]
set_option maxRecDepth 100000 in
theorem slice_from (w : World) (A : Option Addr) (n c p : Nat) (hp : p ≤ n) : (Instr.slice 25 (.slice A n c) (some (.int .i64 p)) none none).run Tryz.prog w = .ok (.slice (cutAddr A p c) (n - p) (c - p)) w := by
  rw [run_slice_l (P := Tryz.prog) (w := w) 25 A n c Tryz.underlying25 .i64 p (by omega) (by omega), elemSize]
  simp [Result.andThen, sliced, cutAddr]
set_option maxRecDepth 100000 in
theorem slice_both (w : World) (A : Option Addr) (n c p q : Nat) (hp : p ≤ q) (hq : q ≤ c) : (Instr.slice 25 (.slice A n c) (some (.int .i64 p)) (some (.int .i64 q)) none).run Tryz.prog w = .ok (.slice (cutAddr A p c) (q - p) (c - p)) w := by
  rw [run_slice_lh (P := Tryz.prog) (w := w) 25 A n c Tryz.underlying25 .i64 .i64 p q (by omega) (by omega) (by omega), elemSize]
  simp [Result.andThen, sliced, cutAddr]
end Go.Proofs.YtmhiekbpmoikfaaGreatDoor
namespace Go.Proofs.YtmhiekbpmoikfaaGreatDoor

/-- So many documents, and which of them are deleted. -/
structure DSt where
  n : Nat
  f : Nat → Bool
def dHas (s : DSt) (i : Int) : Bool := decide (0 ≤ i ∧ i < (s.n : Int)) && s.f i.toNat
def dCan (s : DSt) (i : Int) : Bool := decide (0 ≤ i ∧ i < (s.n : Int)) && !s.f i.toNat
def dSet (s : DSt) (i : Int) : DSt := ⟨s.n, fun k => s.f k || decide ((k : Int) = i)⟩
/-- What Add leaves. -/
def dAdd (s : DSt) (i : Int) : DSt := if dCan s i then dSet s i else s
def dMany (s : DSt) : Nat := (List.range s.n).countP s.f
def dLive (s : DSt) : List Int := ((List.range s.n).filter fun k => !s.f k).map Int.ofNat
/-- The first k bits of the byte at place j. -/
def bitsN (s : DSt) (j : Nat) : Nat → Nat
  | 0 => 0
  | k + 1 => bitsN s j k + if 8 * j + k < s.n ∧ s.f (8 * j + k) = true then 2 ^ k else 0
theorem bitsN_lt (s : DSt) (j : Nat) : ∀ k, bitsN s j k < 2 ^ k
  | 0 => by simp [bitsN]
  | k + 1 => by
    have := bitsN_lt s j k
    rw [bitsN, Nat.pow_succ]
    split <;> omega
theorem bitsN_bit (s : DSt) (j : Nat) : ∀ k i, i < k → (bitsN s j k).testBit i = (decide (8 * j + i < s.n) && s.f (8 * j + i))
  | 0, i, h => by omega
  | k + 1, i, h => by
    have hlt := bitsN_lt s j k
    rw [bitsN]
    by_cases hi : i < k
    · rw [← bitsN_bit s j k i hi]
      split
      · rw [Nat.add_comm, Nat.testBit_two_pow_add_gt hi]
      · rw [Nat.add_zero]
    · have hik : i = k := by omega
      subst hik
      split
      · rename_i hc
        rw [Nat.add_comm, Nat.testBit_two_pow_add_eq, Nat.testBit_lt_two_pow hlt, decide_eq_true hc.1, hc.2]
        rfl
      · rename_i hc
        rw [Nat.add_zero, Nat.testBit_lt_two_pow hlt]
        rw [eq_comm, Bool.and_eq_false_iff, decide_eq_false_iff_not]
        by_cases h1 : 8 * j + i < s.n
        · exact .inr (by cases hf : s.f (8 * j + i) with
            | false => rfl
            | true => exact absurd ⟨h1, hf⟩ hc)
        · exact .inl h1
def bitsB (s : DSt) : List UInt8 := (List.range ((s.n + 7) / 8)).map fun j => UInt8.ofNat (bitsN s j 8)
theorem bitsB_len (s : DSt) : (bitsB s).length = (s.n + 7) / 8 := by unfold bitsB; simp
theorem bitsB_at (s : DSt) {j : Nat} (h : j < (s.n + 7) / 8) : (bitsB s)[j]? = some (UInt8.ofNat (bitsN s j 8)) := by
  unfold bitsB
  rw [List.getElem?_map, List.getElem?_range h]
  rfl
def dBody (s : DSt) : List UInt8 := putL s.n ++ bitsB s
def dPut (s : DSt) : List UInt8 := putF (dBody s)
/-- Is a bit of bytes set? -/
def bitOf (b : List UInt8) (i : Nat) : Bool := (b.getD (i / 8) 0).toNat.testBit (i % 8)
/-- The number that a frame begins with, and the reader behind it. -/
def dNum (x : List UInt8) : Int := (rInt ⟨x, 0, 0⟩ 64).1
def dRd (x : List UInt8) : Rd := (rInt ⟨x, 0, 0⟩ 64).2
/-- What Get makes of a frame. -/
def dRead (x : List UInt8) : Option DSt :=
  if (dRd x).e ≠ 0 ∨ (rLeft (dRd x) : Int) ≠ (dNum x + 7) / 8 then none
  else if ((List.range 64).any fun i => decide ((dNum x).toNat ≤ i) && bitOf (x.drop (dRd x).p) i) = true then none
  else some ⟨(dNum x).toNat, bitOf (x.drop (dRd x).p)⟩
/-- What Get makes of bytes. -/
def dGet (b : List UInt8) : Option DSt :=
  if (allF b).2 ≠ 0 ∨ (allF b).1.length ≠ 1 then none else dRead ((allF b).1.getD 0 [])
theorem bitOf_put (s : DSt) (i : Nat) (h : i < (s.n + 7) / 8 * 8) : bitOf (bitsB s) i = (decide (i < s.n) && s.f i) := by
  unfold bitOf
  have hj : i / 8 < (s.n + 7) / 8 := by omega
  rw [List.getD_eq_getElem?_getD, bitsB_at s hj, Option.getD_some]
  have h1 := bitsN_lt s (i / 8) 8
  rw [UInt8.toNat_ofNat_of_lt' (by simpa using h1), bitsN_bit s (i / 8) 8 (i % 8) (by omega), show 8 * (i / 8) + i % 8 = i by omega]
theorem dMany_live (s : DSt) : (dLive s).length + dMany s = s.n := by
  unfold dLive dMany
  rw [List.length_map, ← List.countP_eq_length_filter]
  have h := List.length_eq_countP_add_countP s.f (l := List.range s.n)
  rw [List.length_range] at h
  have e : (List.range s.n).countP (fun k => !s.f k) = (List.range s.n).countP (fun a => decide ¬ s.f a = true) := by
    congr 1
    funext k
    cases s.f k <;> simp
  rw [e]
  omega
theorem dAdd_n (s : DSt) (i : Int) : (dAdd s i).n = s.n := by unfold dAdd dSet; split <;> rfl
theorem dAdd_has (s : DSt) (i j : Int) : dHas (dAdd s i) j = (dHas s j || (dCan s i && decide (j = i))) := by
  unfold dAdd
  cases hc : dCan s i with
  | false => simp
  | true =>
    simp only [if_true, Bool.true_and]
    unfold dHas dSet
    simp only
    unfold dCan at hc
    rw [Bool.and_eq_true, decide_eq_true_iff] at hc
    by_cases hj : 0 ≤ j ∧ j < (s.n : Int)
    · rw [decide_eq_true hj, Bool.true_and, Bool.true_and]
      congr 1
      rw [decide_eq_decide]
      omega
    · rw [decide_eq_false hj, Bool.false_and, Bool.false_and, Bool.false_or, eq_comm, decide_eq_false_iff_not]
      intro e
      exact hj (e ▸ hc.1)
end Go.Proofs.YtmhiekbpmoikfaaGreatDoor
namespace Go.Proofs.YtmhiekbpmoikfaaGreatDoor

theorem allAux_inv : ∀ (f : Nat) (c : List UInt8) (acc L : List (List UInt8)), allAux f c acc = (L, 0) → c.length ≤ f → ∃ R, L = acc ++ R ∧ c = R.flatMap putF ∧ Short R
  | 0, c, acc, L, h, hf => by
    simp only [allAux, Prod.mk.injEq, and_true] at h
    have : c = [] := List.eq_nil_of_length_eq_zero (by omega)
    subst h this
    exact ⟨[], by simp, rfl, fun x hx => by cases hx⟩
  | f + 1, c, acc, L, h, hf => by
    simp only [allAux] at h
    split at h
    · rename_i h0
      simp only [Prod.mk.injEq, and_true] at h
      have : c = [] := List.eq_nil_of_length_eq_zero h0
      subst h this
      exact ⟨[], by simp, rfl, fun x hx => by cases hx⟩
    · split at h
      · rename_i h1
        simp only [Prod.mk.injEq] at h
        exact absurd h.2 h1
      · rename_i h0 h1
        obtain ⟨x, m, e, hg⟩ : ∃ x m e, getF c = (x, m, e) := ⟨_, _, _, rfl⟩
        rw [hg] at h h1
        simp only at h h1
        have he : e = 0 := by omega
        subst he
        obtain ⟨g1, g2, g3, g4⟩ := getF_inv hg
        obtain ⟨R, r1, r2, r3⟩ := allAux_inv f (c.drop m) (acc ++ [x]) L h (by rw [List.length_drop]; omega)
        refine ⟨x :: R, by rw [r1]; simp, ?_, fun y hy => ?_⟩
        · rw [List.flatMap_cons, ← r2, ← g3, List.take_append_drop]
        · rcases List.mem_cons.1 hy with rfl | hy
          · exact g4
          · exact r3 y hy
theorem allF_inv {c : List UInt8} {L : List (List UInt8)} (h : allF c = (L, 0)) : c = L.flatMap putF ∧ Short L := by
  obtain ⟨R, h1, h2, h3⟩ := allAux_inv _ c [] L h (Nat.le_refl _)
  rw [List.nil_append] at h1
  subst h1
  exact ⟨h2, h3⟩
theorem dBody_len {s : DSt} (hn : s.n ≤ 64) : (dBody s).length ≤ 18 := by
  unfold dBody
  have := putL_len s.n (by omega)
  rw [List.length_append, bitsB_len]
  omega
/-- What a body's first number is, and what is left behind it. -/
theorem body_read {n : Nat} (hn : n ≤ 64) (r : List UInt8) : dNum (putL n ++ r) = (n : Int) ∧ dRd (putL n ++ r) = ⟨putL n ++ r, (putL n).length, 0⟩ := by
  have h : rInt ⟨putL n ++ r, 0, 0⟩ 64 = ((n : Int), ⟨putL n ++ r, (putL n).length, 0⟩) := by
    unfold rInt
    simp only
    rw [List.drop_zero, getL_put (by omega)]
    simp only
    rw [if_neg (by simp), if_neg (by simp), if_neg (by omega), Nat.zero_add]
  unfold dNum dRd
  rw [h]
  exact ⟨rfl, rfl⟩
theorem bitOf_out (b : List UInt8) (i : Nat) (h : b.length * 8 ≤ i) : bitOf b i = false := by
  unfold bitOf
  rw [List.getD_eq_getElem?_getD, List.getElem?_eq_none (by omega), Option.getD_none]
  simp
/-- What was put is read as it was. -/
theorem dRead_put {s : DSt} (hn : s.n ≤ 64) : dRead (dBody s) = some ⟨s.n, bitOf (bitsB s)⟩ := by
  obtain ⟨h1, h2⟩ := body_read hn (bitsB s)
  have hb := bitsB_len s
  unfold dRead
  rw [show dBody s = putL s.n ++ bitsB s from rfl, h1, h2]
  have hl : rLeft ⟨putL s.n ++ bitsB s, (putL s.n).length, 0⟩ = (s.n + 7) / 8 := by
    unfold rLeft
    rw [if_neg (by simp), List.length_append, hb]
    show (putL s.n).length + (s.n + 7) / 8 - (putL s.n).length = (s.n + 7) / 8
    omega
  rw [hl, if_neg (by simp), Int.toNat_natCast]
  simp only
  rw [List.drop_left, if_neg]
  rw [Bool.not_eq_true, List.any_eq_false]
  intro i hi
  rw [List.mem_range] at hi
  by_cases hin : s.n ≤ i
  · have : bitOf (bitsB s) i = false := by
      by_cases h8 : i < (s.n + 7) / 8 * 8
      · rw [bitOf_put s i h8, decide_eq_false (by omega)]
        rfl
      · exact bitOf_out _ _ (by rw [hb]; omega)
    simp [this]
  · simp [hin]
theorem dGet_put {s : DSt} (hn : s.n ≤ 64) : dGet (dPut s) = some ⟨s.n, bitOf (bitsB s)⟩ := by
  have h : allF (dPut s) = ([dBody s], 0) := by
    have := allF_put [dBody s] (fun x hx => by rw [List.mem_singleton.1 hx]; have := dBody_len hn; omega)
    simpa [dPut] using this
  unfold dGet
  rw [h]
  simp only
  rw [if_neg (by simp)]
  exact dRead_put hn
/-- Two states that are alike as far as there are documents. -/
def DSame (s t : DSt) : Prop := s.n = t.n ∧ ∀ i, i < s.n → s.f i = t.f i
theorem put_same (s : DSt) : DSame ⟨s.n, bitOf (bitsB s)⟩ s := ⟨rfl, fun i hi => by
  simp only at hi ⊢
  rw [bitOf_put s i (by omega), decide_eq_true hi, Bool.true_and]⟩
theorem DSame.bits {s t : DSt} (h : DSame s t) : bitsB s = bitsB t := by
  have key : ∀ j k, bitsN s j k = bitsN t j k := by
    intro j k
    induction k with
    | zero => rfl
    | succ k ih =>
      rw [bitsN, bitsN, ih, ← h.1]
      congr 1
      by_cases hk : 8 * j + k < s.n
      · rw [h.2 _ hk]
      · rw [if_neg (fun e => hk e.1), if_neg (fun e => hk e.1)]
  unfold bitsB
  rw [← h.1]
  exact List.map_congr_left fun j _ => by rw [key]
theorem DSame.put {s t : DSt} (h : DSame s t) : dPut s = dPut t := by
  unfold dPut dBody
  rw [h.bits, h.1]
theorem countP_same {f g : Nat → Bool} : ∀ n, (∀ i, i < n → f i = g i) → (List.range n).countP f = (List.range n).countP g ∧ (List.range n).filter (fun k => !f k) = (List.range n).filter fun k => !g k
  | n, h => ⟨List.countP_congr fun i hi => by rw [h i (List.mem_range.1 hi)], List.filter_congr fun i hi => by rw [h i (List.mem_range.1 hi)]⟩
theorem DSame.many {s t : DSt} (h : DSame s t) : dMany s = dMany t ∧ dLive s = dLive t := by
  obtain ⟨h1, h2⟩ := countP_same s.n h.2
  unfold dMany dLive
  rw [← h.1]
  exact ⟨h1, by rw [h2]⟩
/-- A byte is as its bits are. -/
theorem byte_bits {a b : UInt8} (h : ∀ k, k < 8 → a.toNat.testBit k = b.toNat.testBit k) : a = b := by
  have : a.toNat = b.toNat := by
    refine Nat.eq_of_testBit_eq fun k => ?_
    rcases Nat.lt_or_ge k 8 with hk | hk
    · exact h k hk
    · have h2 : 256 ≤ 2 ^ k := Nat.pow_le_pow_right (n := 2) (by omega) hk
      rw [Nat.testBit_lt_two_pow (by have := a.toNat_lt; omega), Nat.testBit_lt_two_pow (by have := b.toNat_lt; omega)]
  exact UInt8.toNat_inj.1 this
/-- What is read of any bytes has them as they stood. -/
theorem dGet_back {b : List UInt8} {s : DSt} (h : dGet b = some s) : dPut s = b ∧ s.n ≤ 64 := by
  unfold dGet at h
  split at h
  · cases h
  · rename_i h0
    obtain ⟨L, e, hA⟩ : ∃ L e, allF b = (L, e) := ⟨_, _, rfl⟩
    rw [hA] at h h0
    simp only at h h0
    have he : e = 0 := by omega
    subst he
    obtain ⟨x, rfl⟩ : ∃ x, L = [x] := by
      match L, h0 with
      | [], h0 => simp at h0
      | [x], _ => exact ⟨x, rfl⟩
      | _ :: _ :: _, h0 => simp at h0
    obtain ⟨hb, -⟩ := allF_inv hA
    rw [List.flatMap_singleton] at hb
    rw [show ([x] : List (List UInt8)).getD 0 [] = x from rfl] at h
    unfold dRead at h
    split at h
    · cases h
    · rename_i h1
      split at h
      · cases h
      · rename_i h2
        cases h
        have h1e : (dRd x).e = 0 := by omega
        have h1l : (rLeft (dRd x) : Int) = (dNum x + 7) / 8 := by omega
        -- the number
        obtain ⟨v, k, e, hg⟩ : ∃ v k e, getL x = (v, k, e) := ⟨_, _, _, rfl⟩
        have hr : rInt ⟨x, 0, 0⟩ 64 = if e ≠ 0 then (0, ⟨x, 0, e⟩) else if (64 : Int) < (v : Int) then (0, ⟨x, 0, 32⟩) else ((v : Int), ⟨x, k, 0⟩) := by
          unfold rInt
          simp only
          rw [List.drop_zero, hg]
          simp only [Nat.zero_add]
          rw [if_neg (by simp)]
          split
          · rfl
          · by_cases h6 : (64 : Int) < (v : Int)
            · rw [if_pos h6, if_pos (.inr h6)]
            · rw [if_neg h6, if_neg (by omega)]
        have hok : e = 0 ∧ ¬ (64 : Int) < (v : Int) := by
          unfold dRd at h1e
          rw [hr] at h1e
          split at h1e
          · rename_i h5; exact absurd h1e h5
          · rename_i h5
            split at h1e
            · cases h1e
            · rename_i h6; exact ⟨by omega, h6⟩
        obtain ⟨rfl, hv⟩ := hok
        rw [if_neg (by simp), if_neg hv] at hr
        have hN : dNum x = (v : Int) := by unfold dNum; rw [hr]
        have hR : dRd x = ⟨x, k, 0⟩ := by unfold dRd; rw [hr]
        obtain ⟨g1, g2, g3, g4, g5⟩ := getL_inv hg
        rw [hN, hR] at h1l h2
        rw [hN, hR, Int.toNat_natCast]
        rw [Int.toNat_natCast] at h2
        simp only at h2 ⊢
        have hrl : (x.drop k).length = (v + 7) / 8 := by
          rw [List.length_drop]
          unfold rLeft at h1l
          rw [if_neg (by simp)] at h1l
          simp only at h1l
          omega
        have hz : ∀ i, v ≤ i → bitOf (x.drop k) i = false := by
          intro i hi
          by_cases h64 : i < 64
          · rw [Bool.not_eq_true, List.any_eq_false] at h2
            have h3 := h2 i (List.mem_range.2 h64)
            rw [decide_eq_true hi, Bool.true_and] at h3
            simpa using h3
          · exact bitOf_out _ _ (by rw [hrl]; omega)
        have hbits : bitsB ⟨v, bitOf (x.drop k)⟩ = x.drop k := by
          refine List.ext_getElem? fun j => ?_
          by_cases hj : j < (v + 7) / 8
          · rw [bitsB_at _ hj, List.getElem?_eq_getElem (by rw [hrl]; exact hj)]
            refine congrArg some (byte_bits fun q hq => ?_)
            have hlt := bitsN_lt ⟨v, bitOf (x.drop k)⟩ j 8
            rw [UInt8.toNat_ofNat_of_lt' (by simpa using hlt), bitsN_bit _ _ _ _ hq]
            simp only
            have hbo : bitOf (x.drop k) (8 * j + q) = ((x.drop k)[j]'(by rw [hrl]; exact hj)).toNat.testBit q := by
              unfold bitOf
              rw [show (8 * j + q) / 8 = j by omega, show (8 * j + q) % 8 = q by omega, List.getD_eq_getElem?_getD, List.getElem?_eq_getElem (by rw [hrl]; exact hj), Option.getD_some]
            rw [hbo]
            by_cases hlt2 : 8 * j + q < v
            · rw [decide_eq_true hlt2, Bool.true_and]
            · have h9 := hz (8 * j + q) (by omega)
              rw [hbo] at h9
              rw [h9, Bool.and_false]
          · rw [List.getElem?_eq_none (by rw [bitsB_len]; exact Nat.le_of_not_lt hj), List.getElem?_eq_none (by rw [hrl]; omega)]
        refine ⟨?_, by omega⟩
        unfold dPut dBody
        rw [hbits, ← g4, List.take_append_drop, ← hb]
end Go.Proofs.YtmhiekbpmoikfaaGreatDoor
namespace Go.Proofs.YtmhiekbpmoikfaaGreatDoor
open Go.RowKit Go.Maps Go.WideMaps
set_option linter.unusedSimpArgs false

theorem and127_64 (m : Nat) (h : m < 18446744073709551616) : bits .and .u64 (m : Int) 127 = ((m % 128 : Nat) : Int) := by
  have := u64_and_nat m 127 h (by decide)
  rw [nat_mask7] at this
  exact this
theorem or128_64 (m : Nat) (h : m < 128) : bits .or .u64 (m : Int) 128 = ((m + 128 : Nat) : Int) := by
  have := u64_or_nat m 128 (by omega) (by decide)
  rw [Nat.or_comm, nat_join 7 128 m (by decide) (by omega), Nat.add_comm] at this
  exact this
theorem and127_8 (c : Nat) (h : c < 256) : bits .and .u8 (c : Int) 127 = ((c % 128 : Nat) : Int) := by
  have := u8_and_nat c 127 h (by decide)
  rw [nat_mask7] at this
  exact this
theorem shl_or (acc k c : Nat) (hacc : acc < 2 ^ (7 * k)) (hk : k ≤ 9) (h9 : k = 9 → c % 128 ≤ 1) :
    bits .or .u64 (acc : Int) (IntKind.u64.wrap ((c : Int) % 128 * 2 ^ (7 * k))) = ((acc + c % 128 * 2 ^ (7 * k) : Nat) : Int) := by
  have hp : 2 ^ (7 * k) ≤ 2 ^ 63 := Nat.pow_le_pow_right (by omega) (by omega)
  have hV : c % 128 * 2 ^ (7 * k) < 18446744073709551616 := by
    rcases Nat.lt_or_ge k 9 with h | h
    · have h1 : 2 ^ (7 * k) ≤ 2 ^ 56 := Nat.pow_le_pow_right (by omega) (by omega)
      have h2 := Nat.mul_le_mul (show c % 128 ≤ 127 by omega) h1
      omega
    · have h1 := Nat.mul_le_mul_right (2 ^ (7 * k)) (h9 (by omega))
      omega
  have e : IntKind.u64.wrap ((c : Int) % 128 * 2 ^ (7 * k)) = ((c % 128 * 2 ^ (7 * k) : Nat) : Int) := by
    have e1 : (c : Int) % 128 * 2 ^ (7 * k) = ((c % 128 * 2 ^ (7 * k) : Nat) : Int) := by simp
    rw [e1]
    simp only [IntKind.wrap, IntKind.bits, IntKind.signed]
    generalize c % 128 * 2 ^ (7 * k) = V at hV
    simp
    omega
  rw [e, u64_or_nat acc _ (by omega) hV, Nat.or_comm, nat_join (7 * k) _ acc (Nat.mul_mod_left _ _) hacc, Nat.add_comm]
def gotV (g : Nat × Nat × Int) : Value := .tuple #[.int .u64 g.1, .int .i64 g.2.1, .int .i64 g.2.2]
end Go.Proofs.YtmhiekbpmoikfaaGreatDoor
namespace Go.Proofs.YtmhiekbpmoikfaaGreatDoor
open Go.RowKit Go.Maps Go.WideMaps Go.ChangeShapes Go.WideShapes Go.ChangeAt Go.Deep

def i64V (n : Int) : Value := .int .i64 n
theorem i64V_one (l : List Int) : ∀ u ∈ l.map i64V, u.oneCell' = true := by
  intro u hu
  obtain ⟨x, _, rfl⟩ := List.mem_map.1 hu
  rfl
/-- A slice of integers that came in. -/
def IntsIn (w : World) (A : Option Addr) (n : Nat) (l : List Int) : Prop := n ≤ maxLen ∧ Src w A n (l.map i64V) ∧ (∀ x ∈ l, -9223372036854775808 ≤ x ∧ x ≤ 9223372036854775807) ∧ ∀ ad, A = some ad → 0 < n → ad.block < w.heap.size
theorem IntsIn.len {w : World} {A : Option Addr} {n : Nat} {l : List Int} (h : IntsIn w A n l) : l.length = n := by have := h.2.1.len; simpa using this
theorem IntsIn.below {w w' : World} {A : Option Addr} {n : Nat} {l : List Int} (h : IntsIn w A n l) (hb : Below w.heap.size w w') : IntsIn w' A n l :=
  ⟨h.1, h.2.1.keep fun ad e hn => hb.block _ (h.2.2.2 ad e hn), h.2.2.1, fun ad e hn => Nat.lt_of_lt_of_le (h.2.2.2 ad e hn) hb.size⟩
theorem IntsIn.drew {w : World} {A : Option Addr} {n : Nat} {l : List Int} (h : IntsIn w A n l) : IntsIn w.drew A n l := ⟨h.1, ⟨h.2.1.1, h.2.1.2, h.2.1.3⟩, h.2.2⟩
theorem IntsIn.own {w : World} {base : Nat} {e : TypeId} {A : Option Addr} {n c : Nat} {l : List Int} (h : w.ownsRow base e 1 (.slice A n c) n (l.map i64V)) (h63 : n ≤ maxLen) (hl : ∀ x ∈ l, -9223372036854775808 ≤ x ∧ x ≤ 9223372036854775807) : IntsIn w A n l :=
  ⟨h63, src_of_own h, hl, fun ad e _ => (h.lt ad.block (by rw [e]; rfl)).2⟩
/-- Where an element lies, and its bounds. -/
theorem IntsIn.at {w : World} {A : Option Addr} {n : Nat} {l : List Int} (h : IntsIn w A n l) (k : Nat) (hk : k < n) : ∃ ad x, A = some ad ∧ l[k]? = some x ∧ w.cell? (ad.add k) = some (.int .i64 x) ∧ -9223372036854775808 ≤ x ∧ x ≤ 9223372036854775807 := by
  have hl := h.len
  cases hA : A with
  | none => have := h.2.1.nil hA; omega
  | some ad =>
    subst hA
    have hx : l[k]? = some (l[k]'(by omega)) := List.getElem?_eq_getElem _
    have hb := h.2.2.1 _ (List.getElem_mem (h := (by omega : k < l.length)))
    exact ⟨ad, _, rfl, hx, h.2.1.cells ad rfl k (i64V (l[k]'(by omega))) (by rw [List.getElem?_map, hx]; rfl), hb.1, hb.2⟩
section
variable {H : Type} {enc : TypeId × Value → H} {w : World}
set_option maxRecDepth 100000 in
theorem ints_in {t e : TypeId} (ht : Tryz.prog.underlying t = some (.slice e)) (he : Tryz.prog.underlying e = some (.int .i64)) (hc : Tryz.prog.cellsOf e = 1) {A : Option Addr} {n c : Nat} {x : DataW H × List MemPlace} {fuel : Nat} {base : Nat} {spare : Nat → Bool} {held : Bool} (h : DataW.trod enc Tryz.prog w base spare held fuel t [.slice A n c] = some x) : ∃ l, IntsIn w A n l := by
  rcases open_ints ht he hc h with ⟨hcs, _⟩ | ⟨a, l, cp, zs, hcs, _, hl, hm, hz, _, hcell, hwz⟩
  · simp only [List.cons.injEq, Value.slice.injEq, and_true] at hcs
    obtain ⟨rfl, rfl, rfl⟩ := hcs
    exact ⟨[], by unfold maxLen; omega, ⟨rfl, (fun ad e => by cases e), fun _ => rfl⟩, by simp, fun ad e => by cases e⟩
  · simp only [List.cons.injEq, Value.slice.injEq, and_true] at hcs
    obtain ⟨rfl, rfl, rfl⟩ := hcs
    have hzl : n ≤ zs.length := by rw [hz]; split <;> omega
    refine ⟨zs.take n, by omega, ⟨by simp; omega, fun ad e j u hu => ?_, (fun e => by cases e)⟩, fun y hy => ?_, fun ad e hn => ?_⟩
    · injection e with e
      subst e
      rw [List.getElem?_map, List.getElem?_take] at hu
      split at hu
      · have hjz : j < zs.length := by omega
        rw [List.getElem?_eq_getElem hjz] at hu
        simp only [Option.map_some, Option.some.injEq] at hu
        rw [hcell j hjz, ← hu]
        simp [i64V, List.getElem?_eq_getElem hjz]
      · cases hu
    · have := hwz y (List.mem_of_mem_take hy)
      simp [Lit.wf, IntKind.min, IntKind.max, IntKind.signed, IntKind.bits] at this
      omega
    · injection e with e
      subst e
      have h0 := hcell 0 (by omega)
      have h1 : a.add 0 = a := by simp [Addr.add]
      rw [h1] at h0
      exact World.block_lt_of_cell? w a h0
end
/-- One integer in a new block, as a source. -/
theorem one_int_src (w : World) (e : TypeId) (x : Int) : Src (w.alloc (.cells #[.int .i64 x] e)) (some ⟨w.heap.size, 0, none⟩) 1 ([x].map i64V) := by
  refine ⟨rfl, fun ad e' j u hu => ?_, fun e' => by cases e'⟩
  cases e'
  have hj : j = 0 := by
    have := (List.getElem?_eq_some_iff.1 hu).1
    simp at this
    exact this
  subst hj
  rw [show (⟨w.heap.size, 0, none⟩ : Addr).add 0 = ⟨w.heap.size, 0, none⟩ by simp [Addr.add], cell_of_row _ w.heap.size 0 _ e (0, 0) (heap_alloc_new w _)]
  simpa [i64V] using hu
end Go.Proofs.YtmhiekbpmoikfaaGreatDoor
namespace Go.Proofs.YtmhiekbpmoikfaaGreatDoor
open Go.RowKit Go.Maps Go.WideMaps

theorem str_of {w : World} {A : Option Addr} {n : Nat} {x : Nm} (h : BytesIn w A n x) (c : Nat) : (convert 25 9 (.slice A n c)).run Tryz.prog w = .ok (.string ⟨x.toArray⟩) w := by
  have hl : x.length = n := by have := h.2.1.len; simpa using this
  cases A with
  | none =>
    have h0 := h.2.1.nil rfl
    have hx : x = [] := List.eq_nil_of_length_eq_zero (by omega)
    subst hx h0
    exact Lib.run_convert_nil_bytes w 25 9 5 c Tryz.underlying25 Tryz.underlying5 Tryz.underlying9
  | some ad =>
    have := run_convert_bytes_back (P := Tryz.prog) w 25 9 5 ad c x Tryz.underlying25 Tryz.underlying5 Tryz.underlying9 (fun j hj => by
      refine h.2.1.cells ad rfl j _ ?_
      rw [List.getElem?_map, List.getElem?_eq_getElem hj]
      simp [byteV])
    rw [hl] at this
    exact this
end Go.Proofs.YtmhiekbpmoikfaaGreatDoor
namespace Go.Proofs.YtmhiekbpmoikfaaGreatDoor
open Go.RowKit Go.Maps Go.WideMaps

set_option maxRecDepth 100000 in
theorem equal_any (w : World) (A B : Option Addr) (n m ca cb : Nat) (la lb : Nm) (ha : BytesIn w A n la) (hb : BytesIn w B m lb) :
    Calls Tryz.prog 118 #[.slice A n ca, .slice B m cb] w fun e w' => e = .returned (.bool (decide (la = lb))) ∧ w' = w := by
  have c1 := str_of ha ca
  have c2 := str_of hb cb
  clear ha hb
  by_cases h : la = lb
  · subst h
    rw [decide_eq_true rfl]
    go_enter Tryz.func118, Tryz.ntmps118
    go_wp2
    go_ret
    simp
  · have d1 : (la == lb) = false := by simpa using h
    rw [decide_eq_false h]
    go_enter Tryz.func118, Tryz.ntmps118
    go_wp2
    go_ret
    simp
end Go.Proofs.YtmhiekbpmoikfaaGreatDoor
namespace Go.Proofs.YtmhiekbpmoikfaaGreatDoor
open Go.RowKit Go.Maps Go.WideMaps

set_option maxHeartbeats 2000000 in
set_option maxRecDepth 100000 in
theorem clone_any (w : World) (A : Option Addr) (n c : Nat) (l : Nm) (hl : BytesIn w A n l) (hn : n ≤ 140737488355328) :
    Calls Tryz.prog 73 #[.slice A n c] w fun e w' => ∃ v, e = .returned v ∧ w'.ownsRow w.heap.size 5 1 v n (l.map byteV) ∧ Below w.heap.size w w' := by
  obtain ⟨i0, hi, hz0, hz1, hz2⟩ := info_parts byteInfo
  have q22 : ∀ (w : World) (a : Option Addr) (n c n' c' : Nat), (binOp .eql 25 (.slice a n c) (.slice none n' c')).run Tryz.prog w = .ok (.bool a.isNone) w := fun w a n c n' c' => Lib.run_eql_slice_nil w _ _ a n c n' c' Tryz.underlying25
  cases A with
  | none =>
    have h0 := hl.2.1.nil rfl
    have hx : l = [] := List.eq_nil_of_length_eq_zero (by have := hl.2.1.len; simp at this; omega)
    subst h0 hx
    clear hl
    go_enter Tryz.func73, Tryz.ntmps73
    go_wp2
    go_ret
    exact ⟨_, rfl, ⟨rfl, .inl ⟨rfl, rfl⟩⟩, Below.refl _ _⟩
  | some ad =>
    have HL := Lib.hid (BytesIn.below hl ((Below.refl _ w).alloc (Nat.le_refl _) (.cells #[] 5)))
    clear hl
    go_enter Tryz.func73, Tryz.ntmps73
    go_wp2_with (at_builtin; refine wpList_append_src _ rfl (.tmp 5) (.tmp 6) 25 rfl w.heap.size 5 i0 (.int .u8 0) 1 Tryz.underlying25 hi hz0 hz1 hz2 rfl _ 0 [] rfl (World.ownsRow_made w #[] 0 (Nat.le_refl _) (Nat.zero_le _) rfl) (some ad) n c (l.map byteV) rfl HL.out.2.1 (u8_one l) (by unfold maxLen; omega) (by omega) (by simp) ?_; intro v w2 hown hgrow hloc; rw [Nat.zero_add, List.nil_append] at hown; have HO := Lib.hid hown; have HB : Hid (Below w.heap.size w w2) := Lib.hid ((((Below.refl _ w).alloc (Nat.le_refl _) (.cells #[] 5)).grown hgrow (by simp) (fun k e => by cases e; exact Nat.le_refl _))); clear hown hgrow hloc)
    go_ret
    exact ⟨_, rfl, HO.out, HB.out⟩
end Go.Proofs.YtmhiekbpmoikfaaGreatDoor
