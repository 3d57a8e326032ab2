/- What is deleted: one more changes one bit; those that are left. -/
import Derived.Test.YtdmhaaplgkilpaaDlMath2
namespace Go.Proofs.Ytdmhaaplgkilpaa

/-- How many bits of a number are set. -/
def popN : Nat → Nat → Nat
  | 0, _ => 0
  | f + 1, x => x % 2 + popN f (x / 2)
theorem popN_zero : ∀ f, popN f 0 = 0
  | 0 => rfl
  | f + 1 => by rw [popN]; simpa using popN_zero f
theorem popN_two : ∀ k f, k < f → popN f (2 ^ k) = 1
  | 0, 0, h => by omega
  | 0, f + 1, _ => by
    rw [popN]
    simpa using popN_zero f
  | k + 1, 0, h => by omega
  | k + 1, f + 1, h => by
    rw [popN, Nat.pow_succ, Nat.mul_mod_left, Nat.mul_div_cancel _ (by omega), popN_two k f (by omega)]
theorem can_iff {s : DSt} {i : Int} (h : dCan s i = true) : ∃ I : Nat, i = I ∧ I < s.n ∧ s.f I = false := by
  unfold dCan at h
  rw [Bool.and_eq_true, decide_eq_true_iff] at h
  exact ⟨i.toNat, by omega, by omega, by simpa using h.2⟩
/-- What one more changes. -/
theorem set_bits {s : DSt} {I : Nat} (hI : I < s.n) (hf : s.f I = false) (j : Nat) : bitsN s j 8 ^^^ bitsN (dSet s I) j 8 = if j = I / 8 then 2 ^ (I % 8) else 0 := by
  refine Nat.eq_of_testBit_eq fun k => ?_
  rw [Nat.testBit_xor]
  rcases Nat.lt_or_ge k 8 with hk | hk
  · rw [bitsN_bit s j 8 k hk, bitsN_bit (dSet s I) j 8 k hk]
    have hd : (dSet s I).f (8 * j + k) = (s.f (8 * j + k) || decide (8 * j + k = I)) := by
      unfold dSet
      simp only
      congr 1
      rw [decide_eq_decide]
      omega
    rw [hd, show (dSet s I).n = s.n from rfl]
    by_cases he : 8 * j + k = I
    · rw [he, decide_eq_true hI, hf, if_pos (by omega), Nat.testBit_two_pow]
      simp
      omega
    · rw [decide_eq_false he, Bool.or_false, Bool.xor_self]
      split
      · rw [Nat.testBit_two_pow, eq_comm, decide_eq_false_iff_not]
        omega
      · rw [Nat.zero_testBit]
  · have h1 := bitsN_lt s j 8
    have h2 := bitsN_lt (dSet s I) j 8
    have h3 : 2 ^ 8 ≤ 2 ^ k := Nat.pow_le_pow_right (by omega) hk
    rw [Nat.testBit_lt_two_pow (by omega), Nat.testBit_lt_two_pow (by omega), Bool.xor_self]
    split
    · rw [Nat.testBit_two_pow, eq_comm, decide_eq_false_iff_not]
      omega
    · rw [Nat.zero_testBit]
/-- How unlike the bodies are, up to a place. -/
def unlikeTo (a b : List UInt8) : Nat → Nat
  | 0 => 0
  | k + 1 => unlikeTo a b k + popN 8 ((a.getD k 0).toNat ^^^ (b.getD k 0).toNat)
theorem unlike_same (a : List UInt8) : ∀ k, unlikeTo a a k = 0
  | 0 => rfl
  | k + 1 => by rw [unlikeTo, unlike_same a k, Nat.xor_self, popN_zero]
theorem bits_unlike {s : DSt} {I : Nat} (hI : I < s.n) (hf : s.f I = false) : ∀ k, k ≤ (s.n + 7) / 8 → unlikeTo (bitsB s) (bitsB (dSet s I)) k = if I / 8 < k then 1 else 0
  | 0, _ => by simp [unlikeTo]
  | k + 1, hk => by
    have ih := bits_unlike hI hf k (by omega)
    have h1 := bitsN_lt s k 8
    have h2 := bitsN_lt (dSet s I) k 8
    rw [unlikeTo, ih, List.getD_eq_getElem?_getD, List.getD_eq_getElem?_getD, bitsB_at s (by omega), bitsB_at (dSet s I) (by show k < (s.n + 7) / 8; omega), Option.getD_some, Option.getD_some,
      UInt8.toNat_ofNat_of_lt' (by simpa using h1), UInt8.toNat_ofNat_of_lt' (by simpa using h2), set_bits hI hf k]
    by_cases he : k = I / 8
    · rw [if_pos he, popN_two _ 8 (by omega), if_neg (by omega), if_pos (by omega)]
    · rw [if_neg he, popN_zero, Nat.add_zero]
      by_cases hl : I / 8 < k
      · rw [if_pos hl, if_pos (by omega)]
      · rw [if_neg hl, if_neg (by omega)]
theorem putL_one {n : Nat} (h : n < 128) : putL n = [UInt8.ofNat n] := by
  unfold putL
  rw [dif_pos h]
/-- Where a short frame's content stands. -/
theorem putF_one {b : List UInt8} (h : b.length < 128) : (putF b).length = 5 + b.length ∧ ∀ k, (putF b)[5 + k]? = b[k]? := by
  have h1 : (putL b.length).length = 1 := by rw [putL_one h]; rfl
  refine ⟨by rw [putF_len, h1], fun k => ?_⟩
  unfold putF
  rw [List.getElem?_append_right (by omega), h1, List.getElem?_append_right (by rw [le4_len]; omega), le4_len]
  congr 1
  omega
theorem dPut_one {s : DSt} (hn : s.n ≤ 64) : (dPut s).length = 6 + (s.n + 7) / 8 ∧ (dPut s)[5]? = some (UInt8.ofNat s.n) ∧ ∀ k, (dPut s)[6 + k]? = (bitsB s)[k]? := by
  have hb := dBody_len hn
  obtain ⟨h1, h2⟩ := putF_one (b := dBody s) (by omega)
  have hp : putL s.n = [UInt8.ofNat s.n] := putL_one (by omega)
  have hd : dBody s = UInt8.ofNat s.n :: bitsB s := by unfold dBody; rw [hp]; rfl
  unfold dPut
  refine ⟨by rw [h1, hd, List.length_cons, bitsB_len]; omega, by have := h2 0; rw [hd] at this; rw [hd]; simpa using this, fun k => ?_⟩
  have := h2 (k + 1)
  rw [show 5 + (k + 1) = 6 + k by omega, hd] at this
  rw [hd, this]
  rfl
theorem live_mem {s : DSt} {x : Int} : x ∈ dLive s ↔ 0 ≤ x ∧ x < (s.n : Int) ∧ s.f x.toNat = false := by
  unfold dLive
  rw [List.mem_map]
  constructor
  · rintro ⟨k, h1, rfl⟩
    rw [List.mem_filter, List.mem_range] at h1
    exact ⟨Int.natCast_nonneg k, by show (k : Int) < _; omega, by simpa using h1.2⟩
  · rintro ⟨h1, h2, h3⟩
    exact ⟨x.toNat, List.mem_filter.2 ⟨List.mem_range.2 (by omega), by simp [h3]⟩, by show ((x.toNat : Nat) : Int) = x; omega⟩
theorem live_up (s : DSt) : (dLive s).Pairwise (· < ·) := by
  unfold dLive
  rw [List.pairwise_map]
  exact (List.pairwise_lt_range.filter _).imp fun {a b} h => by show (a : Int) < (b : Int); omega
theorem live_has {s : DSt} {x : Int} (h : x ∈ dLive s) : dHas s x = false := by
  obtain ⟨h1, h2, h3⟩ := live_mem.1 h
  unfold dHas
  rw [h3, Bool.and_false]
/-- One more is one live document fewer. -/
theorem many_set {s : DSt} {I : Nat} (hI : I < s.n) (hf : s.f I = false) : dMany (dSet s I) = dMany s + 1 := by
  unfold dMany
  rw [show (dSet s I).n = s.n from rfl]
  have key : ∀ n, (List.range n).countP (dSet s I).f = (List.range n).countP s.f + if I < n then 1 else 0 := by
    intro n
    induction n with
    | zero => simp
    | succ n ih =>
      rw [List.range_succ, List.countP_append, List.countP_append, ih]
      have hd : (dSet s I).f n = (s.f n || decide (n = I)) := by
        unfold dSet
        simp only
        congr 1
        rw [decide_eq_decide]
        omega
      simp only [List.countP_singleton, hd]
      by_cases he : n = I
      · subst he
        rw [hf]
        simp
      · rw [decide_eq_false he, Bool.or_false]
        by_cases hl : I < n
        · simp only [if_pos hl, if_pos (show I < n + 1 by omega)]
          split <;> omega
        · simp only [if_neg hl, if_neg (show ¬ I < n + 1 by omega)]
          split <;> omega
  rw [key, if_pos hI]
/-- All that is asked to be deleted, one behind the other. -/
def dUp (s : DSt) (l : List Int) : Nat → DSt
  | 0 => s
  | k + 1 => dAdd (dUp s l k) (l.getD k 0)
theorem dUp_n (s : DSt) (l : List Int) : ∀ k, (dUp s l k).n = s.n
  | 0 => rfl
  | k + 1 => by rw [dUp, dAdd_n, dUp_n s l k]
def dNew (n : Nat) : DSt := ⟨n, fun _ => false⟩
theorem has_add (s : DSt) (i j : Int) : dHas (dAdd s i) j = (dHas s j || decide (0 ≤ j ∧ j < (s.n : Int) ∧ j = i)) := by
  rw [dAdd_has]
  by_cases hj : 0 ≤ j ∧ j < (s.n : Int)
  · by_cases he : j = i
    · subst he
      unfold dHas dCan
      rw [decide_eq_true hj, decide_eq_true (show 0 ≤ j ∧ j < (s.n : Int) ∧ j = j from ⟨hj.1, hj.2, rfl⟩)]
      cases s.f j.toNat <;> simp
    · rw [decide_eq_false he, Bool.and_false, decide_eq_false (fun h => he h.2.2)]
  · rw [decide_eq_false (show ¬ (0 ≤ j ∧ j < (s.n : Int) ∧ j = i) from fun h => hj ⟨h.1, h.2.1⟩)]
    by_cases he : j = i
    · subst he
      unfold dCan
      rw [decide_eq_false hj]
      simp
    · rw [decide_eq_false he, Bool.and_false]
theorem has_up (s : DSt) (l : List Int) (j : Int) : ∀ k, k ≤ l.length → dHas (dUp s l k) j = (dHas s j || decide (0 ≤ j ∧ j < (s.n : Int) ∧ j ∈ l.take k))
  | 0, _ => by simp [dUp]
  | k + 1, hk => by
    rw [dUp, has_add, has_up s l j k (by omega), dUp_n, Bool.or_assoc]
    congr 1
    have e : l.take (k + 1) = l.take k ++ [l.getD k 0] := by
      rw [List.take_add_one, List.getD_eq_getElem?_getD, List.getElem?_eq_getElem (by omega)]
      rfl
    rw [e, Bool.eq_iff_iff]
    simp only [Bool.or_eq_true, decide_eq_true_iff, List.mem_append, List.mem_singleton]
    constructor
    · rintro (⟨h1, h2, h3⟩ | ⟨h1, h2, h3⟩)
      · exact ⟨h1, h2, .inl h3⟩
      · exact ⟨h1, h2, .inr h3⟩
    · rintro ⟨h1, h2, h3 | h3⟩
      · exact .inl ⟨h1, h2, h3⟩
      · exact .inr ⟨h1, h2, h3⟩
end Go.Proofs.Ytdmhaaplgkilpaa
