/- Names of files: unlike for unlike numbers, and such as a disk takes. -/
import Derived.Test.YtmhiekbpmoikfaaGreatDoorZp12
namespace Go.Proofs.YtmhiekbpmoikfaaGreatDoor

def digVal (l : List UInt8) : Nat := l.foldl (fun a d => 10 * a + (d.toNat - 48)) 0
theorem digVal_snoc (l : List UInt8) (d : UInt8) : digVal (l ++ [d]) = 10 * digVal l + (d.toNat - 48) := by simp [digVal]
theorem dig_toNat {k : Nat} (h : k < 10) : (UInt8.ofNat (48 + k)).toNat = 48 + k := UInt8.toNat_ofNat_of_lt' (by show 48 + k < 256; omega)
theorem digVal_dec (u : Nat) : digVal (Lib.decDigits u) = u := by
  induction u using Nat.strongRecOn with
  | ind u ih =>
    rw [Lib.decDigits.eq_1]
    by_cases h : u < 10
    · rw [dif_pos h]
      show 10 * 0 + ((UInt8.ofNat (48 + u)).toNat - 48) = u
      rw [dig_toNat h]
      omega
    · rw [dif_neg h, digVal_snoc, ih (u / 10) (by omega), dig_toNat (Nat.mod_lt _ (by omega))]
      omega
theorem dig_ok {k : Nat} (h : k < 10) : okByte (UInt8.ofNat (48 + k)).toNat = true := by
  rw [dig_toNat h]
  have : ∀ j : Nat, j < 10 → okByte (48 + j) = true := by decide
  exact this k h
theorem dec_ok (u : Nat) : ∀ d ∈ Lib.decDigits u, okByte d.toNat = true := by
  induction u using Nat.strongRecOn with
  | ind u ih =>
    rw [Lib.decDigits.eq_1]
    by_cases h : u < 10
    · rw [dif_pos h]
      intro d hd
      rw [List.mem_singleton.1 hd]
      exact dig_ok h
    · rw [dif_neg h]
      intro d hd
      rcases List.mem_append.1 hd with hd | hd
      · exact ih (u / 10) (by omega) d hd
      · rw [List.mem_singleton.1 hd]
        exact dig_ok (Nat.mod_lt _ (by omega))
theorem itoa_nat (n : Nat) : Lib.itoa (n : Int) = Lib.decDigits n := by unfold Lib.itoa; rw [if_neg (by omega)]; simp
theorem nameN_inj {c : UInt8} {a b : Nat} (h : nameN c (a : Int) = nameN c (b : Int)) : a = b := by
  unfold nameN at h
  rw [itoa_nat, itoa_nat] at h
  have h1 : Lib.decDigits a = Lib.decDigits b := by injection h with _ h; injection h with _ h
  have := congrArg digVal h1
  rwa [digVal_dec, digVal_dec] at this
theorem nameN_ok {c : UInt8} (hc : okByte c.toNat = true) {n : Nat} (hn : n < 9223372036854775808) : okName (nameN c (n : Int)) = true := by
  have hl := Lib.itoa_length_le (n : Int) (by omega) (by omega)
  have hd : ∀ d ∈ Lib.itoa (n : Int), okByte d.toNat = true := by rw [itoa_nat]; exact dec_ok n
  unfold okName nameN
  simp only [List.length_cons, List.all_cons, Bool.and_eq_true, decide_eq_true_eq]
  refine ⟨⟨by omega, by omega⟩, hc, by decide, List.all_eq_true.2 hd⟩
theorem nameN_len {c : UInt8} {n : Nat} (hn : n < 9223372036854775808) : 3 ≤ (nameN c (n : Int)).length ∧ (nameN c (n : Int)).length ≤ 24 := by
  have hl := Lib.itoa_length_le (n : Int) (by omega) (by omega)
  have h0 : 1 ≤ (Lib.itoa (n : Int)).length := by
    rw [itoa_nat, Lib.decDigits.eq_1]
    split
    · simp
    · simp
  unfold nameN
  simp only [List.length_cons]
  omega
end Go.Proofs.YtmhiekbpmoikfaaGreatDoor
