/- The landed dels: Has. -/
import Derived.Test.YtdmhaaplgkilpaaDpMem
import Derived.Deep.QuietTactic
namespace Go.Proofs.Ytdmhaaplgkilpaa
open Go.RowKit Go.Maps Go.WideMaps
set_option linter.unusedSimpArgs false

/-- One bit of a byte, as the walk asks for it. -/
theorem bit_test (x : UInt8) (k : Nat) (hk : k < 8) : (bits .and .u8 (x.toNat : Int) ((2 ^ k : Nat) : Int) != 0) = x.toNat.testBit k := by
  have hx := x.toNat_lt
  rw [u8_and_nat x.toNat (2 ^ k) (by omega) (by have : 2 ^ k ≤ 2 ^ 7 := Nat.pow_le_pow_right (by omega) (by omega); omega)]
  rw [nat_bit, Nat.testBit_eq_decide_div_mod_eq]
  have hp : 0 < 2 ^ k := Nat.two_pow_pos k
  have h2 : x.toNat / 2 ^ k % 2 = 0 ∨ x.toNat / 2 ^ k % 2 = 1 := by omega
  rcases h2 with h2 | h2
  · rw [h2]
    simp
  · rw [h2, Nat.one_mul, decide_eq_true rfl, bne_iff_ne]
    omega

set_option maxHeartbeats 8000000 in
set_option maxRecDepth 100000 in
theorem dpHas_any {w : World} {b n : Nat} {l : List UInt8} (h : IsB w b n l) (i : Int) (hi : fits64 i) :
    Calls Try.prog 18 #[.pointer (some ⟨b, 0, none⟩), .int .i64 i] w fun e w' => e = .returned (.bool (dHas ⟨n, bitOf l⟩ i)) ∧ ∃ q, w' = w.drewN q := by
  have HH := Lib.hid h
  have hn := h.few
  obtain ⟨t, ht⟩ : ∃ t, t = decide (0 ≤ i ∧ i < (n : Int)) := ⟨_, rfl⟩
  have HT : Hid (∀ q, Calls Try.prog 31 #[.pointer (some ⟨b, 0, none⟩), .int .i64 i] (w.drewN q) fun e w' => e = .returned (.bool t) ∧ w' = w.drewN q) := Lib.hid (fun q => by rw [ht]; exact dpThere_any (HH.out.drewN q) i)
  clear h
  cases t with
  | false =>
    have hr : dHas ⟨n, bitOf l⟩ i = false := by unfold dHas; simp only; rw [← ht]; rfl
    rw [hr]
    clear ht hr
    go_enter Try.func18, Try.ntmps18
    go_wp2_with fail
    go_quiet (first | (go_at_call 31; refine Calls.quiet_of_same (HT.out _)))
    go_wp2
    go_ret
    exact ⟨rfl, _, rfl⟩
  | true =>
    obtain ⟨h0, h1⟩ := of_decide_eq_true ht.symm
    obtain ⟨I, rfl⟩ := Int.eq_ofNat_of_zero_le h0
    have hI : I < n := by omega
    have hr : dHas ⟨n, bitOf l⟩ I = (l.getD (I / 8) 0).toNat.testBit (I % 8) := by unfold dHas bitOf; simp only; rw [← ht, Bool.true_and, Int.toNat_natCast]
    have hb := bit_test (l.getD (I / 8) 0) (I % 8) (by omega)
    have hc := HH.out.cb (I / 8) (by omega)
    rw [hr]
    obtain ⟨x, hx⟩ : ∃ x, x = l.getD (I / 8) 0 := ⟨_, rfl⟩
    rw [← hx] at hb hc ⊢
    have hx8 := x.toNat_lt
    obtain ⟨P, hP⟩ : ∃ P, P = 2 ^ (I % 8) := ⟨_, rfl⟩
    have hP8 : P < 256 := by have : 2 ^ (I % 8) ≤ 2 ^ 7 := Nat.pow_le_pow_right (by omega) (by omega); omega
    rw [← hP] at hb
    obtain ⟨r, hr2⟩ : ∃ r, r = x.toNat.testBit (I % 8) := ⟨_, rfl⟩
    rw [← hr2] at hb ⊢
    have HB : Hid (∀ q, Calls Try.prog 32 #[.int .i64 I] (w.drewN q) fun e w' => e = .returned (.int .u8 (P : Int)) ∧ w' = w.drewN q) := Lib.hid (fun q => by rw [hP]; exact dpBit_any _ I (by omega))
    have hc2 : ∀ q, (w.drewN q).cell? ⟨b, 1 + I / 8, none⟩ = some (.int .u8 x.toNat) := fun _ => hc
    clear ht hr hx hr2 h0 h1 hP
    go_enter Try.func18, Try.ntmps18
    go_wp2_with fail
    go_quiet (first | (go_at_call 31; refine Calls.quiet_of_same (HT.out _)) | (go_at_call 32; refine Calls.quiet_of_same (HB.out _)))
    go_wp2
    go_ret
    exact ⟨rfl, _, rfl⟩
end Go.Proofs.Ytdmhaaplgkilpaa
