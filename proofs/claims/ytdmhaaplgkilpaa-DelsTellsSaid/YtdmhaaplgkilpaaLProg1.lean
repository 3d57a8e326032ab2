/- The contracts of the program's add and Put. -/
import Derived.Test.YtdmhaaplgkilpaaLWords
namespace Go.Proofs.Ytdmhaaplgkilpaa
open Go.RowKit Go.Maps Go.WideMaps

theorem or128_8 (m : Nat) (h : m < 256) : bits .or .u8 (m : Int) 128 = ((m % 128 + 128 : Nat) : Int) := by
  have h1 := u8_or_nat m 128 h (by decide)
  have h2 : ∀ m : Fin 256, m.val ||| 128 = m.val % 128 + 128 := by decide +kernel
  rw [h2 ⟨m, h⟩] at h1
  exact h1

set_option maxHeartbeats 4000000 in
set_option maxRecDepth 100000 in
theorem lAdd_any (w : World) (base : Nat) (hbase : base ≤ w.heap.size) (v0 : Value) (ys : Nm) (hy : ys.length ≤ 70368744177664) (h0 : w.ownsRow base 5 1 v0 ys.length (ys.map byteV)) (n : Nat) (hn : n < 18446744073709551616) :
    Calls Try.prog 43 #[v0, .int .u64 n] w fun e w' => ∃ v, e = .returned v ∧ w'.ownsRow base 5 1 v (ys ++ putL n).length ((ys ++ putL n).map byteV) ∧ Below base w w' := by
  obtain ⟨i0, hi, hz0, hz1, hz2⟩ := info_parts byteInfo
  have H0 := Lib.hid h0
  obtain ⟨Z, hZ⟩ : ∃ Z, Z = ys ++ putL n := ⟨_, rfl⟩
  rw [← hZ]
  have HZ := Lib.hid hZ
  clear h0 hZ
  go_enter Try.func43, Try.ntmps43
  go_wp2
  go_loopw [0, 1] (fun v s wr => ∃ (m : Nat) (xs : Nm), s = .int .u64 m ∧ m ≤ n ∧ xs ++ putL m = Z ∧ Below base w wr ∧ wr.ownsRow base 5 1 v xs.length (xs.map byteV)) (fun _ s _ => (intOf s).toNat)
  case atStart => exact ⟨n, ys, rfl, Nat.le_refl _, HZ.out.symm, Below.refl _ _, H0.out⟩
  case round =>
    obtain ⟨m, xs, rfl, hm, hx, hB, hO⟩ := hrel
    have HX := Lib.hid hx
    have HB := Lib.hid hB
    have HO := Lib.hid hO
    have hsb : base ≤ wr.heap.size := Nat.le_trans hbase hB.size
    clear hx hB hO
    have hlen : xs.length ≤ ys.length + 10 := by
      have h1 := putL_len n (by omega)
      have h2 := congrArg List.length (HX.out.trans HZ.out)
      simp only [List.length_append] at h2
      omega
    obtain ⟨Av, cv, hv⟩ := own_slice HO.out
    subst hv
    rcases Nat.lt_or_ge m 128 with hs | hb
    · have hsz : ¬ (m : Int) ≥ 128 := by omega
      obtain ⟨x, rfl⟩ : ∃ x : UInt8, m = x.toNat := ⟨UInt8.ofNat m, (ofNat_toNat (by omega)).symm⟩
      have hmz : (x.toNat : Int) % 256 = (x.toNat : Int) := by omega
      have hfin : Z = xs ++ [x] := by rw [← HX.out, putL_small hs]; simp
      have HF := Lib.hid hfin
      clear hfin
      go_wp2_with (at_builtin; refine wpList_append_src _ rfl (.tmp 15) (.tmp 18) 23 rfl base 5 i0 (.int .u8 0) 1 Try.underlying23 hi hz0 hz1 hz2 rfl _ xs.length _ rfl (own_alloc HO.out _) _ 1 1 _ rfl (one_src wr x) (u8_one [x]) (by unfold maxLen; omega) (by omega) (by simp; omega) ?_; intro v w2 hown hgrow _; have HO2 := Lib.hid hown; have HB2 := Lib.hid ((HB.out.alloc hsb _).grown hgrow (by simp; omega) (fun g hg => (HO.out.lt g hg).1)); clear hown hgrow)
      go_ret
      refine ⟨_, rfl, ?_, HB2.out⟩
      rw [HF.out, List.length_append, List.map_append]
      exact HO2.out
    · have hbz : (m : Int) ≥ 128 := by omega
      obtain ⟨q, hq⟩ : ∃ q, q = m % 256 := ⟨_, rfl⟩
      have h1 : (m : Int) % 256 = (q : Int) := by omega
      obtain ⟨x, hxq⟩ : ∃ x, x = UInt8.ofNat (q % 128 + 128) := ⟨_, rfl⟩
      have h2 : bits .or .u8 (q : Int) 128 = (x.toNat : Int) := by
        rw [or128_8 q (by omega), hxq, ofNat_toNat (by omega)]
      have hnx : (xs ++ [x]) ++ putL (m / 128) = Z := by
        rw [← HX.out, putL_big (n := m) (by omega), hxq, hq, List.append_assoc, show m % 256 % 128 = m % 128 by omega]
        rfl
      have HN := Lib.hid hnx
      clear hnx hxq hq
      go_wp2_with (at_builtin; refine wpList_append_src _ rfl (.tmp 9) (.tmp 13) 23 rfl base 5 i0 (.int .u8 0) 1 Try.underlying23 hi hz0 hz1 hz2 rfl _ xs.length _ rfl (own_alloc HO.out _) _ 1 1 _ rfl (one_src wr x) (u8_one [x]) (by unfold maxLen; omega) (by omega) (by simp; omega) ?_; intro v w2 hown hgrow _)
      have HO2 := Lib.hid hown
      have HB2 := Lib.hid ((HB.out.alloc hsb _).grown hgrow (by simp; omega) (fun g hg => (HO.out.lt g hg).1))
      clear hown hgrow
      refine ⟨⟨m / 128, xs ++ [x], by go_num, by omega, HN.out, HB2.out, ?_⟩, ?_⟩
      · rw [List.length_append, List.map_append]
        exact HO2.out
      · simp [intOf]
        omega

set_option maxHeartbeats 4000000 in
set_option maxRecDepth 100000 in
theorem lPut_any (w : World) (n : Nat) (hn : n < 18446744073709551616) :
    Calls Try.prog 35 #[.int .u64 n] w fun e w' => ∃ v, e = .returned v ∧ w'.ownsRow w.heap.size 5 1 v (putL n).length ((putL n).map byteV) ∧ Below w.heap.size w w' := by
  go_enter Try.func35, Try.ntmps35
  go_wp2_with fail
  refine (lAdd_any w w.heap.size (Nat.le_refl _) (.slice none 0 0) [] (by simp) ⟨rfl, .inl ⟨rfl, rfl⟩⟩ n hn).mono ?_
  rintro e w1 ⟨v, rfl, hO, hB⟩
  have HO := Lib.hid hO
  have HB := Lib.hid hB
  clear hO hB
  go_wp2
  go_ret
  exact ⟨v, rfl, by simpa using HO.out, HB.out⟩
end Go.Proofs.Ytdmhaaplgkilpaa
