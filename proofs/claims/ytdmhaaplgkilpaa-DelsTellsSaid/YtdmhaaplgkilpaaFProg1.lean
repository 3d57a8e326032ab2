/- The contracts of the program's sumBytes and Put. -/
import Derived.Test.YtdmhaaplgkilpaaFRef2
import Derived.Test.YtdmhaaplgkilpaaLProg1
import Derived.Test.YtdmhaaplgkilpaaLProg2
import Derived.Test.YtdmhaaplgkilpaaCMore
namespace Go.Proofs.Ytdmhaaplgkilpaa
open Go.RowKit Go.Maps Go.WideMaps

set_option maxHeartbeats 4000000 in
set_option maxRecDepth 100000 in
theorem fSumBytes_any (w : World) (A : Option Addr) (n c : Nat) (l : Nm) (hl : BytesIn w A n l) :
    Calls Try.prog 39 #[.slice A n c] w fun e w' => ∃ B, e = .returned (.slice (some B) 4 4) ∧ w.heap.size ≤ B.block ∧ BytesIn w' (some B) 4 (le4 (sumN l)) ∧ Below w.heap.size w w' := by
  have HL := Lib.hid hl
  clear hl
  obtain ⟨s, hs⟩ : ∃ s, s = sumN l := ⟨_, rfl⟩
  have hs32 : s < 4294967296 := by rw [hs]; exact sumN_lt l
  obtain ⟨x0, h0⟩ : ∃ x, x = UInt8.ofNat (s % 256) := ⟨_, rfl⟩
  obtain ⟨x1, h1⟩ : ∃ x, x = UInt8.ofNat (s / 256 % 256) := ⟨_, rfl⟩
  obtain ⟨x2, h2⟩ : ∃ x, x = UInt8.ofNat (s / 65536 % 256) := ⟨_, rfl⟩
  obtain ⟨x3, h3⟩ : ∃ x, x = UInt8.ofNat (s / 16777216 % 256) := ⟨_, rfl⟩
  have z0 : (s : Int) % 256 = (x0.toNat : Int) := by rw [h0, ofNat_toNat (by omega)]; omega
  have z1 : (s : Int) / 256 % 256 = (x1.toNat : Int) := by rw [h1, ofNat_toNat (by omega)]; omega
  have z2 : (s : Int) / 65536 % 256 = (x2.toNat : Int) := by rw [h2, ofNat_toNat (by omega)]; omega
  have z3 : (s : Int) / 16777216 = (x3.toNat : Int) := by rw [h3, ofNat_toNat (by omega)]; omega
  have HP : Hid (le4 (sumN l) = [x0, x1, x2, x3]) := Lib.hid (by unfold le4; rw [← hs, ← h0, ← h1, ← h2, ← h3])
  have HS := Lib.hid hs
  clear hs h0 h1 h2 h3
  go_enter Try.func39, Try.ntmps39
  go_wp2_with fail
  refine (sum_any w A n c l HL.out).mono ?_
  rintro e w1 ⟨rfl, hb⟩
  rw [← HS.out]
  have B1 := Lib.hid hb
  clear hb
  go_wp2
  go_ret
  refine ⟨_, rfl, B1.out.size, ?_, B1.out.alloc B1.out.size _⟩
  rw [HP.out]
  exact const_in w1 [x0, x1, x2, x3] (0, 0) (by unfold maxLen; simp)

set_option maxHeartbeats 4000000 in
set_option maxRecDepth 100000 in
theorem fPut_any (w : World) (A : Option Addr) (n c : Nat) (l : Nm) (hl : BytesIn w A n l) (hn : n ≤ 1099511627776) :
    Calls Try.prog 34 #[.slice A n c] w fun e w' => ∃ v, e = .returned v ∧ w'.ownsRow w.heap.size 5 1 v (putF l).length ((putF l).map byteV) ∧ Below w.heap.size w w' := by
  obtain ⟨i0, hi, hz0, hz1, hz2⟩ := info_parts byteInfo
  have HL := Lib.hid hl
  have hln : l.length = n := by have := hl.2.1.len; simpa using this
  have HLN := Lib.hid hln
  clear hl hln
  have hwn : IntKind.u64.wrap (n : Int) = (n : Int) := by rw [IntKind.wrap_u64]; omega
  have hpl := putL_len n (by omega)
  have h4 := le4_len (sumN l)
  obtain ⟨P, hP⟩ : ∃ P, P = putL n := ⟨_, rfl⟩
  obtain ⟨F, hF⟩ : ∃ F, F = le4 (sumN l) := ⟨_, rfl⟩
  have HP : Hid (putF l = P ++ (F ++ l)) := Lib.hid (by rw [hP, hF, putF, HLN.out])
  have HF := Lib.hid hF
  have HPE := Lib.hid hP
  rw [← hF] at h4
  rw [← hP] at hpl
  have H4 := Lib.hid h4
  clear hP hF h4
  go_enter Try.func34, Try.ntmps34
  go_wp2_with fail
  refine (lPut_any w n (by omega)).mono ?_
  rintro e w2 ⟨v2, rfl, hO, hb⟩
  rw [← HPE.out] at hO
  obtain ⟨A2, c2, hv2⟩ := own_slice hO
  subst hv2
  have O2 := Lib.hid hO
  have L2 := Lib.hid (HL.out.below hb)
  have B2 := Lib.hid hb
  clear hb hO
  go_wp2_with fail
  refine (fSumBytes_any w2 A n c l L2.out).mono ?_
  rintro e w3 ⟨S, rfl, hS, hSB, hb⟩
  rw [← HF.out] at hSB
  have O3 := Lib.hid (ownsRow_block O2.out fun g hg => hb.block g (O2.out.lt g hg).2)
  have L3 := Lib.hid (L2.out.below hb)
  have B3 := Lib.hid (below_then B2.out hb B2.out.size)
  have SB := Lib.hid hSB
  clear hS hSB hb
  go_wp2_with (first
    | (at_builtin; refine wpList_append_src _ rfl (.tmp 8) (.tmp 10) 23 rfl w.heap.size 5 i0 (.int .u8 0) 1 Try.underlying23 hi hz0 hz1 hz2 rfl _ _ _ rfl O3.out _ 4 4 _ rfl SB.out.2.1 (u8_one F) (by unfold maxLen; omega) (by omega) B3.out.size ?_; intro v4 w4 hown hgrow _; obtain ⟨A4, c4, hv4⟩ := own_slice hown; subst hv4; have HO4 := Lib.hid hown; have B4 : Hid (Below w.heap.size w w4) := Lib.hid (B3.out.grown hgrow B3.out.size (fun g hg => (O3.out.lt g hg).1)); have L4 : Hid (BytesIn w4 A n l) := Lib.hid (HL.out.below B4.out); clear hown hgrow)
    | (at_builtin; refine wpList_append_src _ rfl (.tmp 12) (.tmp 13) 23 rfl w.heap.size 5 i0 (.int .u8 0) 1 Try.underlying23 hi hz0 hz1 hz2 rfl _ _ _ rfl HO4.out A n c (l.map byteV) rfl L4.out.2.1 (u8_one l) (by unfold maxLen; omega) (by omega) B4.out.size ?_; intro v5 w5 hown hgrow _; have HO5 := Lib.hid hown; have B5 : Hid (Below w.heap.size w w5) := Lib.hid (B4.out.grown hgrow B4.out.size (fun g hg => (HO4.out.lt g hg).1)); clear hown hgrow))
  go_ret
  refine ⟨_, rfl, ?_, B5.out⟩
  rw [HP.out]
  have h5 := HO5.out
  simp only [List.length_append, List.map_append, List.append_assoc, H4.out] at h5 ⊢
  rw [HLN.out]
  simpa [Nat.add_assoc] using h5
end Go.Proofs.Ytdmhaaplgkilpaa
