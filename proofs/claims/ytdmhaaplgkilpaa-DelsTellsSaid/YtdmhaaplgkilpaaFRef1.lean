/- The contracts of the document's frame: Put, Get. -/
import Derived.Test.YtdmhaaplgkilpaaLRef1
import Derived.Test.YtdmhaaplgkilpaaLRef2
import Derived.Test.YtdmhaaplgkilpaaCRef
import Derived.Test.YtdmhaaplgkilpaaFMath
namespace Go.Proofs.Ytdmhaaplgkilpaa
open Go.RowKit Go.Maps Go.WideMaps

set_option maxHeartbeats 4000000 in
set_option maxRecDepth 100000 in
theorem r4Put_any (w : World) (A : Option Addr) (n c : Nat) (l : Nm) (hl : BytesIn w A n l) (hn : n ≤ 1099511627776) :
    Calls Try.prog 36 #[.slice A n c] w fun e w' => ∃ v, e = .returned v ∧ w'.ownsRow w.heap.size 5 1 v (putF l).length ((putF l).map byteV) ∧ Below w.heap.size w w' := by
  obtain ⟨i0, hi, hz0, hz1, hz2⟩ := info_parts byteInfo
  have HL := Lib.hid hl
  have hln : l.length = n := by have := hl.2.1.len; simpa using this
  have HLN := Lib.hid hln
  clear hl hln
  obtain ⟨s, hs⟩ : ∃ s, s = sumN l := ⟨_, rfl⟩
  have hs32 : s < 4294967296 := by rw [hs]; exact sumN_lt l
  obtain ⟨x0, h0⟩ : ∃ x, x = UInt8.ofNat (s % 256) := ⟨_, rfl⟩
  obtain ⟨x1, h1⟩ : ∃ x, x = UInt8.ofNat (s / 256 % 256) := ⟨_, rfl⟩
  obtain ⟨x2, h2⟩ : ∃ x, x = UInt8.ofNat (s / 65536 % 256) := ⟨_, rfl⟩
  obtain ⟨x3, h3⟩ : ∃ x, x = UInt8.ofNat (s / 16777216 % 256) := ⟨_, rfl⟩
  have z0 : (s : Int) % 256 = (x0.toNat : Int) := by rw [h0, ofNat_toNat (by omega)]; omega
  have z1 : (s : Int) / 256 % 256 = (x1.toNat : Int) := by rw [h1, ofNat_toNat (by omega)]; omega
  have z2 : (s : Int) / 65536 % 256 = (x2.toNat : Int) := by rw [h2, ofNat_toNat (by omega)]; omega
  have z3 : (s : Int) / 16777216 = (x3.toNat : Int) := by rw [h3, ofNat_toNat (by omega)]; omega
  have HP : Hid (putF l = putL n ++ ([x0, x1, x2, x3] ++ l)) := Lib.hid (by unfold putF le4; rw [HLN.out, ← hs, ← h0, ← h1, ← h2, ← h3])
  have HS := Lib.hid hs
  have hpl := putL_len n (by omega)
  clear hs h0 h1 h2 h3
  go_enter Try.func36, Try.ntmps36
  go_wp2_with fail
  refine (refSum_any w A n c l HL.out).mono ?_
  rintro e w1 ⟨rfl, hb⟩
  rw [← HS.out]
  have B1 := Lib.hid hb
  have L1 := Lib.hid (HL.out.below hb)
  clear hb
  go_wp2_with fail
  refine (r3Put_any w1 n (by omega)).mono ?_
  rintro e w2 ⟨v2, rfl, hO, hb⟩
  obtain ⟨A2, c2, hv2⟩ := own_slice hO
  subst hv2
  have O2 := Lib.hid hO
  have L2 := Lib.hid (L1.out.below hb)
  have B2 := Lib.hid (below_then B1.out hb B1.out.size)
  have hs12 := B1.out.size
  have hs2 := hb.size
  clear hb hO
  have LA := Lib.hid (L2.out.below ((Below.refl _ w2).alloc (Nat.le_refl _) (.cells #[.int .u8 x0.toNat, .int .u8 x1.toNat, .int .u8 x2.toNat, .int .u8 x3.toNat] 5)))
  go_wp2_with (first
    | (at_builtin; refine wpList_append_src _ rfl (.tmp 11) (.tmp 23) 23 rfl w1.heap.size 5 i0 (.int .u8 0) 1 Try.underlying23 hi hz0 hz1 hz2 rfl _ _ _ rfl (own_alloc O2.out _) _ 4 4 _ rfl (new_src w2 [x0, x1, x2, x3] (by unfold maxLen; simp)) (u8_one [x0, x1, x2, x3]) (by unfold maxLen; omega) (by omega) (by simp; omega) ?_; intro v3 w3 hown hgrow _; obtain ⟨A3, c3, hv3⟩ := own_slice hown; subst hv3; have HO3 := Lib.hid hown; have HS2 : Hid (w2.heap.size ≤ w3.heap.size) := Lib.hid (by have := hgrow.size; simp at this; omega); have B3 : Hid (Below w.heap.size w w3) := Lib.hid ((B2.out.alloc B2.out.size _).grown hgrow (by have := B2.out.size; simp; omega) (fun g hg => by have := (O2.out.lt g hg).1; omega)); have L3 : Hid (BytesIn w3 A n l) := Lib.hid (HL.out.below B3.out); clear hown hgrow)
    | (at_builtin; refine wpList_append_src _ rfl (.tmp 25) (.tmp 26) 23 rfl w1.heap.size 5 i0 (.int .u8 0) 1 Try.underlying23 hi hz0 hz1 hz2 rfl _ _ _ rfl HO3.out A n c (l.map byteV) rfl L3.out.2.1 (u8_one l) (by unfold maxLen; omega) (by omega) (Nat.le_trans hs2 HS2.out) ?_; intro v4 w4 hown hgrow _; have HO4 := Lib.hid hown; have B4 : Hid (Below w.heap.size w w4) := Lib.hid (B3.out.grown hgrow B3.out.size (fun g hg => by have := (HO3.out.lt g hg).1; omega)); clear hown hgrow))
  go_ret
  refine ⟨_, rfl, ?_, B4.out⟩
  rw [HP.out]
  have h4 := Go.Joins.ownsRow_le HO4.out hs12
  simp only [List.length_append, List.map_append, List.append_assoc] at h4 ⊢
  rw [HLN.out]
  simpa [Nat.add_assoc] using h4
end Go.Proofs.Ytdmhaaplgkilpaa
