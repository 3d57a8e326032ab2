/- What all laws of frame ask first. -/
import Derived.Test.YtikibkagdjlhoaaFProg3
import Derived.Test.YtikibkagdjlhoaaFRef5
namespace Go.Proofs.Ytikibkagdjlhoaa
open Go.RowKit Go.Maps Go.WideMaps Go.Shelf

theorem putF_nil : putF [] = [0, 0, 0, 0, 0] := by
  unfold putF
  rw [show ([] : List UInt8).length = 0 from rfl, putL_small (by decide)]
  decide +kernel
theorem putF_abc : (putF [97, 98, 99]).length = 8 := by
  rw [putF_len, show ([97, 98, 99] : List UInt8).length = 3 from rfl, putL_small (by decide)]
  rfl
theorem all_zeros : allF [0, 0, 0, 0, 0, 0, 0, 0, 0, 0] = ([[], []], 0) := by
  have h := allF_put [[], []] (by intro x hx; simp at hx; subst hx; simp)
  simp only [List.flatMap_cons, List.flatMap_nil, putF_nil] at h
  exact h
theorem get_bad (w : UInt8) : getF [0, w, 1, w, w] = ([], 0, 41) := by
  have hg : getL [0, w, 1, w, w] = (0, 1, 0) := by
    have h := getL_put (n := 0) (by omega) [w, 1, w, w]
    rw [putL_small (by decide)] at h
    exact h
  unfold getF
  rw [hg]
  simp only
  rw [if_neg (by simp), if_neg (by omega), if_neg (by simp), if_pos]
  have h0 : sumN (([0, w, 1, w, w].drop (1 + 4)).take 0) = 0 := by
    simp only [List.take_zero]
    decide +kernel
  rw [h0]
  simp only [un4, List.drop_succ_cons, List.drop_zero, List.getD_cons_zero, List.getD_cons_succ]
  have := w.toNat_lt
  rw [show (1 : UInt8).toNat = 1 from rfl]
  omega
theorem get_bad0 : getF [0, 1, 0, 0, 0] = ([], 0, 41) := by
  have hg : getL [0, 1, 0, 0, 0] = (0, 1, 0) := by
    have h := getL_put (n := 0) (by omega) [1, 0, 0, 0]
    rw [putL_small (by decide)] at h
    exact h
  unfold getF
  rw [hg]
  decide +kernel

set_option maxHeartbeats 8000000 in
set_option maxRecDepth 100000 in
theorem frameHead_any (w : World) : Calls Try.prog 7 #[] w fun e w' => e = .returned (.bool true) ∧ Below w.heap.size w w' := by
  go_enter Try.func7, Try.ntmps7
  go_wp2_with fail
  refine (fPut_any w none 0 0 [] (BytesIn.nil w) (by omega)).mono ?_
  rintro e w1 ⟨v1, rfl, hO1, hB1⟩
  rw [putF_nil] at hO1
  obtain ⟨A1, c1, hv⟩ := own_slice hO1
  subst hv
  have S1 := Lib.hid (BytesIn.own (l := [0, 0, 0, 0, 0]) hO1 (by unfold maxLen; decide))
  have B1 := Lib.hid hB1
  have hin := const_in w1 [97, 98, 99] (3, 4) (by decide)
  simp only [byteV, List.map_cons, List.map_nil] at hin
  simp at hin
  have HIN := Lib.hid hin
  have hcv := const_bytes w1 #[.int .u8 97, .int .u8 98, .int .u8 99] 3 3
  clear hin hO1 hB1
  go_wp2_with fail
  refine (fPut_any _ _ 3 3 _ HIN.out (by omega)).mono ?_
  rintro e w2 ⟨v2, rfl, hO2, hB2⟩
  have hl := putF_abc
  have hb1 := (Below.refl w1.heap.size w1).alloc (Nat.le_refl _) (.cells #[.int .u8 97, .int .u8 98, .int .u8 99] 5 (3, 4))
  have hb12 := below_then hb1 hB2 hb1.size
  have B2 := Lib.hid (below_then B1.out hb12 B1.out.size)
  have S2 := Lib.hid (S1.out.below hb12)
  rw [hl] at hO2
  obtain ⟨A2, c2, hv, hc2⟩ := own_cap hO2
  subst hv
  have hgp := getF_put [97, 98, 99] (by decide) []
  rw [List.append_nil, hl] at hgp
  have HGP := Lib.hid hgp
  have T2 := Lib.hid (BytesIn.own (l := putF [97, 98, 99]) hO2 (by unfold maxLen; decide))
  clear hb1 hb12 hB2 hO2 hgp hl HIN hcv S1 B1
  go_wp2_with fail
  refine (fGet_any w2 A2 8 c2 _ T2.out hc2 (by omega)).mono ?_
  rintro e w3 ⟨v3, rfl, hO3, hB3⟩
  rw [HGP.out] at hO3 ⊢
  have hO3' : w3.ownsRow w2.heap.size 5 1 v3 3 ([97, 98, 99].map byteV) := hO3
  obtain ⟨A3, c3, hv⟩ := own_slice hO3'
  subst hv
  have S3 := Lib.hid (S2.out.below hB3)
  have S33 := Lib.hid (BytesIn.own (l := [97, 98, 99]) hO3' (by unfold maxLen; decide))
  have B3 := Lib.hid (below_then B2.out hB3 B2.out.size)
  have hin := const_in w3 [0, 0, 0, 0, 0, 0, 0, 0, 0, 0] (0, 0) (by decide)
  simp only [byteV, List.map_cons, List.map_nil] at hin
  simp at hin
  have HIN := Lib.hid hin
  clear hin hO3 hO3' hB3 S2 B2 T2 HGP hc2
  go_wp2_with fail
  refine (fAll_any _ _ 10 10 _ HIN.out (Nat.le_refl _) (by omega)).mono ?_
  rintro e w4 ⟨v4, rfl, hR4, hB4⟩
  rw [all_zeros] at hR4 ⊢
  obtain ⟨svs, hO4, _⟩ := hR4
  have hO4' : w4.ownsRow (w3.alloc (.cells #[.int .u8 0, .int .u8 0, .int .u8 0, .int .u8 0, .int .u8 0, .int .u8 0, .int .u8 0, .int .u8 0, .int .u8 0, .int .u8 0] 5)).heap.size 22 1 v4 2 svs := hO4
  obtain ⟨A4, c4, hv⟩ := own_slice hO4'
  subst hv
  have hb3 := (Below.refl w3.heap.size w3).alloc (Nat.le_refl _) (.cells #[.int .u8 0, .int .u8 0, .int .u8 0, .int .u8 0, .int .u8 0, .int .u8 0, .int .u8 0, .int .u8 0, .int .u8 0, .int .u8 0] 5)
  have hb34 := below_then hb3 hB4 hb3.size
  have B4 := Lib.hid (below_then B3.out hb34 B3.out.size)
  have S4 := Lib.hid (S3.out.below hb34)
  have S34 := Lib.hid (S33.out.below hb34)
  have hin := const_in w4 [0, 1, 0, 0, 0] (0, 0) (by decide)
  simp only [byteV, List.map_cons, List.map_nil] at hin
  simp at hin
  have HIN4 := Lib.hid hin
  clear hin hb3 hb34 hB4 hO4 hO4' S3 S33 B3 HIN
  go_wp2_with fail
  refine (fGet_any _ _ 5 5 _ HIN4.out (Nat.le_refl _) (by omega)).mono ?_
  rintro e w5 ⟨v5, rfl, hO5, hB5⟩
  rw [get_bad0] at hO5 ⊢
  have hb4 := (Below.refl w4.heap.size w4).alloc (Nat.le_refl _) (.cells #[.int .u8 0, .int .u8 1, .int .u8 0, .int .u8 0, .int .u8 0] 5)
  have hb45 := below_then hb4 hB5 hb4.size
  have B5 := Lib.hid (below_then B4.out hb45 B4.out.size)
  have S5 : (convert 22 9 (.slice A1 5 c1)).run Try.prog w5 = .ok (.string ⟨#[0, 0, 0, 0, 0]⟩) w5 := str_of (S4.out.below hb45) c1
  have S35 : (convert 22 9 (.slice A3 3 c3)).run Try.prog w5 = .ok (.string ⟨#[97, 98, 99]⟩) w5 := str_of (S34.out.below hb45) c3
  clear hb4 hb45 hB5 hO5 S4 S34 B4 HIN4
  go_wp2
  go_ret
  exact ⟨rfl, B5.out⟩
end Go.Proofs.Ytikibkagdjlhoaa
