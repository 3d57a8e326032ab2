/- LebRising, walked. -/
import Derived.Test.YtmncnbnloonenaaLLaws2
namespace Go.Proofs.Ytmncnbnloonenaa
open Go.RowKit Go.Maps Go.WideMaps Go.Shelf

set_option maxHeartbeats 4000000 in
set_option maxRecDepth 100000 in
theorem lebRising_any (w : World) (A : Option Addr) (n c : Nat) (l : List Int) (hl : IntsIn w A n l) (B : Option Addr) (m d : Nat) (b : Nm) (hb : BytesIn w B m b) (hmd : m ≤ d) (most : Int) (hm1 : -9223372036854775808 ≤ most) (hm2 : most ≤ 9223372036854775807) :
    Calls Try.prog 6 #[.slice A n c, .slice B m d, .int .i64 most] w fun e w' => e = .returned (.bool true) ∧ Below w.heap.size w w' := by
  have HL := Lib.hid hl
  have HB := Lib.hid hb
  have hln : l.length = n := hl.len
  have hbn : b.length = m := by have := hb.2.1.len; simpa using this
  have hlx : ∀ x ∈ l, x ≤ 9223372036854775807 := fun x hx => (hl.2.2.1 x hx).2
  have hn63 : n ≤ 9223372036854775807 := hl.1
  have hm63 : m ≤ 9223372036854775807 := hb.1
  have HLN := Lib.hid hln
  have HBN := Lib.hid hbn
  have HLX := Lib.hid hlx
  clear hl hb hln hbn hlx
  go_enter Try.func6, Try.ntmps6
  go_wp2_with fail
  refine (lebHead_any w).mono ?_
  rintro e w1 ⟨rfl, hb⟩
  have B1 := Lib.hid hb
  have L1 := Lib.hid (HL.out.below hb)
  have M1 := Lib.hid (HB.out.below hb)
  clear hb
  by_cases hbig : 1000 < n
  · have hbz : (1000 : Int) < (n : Int) := by omega
    go_wp2
    go_ret
    exact ⟨rfl, B1.out⟩
  have hbz : ¬ (1000 : Int) < (n : Int) := by omega
  by_cases hbig2 : 5000 < m
  · have hbz2 : (5000 : Int) < (m : Int) := by omega
    go_wp2
    go_ret
    exact ⟨rfl, B1.out⟩
  have hbz2 : ¬ (5000 : Int) < (m : Int) := by omega
  go_wp2_with fail
  refine (lPutRising_any w1 A n c l L1.out (by omega)).mono ?_
  intro e w2 h2
  obtain ⟨A2, N2, c2, z, rfl, hb, hz, hN2, I2⟩ := putR_out h2 (by rw [HLN.out]; omega) HLX.out
  have B2 := Lib.hid (below_then B1.out hb B1.out.size)
  have L2 := Lib.hid (L1.out.below hb)
  have M2 := Lib.hid (M1.out.below hb)
  have J2 := Lib.hid I2
  have HZ := Lib.hid hz
  have HN2 := Lib.hid hN2
  obtain ⟨er, her⟩ : ∃ er : Int, er = if rises (-1) l then 0 else 1 := ⟨_, rfl⟩
  rw [← her]
  have HER := Lib.hid her
  clear hb h2 I2 hz hN2 her
  go_wp2_with fail
  refine (r3PutRising_any w2 A n c l L2.out (by omega)).mono ?_
  intro e w3 h3
  obtain ⟨A3, N3, c3, z3, rfl, hb, hz, hN3, I3⟩ := putR_out h3 (by rw [HLN.out]; omega) HLX.out
  rw [← HER.out]
  rw [← HZ.out] at hz
  subst hz
  rw [← HN2.out] at hN3
  subst hN3
  have B3 := Lib.hid (below_then B2.out hb B2.out.size)
  have M3 := Lib.hid (M2.out.below hb)
  have K3 := Lib.hid (J2.out.below hb)
  have J3 := Lib.hid I3
  clear hb h3 I3
  obtain ⟨G, hG⟩ : ∃ G, G = getR b most := ⟨_, rfl⟩
  have hgs := getR_small b most
  have hgb := getR_bounds b most
  rw [← hG, HBN.out] at hgs
  rw [← hG] at hgb
  have HGB := Lib.hid hgb
  have HG := Lib.hid hG
  clear hgb hG
  go_wp2_with fail
  refine (lGetRising_any w3 B m d b M3.out hmd (by omega) most hm1 hm2).mono ?_
  intro e w4 h4
  rw [← HG.out] at h4
  obtain ⟨A4, N4, c4, rfl, hb, hN4, I4⟩ := getR_out h4 (by omega) HGB.out
  have B4 := Lib.hid (below_then B3.out hb B3.out.size)
  have M4 := Lib.hid (M3.out.below hb)
  have K4 := Lib.hid (K3.out.below hb)
  have J4 := Lib.hid (J3.out.below hb)
  have U4 := Lib.hid I4
  clear hb h4 I4
  obtain ⟨gl, gk, ge⟩ := G
  have hgs2 : gl.length ≤ m := hgs
  clear hgs
  go_wp2_with fail
  refine (r3GetRising_any w4 B m d b M4.out hmd (by omega) most hm1 hm2).mono ?_
  intro e w5 h5
  rw [← HG.out] at h5
  obtain ⟨A5, N5, c5, rfl, hb, hN5, I5⟩ := getR_out h5 (show gl.length ≤ _ by omega) HGB.out
  subst hN4
  subst hN5
  have B5 := Lib.hid (below_then B4.out hb B4.out.size)
  have str1 : (convert 23 9 (.slice A2 N3 c2)).run Try.prog w5 = .ok (.string ⟨z3.toArray⟩) w5 := str_of (K4.out.below hb) c2
  have str2 : (convert 23 9 (.slice A3 N3 c3)).run Try.prog w5 = .ok (.string ⟨z3.toArray⟩) w5 := str_of (J4.out.below hb) c3
  have U5 := Lib.hid (U4.out.below hb)
  have V5 := Lib.hid I5
  clear hb h5 I5
  simp only at U5 V5
  go_wp2_with fail
  refine (r3Same_any w5 A4 A5 gl.length gl.length c4 c5 gl gl U5.out V5.out).mono ?_
  rintro e w6 ⟨rfl, q, hw⟩
  have hd : decide (gl = gl) = true := by simp
  rw [hd, hw]
  clear hw hd
  go_wp2
  go_ret
  exact ⟨rfl, below_drewN B5.out _⟩
end Go.Proofs.Ytmncnbnloonenaa
