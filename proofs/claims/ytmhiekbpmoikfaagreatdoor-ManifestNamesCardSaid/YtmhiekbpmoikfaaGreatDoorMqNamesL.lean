/- ManifestNames: of unlike numbers names are unlike; both are names that a disk takes. -/
import Derived.Test.YtmhiekbpmoikfaaGreatDoorZp13
import Derived.Test.YtmhiekbpmoikfaaGreatDoorMqNamesM
namespace Go.Proofs.YtmhiekbpmoikfaaGreatDoor
open Go.RowKit Go.Maps Go.WideMaps
set_option linter.unusedSimpArgs false

theorem beq_nm (x y : Nm) : ((⟨x.toArray⟩ : ByteArray) = ⟨y.toArray⟩) ↔ x = y := by
  constructor
  · intro h
    have : x.toArray = y.toArray := congrArg ByteArray.data h
    simpa using this
  · rintro rfl; rfl
theorem cut_eqM {z x : Nm} {n : Nat} (h : z.take n = x) : (((⟨z.toArray⟩ : ByteArray).extract 0 n).toList == x) = true := by
  rw [ByteArray.toList_eq]
  simp [h]
set_option maxHeartbeats 8000000 in
set_option maxRecDepth 100000 in
theorem manifestNames_any (W : World) (HP : Pow10 W) (a b : Nat) (ha : a < 4294967296) (hb : b < 4294967296) :
    Calls Tryz.prog 9 #[.int .u32 a, .int .u32 b] W fun e w' => e = .returned (.bool true) ∧ Below W.heap.size W w' := by
  have HPW := Lib.hid HP
  have hwa : IntKind.i64.wrap (a : Int) = (a : Int) := IntWalk.i64_in _ (by omega)
  have hwb : IntKind.i64.wrap (b : Int) = (b : Int) := IntWalk.i64_in _ (by omega)
  obtain ⟨X, hX⟩ : ∃ X, X = nameN 115 (a : Int) := ⟨_, rfl⟩
  obtain ⟨Y, hY⟩ : ∃ Y, Y = nameN 115 (b : Int) := ⟨_, rfl⟩
  obtain ⟨Z, hZ⟩ : ∃ Z, Z = nameN 100 (b : Int) := ⟨_, rfl⟩
  have HX := Lib.hid hX
  have HY := Lib.hid hY
  have HZ := Lib.hid hZ
  clear hX hY hZ HP
  go_enter Tryz.func9, Tryz.ntmps9
  go_wp2_with fail
  refine (mqHead_any W HPW.out).mono ?_
  rintro e w1 ⟨rfl, hb1⟩
  have HB1 := Lib.hid hb1
  have h1 := pSeg_any w1 (a : Int) (by omega) (HPW.out.later hb1 (Nat.le_refl _))
  rw [← HX.out] at h1
  have H1 := Lib.hid h1
  clear hb1 h1
  go_wp2_with fail
  refine H1.out.mono ?_
  rintro e w2 ⟨rfl, hb2⟩
  have HB2 := Lib.hid (below_then HB1.out hb2 HB1.out.size)
  have h2 := pSeg_any w2 (b : Int) (by omega) (HPW.out.later HB2.out (Nat.le_refl _))
  rw [← HY.out] at h2
  have H2 := Lib.hid h2
  clear hb2 h2 H1
  go_wp2_with fail
  refine H2.out.mono ?_
  rintro e w3 ⟨rfl, hb3⟩
  have HB3 := Lib.hid (below_then HB2.out hb3 HB2.out.size)
  have h3 := pDels_any w3 (b : Int) (by omega) (HPW.out.later HB3.out (Nat.le_refl _))
  rw [← HZ.out] at h3
  have H3 := Lib.hid h3
  clear hb3 h3 H2
  go_wp2_with fail
  refine H3.out.mono ?_
  rintro e w4 ⟨rfl, hb4⟩
  have HB4 := Lib.hid (below_then HB3.out hb4 HB3.out.size)
  clear hb4 H3
  have hxl := nameN_len (c := 115) (n := a) (by omega)
  rw [← HX.out] at hxl
  have HRX : Hid (Calls Tryz.prog 50 #[.string ⟨X.toArray⟩] w4 fun e w' => e = .returned (.bool true) ∧ w4 = w') := Lib.hid (by
    have := Right_any ⟨X.toArray⟩ w4 (by show X.length ≤ maxLen; unfold maxLen; omega)
    rw [show (⟨X.toArray⟩ : ByteArray).data.toList = X from rfl, HX.out, nameN_ok (by decide) (by omega), ← HX.out] at this
    exact this)
  have hzl := nameN_len (c := 100) (n := b) (by omega)
  rw [← HZ.out] at hzl
  have HRZ : Hid (Calls Tryz.prog 50 #[.string ⟨Z.toArray⟩] w4 fun e w' => e = .returned (.bool true) ∧ w4 = w') := Lib.hid (by
    have := Right_any ⟨Z.toArray⟩ w4 (by show Z.length ≤ maxLen; unfold maxLen; omega)
    rw [show (⟨Z.toArray⟩ : ByteArray).data.toList = Z from rfl, HZ.out, nameN_ok (by decide) (by omega), ← HZ.out] at this
    exact this)
  have hx2 : (((⟨X.toArray⟩ : ByteArray).extract 0 2).toList == [115, 46]) = true := cut_eqM (by rw [HX.out]; rfl)
  have hz2 : (((⟨Z.toArray⟩ : ByteArray).extract 0 2).toList == [100, 46]) = true := cut_eqM (by rw [HZ.out]; rfl)
  have dxz : (X == Z) = false := by
    simp only [beq_eq_false_iff_ne]
    rw [HX.out, HZ.out]
    unfold nameN
    intro e
    injection e with e _
    cases e
  by_cases hab : a = b
  · have dab : ((a : Int) == (b : Int)) = true := by simp [hab]
    have dxy : (X == Y) = true := by rw [HX.out, HY.out, hab]; simp
    clear hab
    go_wp2_with fail
    refine HRX.out.mono ?_
    rintro e w5 ⟨rfl, e5⟩
    subst e5
    go_wp2_with fail
    refine HRZ.out.mono ?_
    rintro e w6 ⟨rfl, e6⟩
    subst e6
    go_wp2
    go_ret
    exact ⟨rfl, HB4.out⟩
  · have dab : ((a : Int) == (b : Int)) = false := by simp only [beq_eq_false_iff_ne]; omega
    have dxy : (X == Y) = false := by
      simp only [beq_eq_false_iff_ne]
      rw [HX.out, HY.out]
      exact fun e => hab (nameN_inj e)
    clear hab
    go_wp2_with fail
    refine HRX.out.mono ?_
    rintro e w5 ⟨rfl, e5⟩
    subst e5
    go_wp2_with fail
    refine HRZ.out.mono ?_
    rintro e w6 ⟨rfl, e6⟩
    subst e6
    go_wp2
    go_ret
    exact ⟨rfl, HB4.out⟩
end Go.Proofs.YtmhiekbpmoikfaaGreatDoor
