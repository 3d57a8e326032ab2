/- ManifestOnce: wherever the power goes in a Save, and whatever is left then: the manifest that was, or the new one. -/
import Derived.Test.YtmhiekbpmoikfaaGreatDoorMqSide2
namespace Go.Proofs.YtmhiekbpmoikfaaGreatDoor
open Go.RowKit Go.Maps Go.WideMaps
set_option linter.unusedSimpArgs false

set_option maxHeartbeats 16000000 in
set_option maxRecDepth 100000 in
theorem manifestOnce_any (W : World) (HP : Pow10 W) (m : Mf) (A : Option Addr) (n c : Nat) (hr : RefsIn W A n m.refs) (m2 : Mf) (A2 : Option Addr) (n2 d2 : Nat) (hr2 : RefsIn W A2 n2 m2.refs) (fz : Nat) (hfz : fz < 256) (acts : Int) (hacts : acts ≤ 9223372036854775807) (C : Option Addr) (kc cc : Nat) (cs : List Int) (hC : CutsIn W C kc cs) :
    Calls Tryz.prog 6 #[.agg #[.int .i64 m.gen, .int .i64 m.next, .slice A n c], .agg #[.int .i64 m2.gen, .int .i64 m2.next, .slice A2 n2 d2], .int .u8 fz, .agg #[.int .i64 acts, .slice C kc cc]] W fun e w' => e = .returned (.bool true) ∧ Below W.heap.size W w' := by
  have HPW := Lib.hid HP
  have hnm := hr.fit
  have hnm2 := hr2.fit
  unfold maxLen at hnm hnm2
  obtain ⟨w1, hw1⟩ : ∃ w1, w1 = ((W.alloc (.cells #[.int .i64 m.gen, .int .i64 m.next, .slice A n c] 24)).alloc (.cells #[.int .i64 m2.gen, .int .i64 m2.next, .slice A2 n2 d2] 24)).alloc (.cells #[.int .i64 acts, .slice C kc cc] 48) := ⟨_, rfl⟩
  obtain ⟨p, hp⟩ : ∃ p, p = W.heap.size := ⟨_, rfl⟩
  have hb1 : Below W.heap.size W w1 := by rw [hw1]; exact (((Below.refl _ W).alloc (Nat.le_refl _) _).alloc (by simp) _).alloc (by simp; omega) _
  have hk0 : Blk w1 p 24 #[.int .i64 m.gen, .int .i64 m.next, .slice A n c] := by rw [hw1, hp]; exact ((Blk.new _ _ _).alloc _).alloc _
  have hk1 : Blk w1 (p + 1) 24 #[.int .i64 m2.gen, .int .i64 m2.next, .slice A2 n2 d2] := by
    have := Blk.new (W.alloc (.cells #[.int .i64 m.gen, .int .i64 m.next, .slice A n c] 24)) 24 #[.int .i64 m2.gen, .int .i64 m2.next, .slice A2 n2 d2]
    rw [World.size_alloc] at this
    rw [hw1, hp]
    exact this.alloc _
  have hk2 : Blk w1 (p + 1 + 1) 48 #[.int .i64 acts, .slice C kc cc] := by
    have := Blk.new ((W.alloc (.cells #[.int .i64 m.gen, .int .i64 m.next, .slice A n c] 24)).alloc (.cells #[.int .i64 m2.gen, .int .i64 m2.next, .slice A2 n2 d2] 24)) 48 #[.int .i64 acts, .slice C kc cc]
    rw [World.size_alloc, World.size_alloc] at this
    rw [hw1, hp]
    exact this
  have HB1 := Lib.hid hb1
  have HALL : Hid (∀ u : World, Below w1.heap.size w1 u → Blk u p 24 #[.int .i64 m.gen, .int .i64 m.next, .slice A n c] ∧ Blk u (p + 1) 24 #[.int .i64 m2.gen, .int .i64 m2.next, .slice A2 n2 d2] ∧ Blk u (p + 1 + 1) 48 #[.int .i64 acts, .slice C kc cc] ∧ RefsIn u A n m.refs ∧ RefsIn u A2 n2 m2.refs ∧ CutsIn u C kc cs ∧ Pow10 u ∧ Below W.heap.size W u) := Lib.hid (fun u hu => by
    have h2 := below_then hb1 hu hb1.size
    exact ⟨hk0.below hu hk0.lt, hk1.below hu hk1.lt, hk2.below hu hk2.lt, hr.below h2, hr2.below h2, ⟨hC.1, hC.2.1.keep fun ad e hn => h2.block _ (hC.2.2.2 ad e hn), hC.2.2.1, fun ad e hn => Nat.lt_of_lt_of_le (hC.2.2.2 ad e hn) h2.size⟩, HP.later h2 (Nat.le_refl _), h2⟩)
  have HW1 := Lib.hid hw1
  have HPP := Lib.hid hp
  have HCB : Hid (∀ ad, C = some ad → 0 < kc → ad.block < w1.heap.size) := Lib.hid (fun ad e h => Nat.lt_of_lt_of_le (hC.2.2.2 ad e h) hb1.size)
  clear hw1 hp hb1 hk0 hk1 hk2 hr hr2 hC HP
  go_enter Tryz.func6, Tryz.ntmps6
  go_upto_region 1 with fail
  rw [← HW1.out, ← HPP.out]
  go_wp2_with fail
  refine (mqHead_any w1 (HPW.out.later HB1.out (Nat.le_refl _))).mono ?_
  rintro e w2 ⟨rfl, hb2⟩
  have HB2 := Lib.hid hb2
  clear hb2
  go_wp2_with fail
  refine (pNew_any w2 100000 (by omega)).mono ?_
  rintro e w3 ⟨F, b, rfl, hm3⟩
  rw [show rNew (100000 : Int).toNat = rNew 100000 from rfl] at hm3
  have HM3 := Lib.hid hm3
  have HB3 := Lib.hid (below_then HB2.out hm3.below HB2.out.size)
  have hs12 : w1.heap.size ≤ w2.heap.size := HB2.out.size
  clear hm3
  unfold at0 at *
  obtain ⟨k0, k1, k2, r1, r2, cu, -, bw⟩ := HALL.out w3 (below_then HB2.out HM3.out.below HB2.out.size)
  have HBF := Lib.hid bw
  have f0 := k0.cell 0
  have f1 := k0.cell 1
  have f2 := k0.cell 2
  have e0 := k1.cell 0
  have e1 := k1.cell 1
  have e2 := k1.cell 2
  simp only [List.getElem?_toArray, List.getElem?_cons_zero, List.getElem?_cons_succ] at f0 f1 f2 e0 e1 e2
  have HCK := Lib.hid (pCheck_any w3 m A n c r1)
  clear k0 k1 k2 r1 r2 cu bw
  by_cases hn : n ≤ 30
  case neg =>
    have hn' : (30 : Int) < (n : Int) := by omega
    clear hn
    go_wp2
    go_ret
    exact ⟨rfl, HBF.out⟩
  have hn' : ¬ (30 : Int) < (n : Int) := by omega
  by_cases hn2 : n2 ≤ 30
  case neg =>
    have hn2' : (30 : Int) < (n2 : Int) := by omega
    clear hn2 hn
    go_wp2
    go_ret
    exact ⟨rfl, HBF.out⟩
  have hn2' : ¬ (30 : Int) < (n2 : Int) := by omega
  clear hn hn2
  go_wp2_with fail
  refine HCK.out.mono ?_
  rintro e w4 ⟨rfl, hb4⟩
  have HM4 := Lib.hid (HM3.out.later hb4)
  clear hb4 HCK HBF f0 f1 f2 e0 e1 e2
  obtain ⟨k0, k1, k2, r1, r2, cu, -, bw⟩ := HALL.out w4 (below_then HB2.out HM4.out.below HB2.out.size)
  have HBF := Lib.hid bw
  have f0 := k0.cell 0
  have f1 := k0.cell 1
  have f2 := k0.cell 2
  have e0 := k1.cell 0
  have e1 := k1.cell 1
  have e2 := k1.cell 2
  simp only [List.getElem?_toArray, List.getElem?_cons_zero, List.getElem?_cons_succ] at f0 f1 f2 e0 e1 e2
  have HCK := Lib.hid (pCheck_any w4 m2 A2 n2 d2 r2)
  clear k0 k1 k2 r1 r2 cu bw
  by_cases hm : mOk m
  case neg =>
    have HE : Hid (mErr m = 1) := Lib.hid (mErr_one hm)
    rw [HE.out]
    clear hm
    go_wp2
    go_ret
    exact ⟨rfl, HBF.out⟩
  have HE : Hid (mErr m = 0) := Lib.hid (mErr_zero hm)
  rw [HE.out]
  clear hm
  go_wp2_with fail
  refine HCK.out.mono ?_
  rintro e w5 ⟨rfl, hb5⟩
  have HM5 := Lib.hid (HM4.out.later hb5)
  clear hb5 HCK HBF f0 f1 f2 e0 e1 e2
  obtain ⟨k0, k1, k2, r1, r2, cu, -, bw⟩ := HALL.out w5 (below_then HB2.out HM5.out.below HB2.out.size)
  have HBF := Lib.hid bw
  have f0 := k0.cell 0
  have f1 := k0.cell 1
  have f2 := k0.cell 2
  have e0 := k1.cell 0
  have e1 := k1.cell 1
  have e2 := k1.cell 2
  simp only [List.getElem?_toArray, List.getElem?_cons_zero, List.getElem?_cons_succ] at f0 f1 f2 e0 e1 e2
  by_cases hm2 : mOk m2
  case neg =>
    have HE2 : Hid (mErr m2 = 1) := Lib.hid (mErr_one hm2)
    rw [HE2.out]
    clear hm2 k0 k1 k2 r1 r2 cu bw
    go_wp2
    go_ret
    exact ⟨rfl, HBF.out⟩
  have HE2 : Hid (mErr m2 = 0) := Lib.hid (mErr_zero hm2)
  rw [HE2.out]
  obtain ⟨q1, hsv, honce⟩ := once_math HE.out HE2.out
  have hcan1 : RCan q1 100 := by
    have := (rCan_new 100000 (100 + 7) (by omega)).save m
    rw [hsv] at this
    exact this
  have HCAN := Lib.hid hcan1
  have hsc := pSave_any HM5.out.disk (rCan_new 100000 7 (by omega)) m A n c r1
  rw [hsv] at hsc
  have HSV := Lib.hid hsc
  have HON := Lib.hid honce
  clear hm2 k0 k1 k2 r1 r2 cu bw hsv hcan1 hsc honce
  go_wp2_with fail
  refine HSV.out.mono ?_
  rintro e w6 ⟨rfl, F6, hp6, hk6, hn6⟩
  have HM6 := Lib.hid (HM5.out.mov hp6 ⟨hk6, hn6⟩)
  clear hp6 hk6 hn6 HSV HBF f0 f1 f2 e0 e1 e2
  go_wp2_with fail
  refine (pFuse_any HM6.out.disk ((fz : Int) % 12) (by omega)).mono ?_
  rintro e w7 ⟨rfl, hp7, hv7⟩
  have HM7 := Lib.hid (HM6.out.mov hp7 hv7)
  clear hp7 hv7
  obtain ⟨er, q2, hsv2, hld⟩ := HON.out ((fz : Int) % 12)
  obtain ⟨k0, k1, k2, r1, r2, cu, -, bw⟩ := HALL.out w7 (below_then HB2.out HM7.out.below HB2.out.size)
  have e0 := k1.cell 0
  have e1 := k1.cell 1
  have e2 := k1.cell 2
  simp only [List.getElem?_toArray, List.getElem?_cons_zero, List.getElem?_cons_succ] at e0 e1 e2
  have hsc2 := pSave_any HM7.out.disk ((HCAN.out.fuse _).mono (by omega)) m2 A2 n2 d2 r2
  have hcan8 := ((HCAN.out.fuse ((fz : Int) % 12)).mono (show 90 + 7 ≤ 100 by omega)).save m2
  rw [hsv2] at hsc2 hcan8
  have HSV2 := Lib.hid hsc2
  have HCAN8 := Lib.hid hcan8
  have HLD := Lib.hid hld
  clear k0 k1 k2 r1 r2 cu bw hsc2 hcan8 hsv2 hld
  go_wp2_with fail
  refine HSV2.out.mono ?_
  rintro e w8 ⟨rfl, F8, hp8, hk8, hn8⟩
  have HM8 := Lib.hid (HM7.out.mov hp8 ⟨hk8, hn8⟩)
  clear hp8 hk8 hn8 HSV2 e0 e1 e2
  obtain ⟨k0, k1, k2, r1, r2, cu, -, bw⟩ := HALL.out w8 (below_then HB2.out HM8.out.below HB2.out.size)
  have e0 := k2.cell 0
  have e1 := k2.cell 1
  simp only [List.getElem?_toArray, List.getElem?_cons_zero, List.getElem?_cons_succ] at e0 e1
  have HCR := Lib.hid (pCrash_any HM8.out.disk (HCAN8.out.mono (by omega)) acts hacts C kc cc cs cu (fun ad e h hf => by have h1 := HCB.out ad e h; have h2 := HM8.out.new _ hf; omega))
  clear k0 k1 k2 r1 r2 cu bw
  go_wp2_with fail
  refine HCR.out.mono ?_
  rintro e w9 ⟨rfl, F9, hp9, hv9⟩
  have HM9 := Lib.hid (HM8.out.mov hp9 hv9)
  clear hp9 hv9 HCR e0 e1
  obtain ⟨m3, hl3, hok3, hor3⟩ := HLD.out acts cs
  have hlc := pLoad_any HM9.out.disk
  rw [hl3] at hlc
  have HLC := Lib.hid hlc
  have HOR := Lib.hid hor3
  have HOK3 := Lib.hid hok3
  clear hlc hl3 hor3 hok3
  go_wp2_with fail
  refine HLC.out.mono ?_
  rintro e w10 ⟨hb10, v3, rfl, ho3⟩
  obtain ⟨A3, c3, hv3⟩ := own_slice ho3
  subst hv3
  obtain ⟨n3, hn3⟩ : ∃ z, z = m3.refs.length := ⟨_, rfl⟩
  rw [← hn3] at ho3 ⊢
  obtain ⟨bx, hbx⟩ : ∃ z, z = w10.heap.size := ⟨_, rfl⟩
  obtain ⟨w11, hw11⟩ : ∃ z, z = w10.alloc (.cells #[.int .i64 m3.gen, .int .i64 m3.next, .slice A3 n3 c3] 24) := ⟨_, rfl⟩
  have hb11 : Below w10.heap.size w10 w11 := by rw [hw11]; exact (Below.refl _ w10).alloc (Nat.le_refl _) _
  have hkx : Blk w11 bx 24 #[.int .i64 m3.gen, .int .i64 m3.next, .slice A3 n3 c3] := by rw [hw11, hbx]; exact Blk.new _ _ _
  have hr3 : RefsIn w11 A3 n3 m3.refs := RefsIn.own (ownsRow_block ho3 fun g hg => hb11.block g (ho3.lt g hg).2) hn3.symm (by have := HOK3.out.1; unfold mTop at this; unfold maxLen; omega) (refs_bound_ok HOK3.out)
  have HM11 := Lib.hid (HM9.out.later (below_then hb10 hb11 hb10.size))
  obtain ⟨k0, k1, k2, r1, r2, cu, -, bw⟩ := HALL.out w11 (below_then HB2.out HM11.out.below HB2.out.size)
  have e0 := k1.cell 0
  have e1 := k1.cell 1
  have e2 := k1.cell 2
  have g0 := k0.cell 0
  have g1 := k0.cell 1
  have g2 := k0.cell 2
  have x0 := hkx.cell 0
  have x1 := hkx.cell 1
  have x2 := hkx.cell 2
  simp only [List.getElem?_toArray, List.getElem?_cons_zero, List.getElem?_cons_succ] at e0 e1 e2 g0 g1 g2 x0 x1 x2
  obtain ⟨t1, ht1⟩ : ∃ t, t = decide (m3 = m2) := ⟨_, rfl⟩
  have hs1 := r15Same_any w11 m3 m2 A3 n3 c3 hr3 A2 n2 d2 r2
  rw [← ht1] at hs1
  have HS1 := Lib.hid hs1
  have HRX := Lib.hid hr3
  have HKX := Lib.hid hkx
  have HW11 := Lib.hid hw11
  have HBX := Lib.hid hbx
  clear k0 k1 k2 r1 r2 cu bw hs1 hr3 hkx hw11 hbx hb10 hb11 ho3 hn3 HLC
  go_upto_region 11 with fail
  rw [← HW11.out, ← HBX.out]
  cases t1 with
  | true =>
    clear ht1
    go_wp2_with fail
    refine HS1.out.mono ?_
    rintro e w12 ⟨rfl, hb12⟩
    have HM12 := Lib.hid (HM11.out.later hb12)
    obtain ⟨-, -, -, -, -, -, -, bw⟩ := HALL.out w12 (below_then HB2.out HM12.out.below HB2.out.size)
    have HBF := Lib.hid bw
    clear hb12 bw e0 e1 e2 g0 g1 g2 x0 x1 x2
    go_wp2
    go_ret
    exact ⟨rfl, HBF.out⟩
  | false =>
    have hne : er ≠ 0 ∧ m3 = m := by
      rcases HOR.out with h | h
      · exact absurd h (of_decide_eq_false ht1.symm)
      · exact h
    have der : (er != 0) = true := by simpa using hne.1
    have HEQ := Lib.hid hne.2
    clear hne ht1
    go_wp2_with fail
    refine HS1.out.mono ?_
    rintro e w12 ⟨rfl, hb12⟩
    have HM12 := Lib.hid (HM11.out.later hb12)
    obtain ⟨k0, k1, k2, r1, r2, cu, -, bw⟩ := HALL.out w12 (below_then HB2.out HM12.out.below HB2.out.size)
    have hx12 := HKX.out.below hb12 HKX.out.lt
    have hs2 := r15Same_any w12 m3 m A3 n3 c3 (HRX.out.below hb12) A n c r1
    rw [decide_eq_true HEQ.out] at hs2
    have HS2 := Lib.hid hs2
    clear e0 e1 e2 g0 g1 g2 x0 x1 x2
    have g0 := k0.cell 0
    have g1 := k0.cell 1
    have g2 := k0.cell 2
    have x0 := hx12.cell 0
    have x1 := hx12.cell 1
    have x2 := hx12.cell 2
    simp only [List.getElem?_toArray, List.getElem?_cons_zero, List.getElem?_cons_succ] at g0 g1 g2 x0 x1 x2
    clear k0 k1 k2 r1 r2 cu bw hb12 hx12 hs2
    go_wp2_with fail
    refine HS2.out.mono ?_
    rintro e w13 ⟨rfl, hb13⟩
    have HM13 := Lib.hid (HM12.out.later hb13)
    obtain ⟨-, -, -, -, -, -, -, bw⟩ := HALL.out w13 (below_then HB2.out HM13.out.below HB2.out.size)
    have HBF := Lib.hid bw
    clear hb13 bw g0 g1 g2 x0 x1 x2
    go_wp2
    go_ret
    exact ⟨rfl, HBF.out⟩
end Go.Proofs.YtmhiekbpmoikfaaGreatDoor
