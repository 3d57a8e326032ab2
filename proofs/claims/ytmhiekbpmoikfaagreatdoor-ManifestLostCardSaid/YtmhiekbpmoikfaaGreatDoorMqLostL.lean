/- ManifestLost: before the first Save there is no manifest; wherever the power goes in the first one, there is none, or that; what Write wrote stays. -/
import Derived.Test.YtmhiekbpmoikfaaGreatDoorMqSide2
import Derived.Test.YtmhiekbpmoikfaaGreatDoorMqLostM
import Derived.Test.YtmhiekbpmoikfaaGreatDoorZp1
namespace Go.Proofs.YtmhiekbpmoikfaaGreatDoor
open Go.RowKit Go.Maps Go.WideMaps
set_option linter.unusedSimpArgs false

set_option maxHeartbeats 16000000 in
set_option maxRecDepth 100000 in
theorem manifestLost_any (W : World) (HP : Pow10 W) (m : Mf) (A : Option Addr) (n c : Nat) (hr : RefsIn W A n m.refs) (s : ByteArray) (hsz : s.size ≤ 140737488351232) (B : Option Addr) (k d : Nat) (l : Nm) (hb : BytesIn W B k l) (fz : Nat) (hfz : fz < 256) (acts : Int) (hacts : acts ≤ 9223372036854775807) (C : Option Addr) (kc cc : Nat) (cs : List Int) (hC : CutsIn W C kc cs) :
    Calls Tryz.prog 8 #[.agg #[.int .i64 m.gen, .int .i64 m.next, .slice A n c], .string s, .slice B k d, .int .u8 fz, .agg #[.int .i64 acts, .slice C kc cc]] W fun e w' => e = .returned (.bool true) ∧ Below W.heap.size W w' := by
  obtain ⟨x, rfl⟩ : ∃ x : Nm, s = ⟨x.toArray⟩ := ⟨s.data.toList, rfl⟩
  have hxl : x.length ≤ 140737488351232 := hsz
  have HPW := Lib.hid HP
  have hnm := hr.fit
  have hlk : l.length = k := by have := hb.2.1.len; simpa using this
  have hkm := hb.1
  unfold maxLen at hnm hkm
  have HLK := Lib.hid hlk
  obtain ⟨w1, hw1⟩ : ∃ w1, w1 = (W.alloc (.cells #[.int .i64 m.gen, .int .i64 m.next, .slice A n c] 24)).alloc (.cells #[.int .i64 acts, .slice C kc cc] 48) := ⟨_, rfl⟩
  obtain ⟨p, hp⟩ : ∃ p, p = W.heap.size := ⟨_, rfl⟩
  have hb1 : Below W.heap.size W w1 := by rw [hw1]; exact ((Below.refl _ W).alloc (Nat.le_refl _) _).alloc (by simp) _
  have hk0 : Blk w1 p 24 #[.int .i64 m.gen, .int .i64 m.next, .slice A n c] := by rw [hw1, hp]; exact (Blk.new _ _ _).alloc _
  have hk2 : Blk w1 (p + 1) 48 #[.int .i64 acts, .slice C kc cc] := by
    have := Blk.new (W.alloc (.cells #[.int .i64 m.gen, .int .i64 m.next, .slice A n c] 24)) 48 #[.int .i64 acts, .slice C kc cc]
    rw [World.size_alloc] at this
    rw [hw1, hp]
    exact this
  have HB1 := Lib.hid hb1
  have HALL : Hid (∀ u : World, Below w1.heap.size w1 u → Blk u p 24 #[.int .i64 m.gen, .int .i64 m.next, .slice A n c] ∧ BytesIn u B k l ∧ Blk u (p + 1) 48 #[.int .i64 acts, .slice C kc cc] ∧ RefsIn u A n m.refs ∧ True ∧ CutsIn u C kc cs ∧ Pow10 u ∧ Below W.heap.size W u) := Lib.hid (fun u hu => by
    have h2 := below_then hb1 hu hb1.size
    exact ⟨hk0.below hu hk0.lt, hb.below h2, hk2.below hu hk2.lt, hr.below h2, trivial, ⟨hC.1, hC.2.1.keep fun ad e hn => h2.block _ (hC.2.2.2 ad e hn), hC.2.2.1, fun ad e hn => Nat.lt_of_lt_of_le (hC.2.2.2 ad e hn) h2.size⟩, HP.later h2 (Nat.le_refl _), h2⟩)
  have HW1 := Lib.hid hw1
  have HPP := Lib.hid hp
  have HCB : Hid (∀ ad, C = some ad → 0 < kc → ad.block < w1.heap.size) := Lib.hid (fun ad e h => Nat.lt_of_lt_of_le (hC.2.2.2 ad e h) hb1.size)
  have HBB : Hid (∀ ad, B = some ad → 0 < k → ad.block < w1.heap.size) := Lib.hid (fun ad e h => Nat.lt_of_lt_of_le (hb.2.2 ad e h) hb1.size)
  clear hw1 hp hb1 hk0 hk2 hr hb hC HP hsz hlk
  go_enter Tryz.func8, Tryz.ntmps8
  go_upto_region 1 with fail
  rw [← HW1.out, ← HPP.out]
  go_wp2_with fail
  refine (mqHead_any w1 (HPW.out.later HB1.out (Nat.le_refl _))).mono ?_
  rintro e w2 ⟨rfl, hb2⟩
  have HB2 := Lib.hid hb2
  clear hb2
  go_wp2_with fail
  refine (pNew_any w2 100000 (by omega)).mono ?_
  rintro e w3 ⟨F, b, rfl, hm3⟩
  rw [show rNew (100000 : Int).toNat = rNew 100000 from rfl] at hm3
  have HM3 := Lib.hid hm3
  have HB3 := Lib.hid (below_then HB2.out hm3.below HB2.out.size)
  have hs12 : w1.heap.size ≤ w2.heap.size := HB2.out.size
  clear hm3
  unfold at0 at *
  obtain ⟨k0, by0, k2, r1, -, cu, -, bw⟩ := HALL.out w3 (below_then HB2.out HM3.out.below HB2.out.size)
  have HBF := Lib.hid bw
  have f0 := k0.cell 0
  have f1 := k0.cell 1
  have f2 := k0.cell 2
  simp only [List.getElem?_toArray, List.getElem?_cons_zero, List.getElem?_cons_succ] at f0 f1 f2
  have HCK := Lib.hid (pCheck_any w3 m A n c r1)
  clear k0 by0 k2 r1 cu bw
  by_cases hn : n ≤ 30
  case neg =>
    have hn' : (30 : Int) < (n : Int) := by omega
    clear hn
    go_wp2
    go_ret
    exact ⟨rfl, HBF.out⟩
  have hn' : ¬ (30 : Int) < (n : Int) := by omega
  by_cases hk : k ≤ 1000
  case neg =>
    have hk' : (1000 : Int) < (k : Int) := by omega
    clear hn hk
    go_wp2
    go_ret
    exact ⟨rfl, HBF.out⟩
  have hk' : ¬ (1000 : Int) < (k : Int) := by omega
  by_cases hx : x.length ≤ 1000
  case neg =>
    have hx' : (1000 : Int) < (x.length : Int) := by omega
    clear hn hk hx
    go_wp2
    go_ret
    exact ⟨rfl, HBF.out⟩
  have hx' : ¬ (1000 : Int) < (x.length : Int) := by omega
  have HKK := Lib.hid hk
  clear hn hk
  go_wp2_with fail
  refine HCK.out.mono ?_
  rintro e w4 ⟨rfl, hb4⟩
  have HM4 := Lib.hid (HM3.out.later hb4)
  clear hb4 HCK HBF f0 f1 f2
  obtain ⟨k0, by0, k2, r1, -, cu, -, bw⟩ := HALL.out w4 (below_then HB2.out HM4.out.below HB2.out.size)
  have HBF := Lib.hid bw
  clear k0 by0 k2 r1 cu bw
  by_cases hm : mOk m
  case neg =>
    have HE : Hid (mErr m = 1) := Lib.hid (mErr_one hm)
    rw [HE.out]
    clear hm
    go_wp2
    go_ret
    exact ⟨rfl, HBF.out⟩
  have HE : Hid (mErr m = 0) := Lib.hid (mErr_zero hm)
  rw [HE.out]
  have HMO := Lib.hid hm
  clear hm
  obtain ⟨t1, ht1⟩ : ∃ t, t = okName x := ⟨_, rfl⟩
  have HRT : Hid (Calls Tryz.prog 50 #[.string ⟨x.toArray⟩] w4 fun e w' => e = .returned (.bool t1) ∧ w4 = w') := Lib.hid (by
    have := Right_any ⟨x.toArray⟩ w4 (by show x.length ≤ maxLen; unfold maxLen; omega)
    rw [show (⟨x.toArray⟩ : ByteArray).data.toList = x from rfl, ← ht1] at this
    exact this)
  have HT1 := Lib.hid ht1
  clear ht1
  go_wp2_with fail
  refine HRT.out.mono ?_
  rintro e w4b ⟨rfl, e4⟩
  subst e4
  clear HRT
  cases t1 with
  | false =>
    go_wp2
    go_ret
    exact ⟨rfl, HBF.out⟩
  | true =>
  by_cases hx1 : x = manN
  case pos =>
    have dx : (x == [109, 97, 110]) = true := by rw [hx1]; decide
    clear hx1
    go_wp2
    go_ret
    exact ⟨rfl, HBF.out⟩
  have dx1 : (x == [109, 97, 110]) = false := by simp only [beq_eq_false_iff_ne]; exact hx1
  by_cases hx2 : x = manNewN
  case pos =>
    have dx : (x == [109, 97, 110, 46, 110, 101, 119]) = true := by rw [hx2]; decide
    clear hx1 hx2
    go_wp2
    go_ret
    exact ⟨rfl, HBF.out⟩
  have dx2 : (x == [109, 97, 110, 46, 110, 101, 119]) = false := by simp only [beq_eq_false_iff_ne]; exact hx2
  obtain ⟨q1, q2, hwr, hsd, hfz2⟩ := lost_math HE.out (b := l) HT1.out.symm hx1 hx2 (by rw [HLK.out]; exact HKK.out)
  have HWR := Lib.hid hwr
  have HSD := Lib.hid hsd
  have HFZ := Lib.hid hfz2
  have hl0 : rLoad (rNew 100000) = (none, 12) := by decide
  have hld := pLoad_any HM4.out.disk
  rw [hl0] at hld
  have HLD := Lib.hid hld
  clear hx1 hx2 hwr hsd hfz2 hl0 hld HBF
  unfold at0 at *
  go_wp2_with fail
  refine HLD.out.mono ?_
  rintro e w5 ⟨hb5, rfl⟩
  obtain ⟨w6, hw6⟩ : ∃ z, z = w5.alloc (.cells #[.int .i64 0, .int .i64 0, .slice none 0 0] 24) := ⟨_, rfl⟩
  have hb6 : Below w5.heap.size w5 w6 := by rw [hw6]; exact (Below.refl _ w5).alloc (Nat.le_refl _) _
  have HM6 := Lib.hid (HM4.out.later (below_then hb5 hb6 hb5.size))
  obtain ⟨k0, by0, k2, r1, -, cu, -, bw⟩ := HALL.out w6 (below_then HB2.out HM6.out.below HB2.out.size)
  have hwc := pWrite_any HM6.out.disk (rCan_new 100000 4 (by omega)) x (by omega) B k d l by0 (by omega) (fun ad e h hf => by have h1 := HBB.out ad e h; have h2 := HM6.out.new _ hf; omega)
  have hcan7 := (rCan_new 100000 (100 + 4) (by omega)).write x l
  rw [HWR.out] at hwc hcan7
  have HWC := Lib.hid hwc
  have HCAN7 := Lib.hid hcan7
  have HW6 := Lib.hid hw6
  clear k0 by0 k2 r1 cu bw hw6 hb5 hb6 hwc hcan7 HLD
  go_upto_region 6 with fail
  rw [← HW6.out]
  go_wp2_with fail
  refine HWC.out.mono ?_
  rintro e w7 ⟨rfl, F7, hp7, hk7, hn7⟩
  have HM7 := Lib.hid (HM6.out.mov hp7 ⟨hk7, hn7⟩)
  have hsc := pSyncDir_any hp7 (HCAN7.out.mono (by omega))
  have hcan8 := (HCAN7.out.mono (show 99 + 1 ≤ 100 by omega)).syncDir
  rw [HSD.out] at hsc hcan8
  have HSC := Lib.hid hsc
  have HCAN8 := Lib.hid hcan8
  clear hp7 hk7 hn7 hsc hcan8 HWC
  go_wp2_with fail
  refine HSC.out.mono ?_
  rintro e w8 ⟨rfl, F8, hp8, hk8, hn8⟩
  have HM8 := Lib.hid (HM7.out.mov hp8 ⟨hk8, hn8⟩)
  clear hp8 hk8 hn8 HSC
  go_wp2_with fail
  refine (pFuse_any HM8.out.disk ((fz : Int) % 10) (by omega)).mono ?_
  rintro e w9 ⟨rfl, hp9, hv9⟩
  have HM9 := Lib.hid (HM8.out.mov hp9 hv9)
  clear hp9 hv9
  obtain ⟨er, q3, hsv, hld⟩ := HFZ.out ((fz : Int) % 10)
  obtain ⟨k0, by0, k2, r1, -, cu, -, bw⟩ := HALL.out w9 (below_then HB2.out HM9.out.below HB2.out.size)
  have f0 := k0.cell 0
  have f1 := k0.cell 1
  have f2 := k0.cell 2
  simp only [List.getElem?_toArray, List.getElem?_cons_zero, List.getElem?_cons_succ] at f0 f1 f2
  have hsc := pSave_any HM9.out.disk ((HCAN8.out.fuse _).mono (by omega)) m A n c r1
  have hcan := ((HCAN8.out.fuse ((fz : Int) % 10)).mono (show 90 + 7 ≤ 99 by omega)).save m
  rw [hsv] at hsc hcan
  have HSV := Lib.hid hsc
  have HCAN9 := Lib.hid hcan
  have HLD := Lib.hid hld
  clear k0 by0 k2 r1 cu bw hsc hcan hsv hld
  go_wp2_with fail
  refine HSV.out.mono ?_
  rintro e w10 ⟨rfl, F10, hp10, hk10, hn10⟩
  have HM10 := Lib.hid (HM9.out.mov hp10 ⟨hk10, hn10⟩)
  clear hp10 hk10 hn10 HSV f0 f1 f2
  obtain ⟨k0, by0, k2, r1, -, cu, -, bw⟩ := HALL.out w10 (below_then HB2.out HM10.out.below HB2.out.size)
  have e0 := k2.cell 0
  have e1 := k2.cell 1
  simp only [List.getElem?_toArray, List.getElem?_cons_zero, List.getElem?_cons_succ] at e0 e1
  have HCR := Lib.hid (pCrash_any HM10.out.disk (HCAN9.out.mono (by omega)) acts hacts C kc cc cs cu (fun ad e h hf => by have h1 := HCB.out ad e h; have h2 := HM10.out.new _ hf; omega))
  clear k0 by0 k2 r1 cu bw
  go_wp2_with fail
  refine HCR.out.mono ?_
  rintro e w11 ⟨rfl, F11, hp11, hv11⟩
  have HM11 := Lib.hid (HM10.out.mov hp11 hv11)
  clear hp11 hv11 HCR e0 e1
  obtain ⟨hrd, hor⟩ := HLD.out acts cs
  have HRD := Lib.hid hrd
  have hlc := pLoad_any HM11.out.disk
  have HLC := Lib.hid hlc
  have HOR := Lib.hid hor
  clear hlc hrd hor
  go_wp2_with fail
  refine HLC.out.mono ?_
  clear HLC
  intro e w12 hl12
  rcases HOR.out with h | ⟨h, her⟩
  · rw [h] at hl12
    obtain ⟨hb12, v3, rfl, ho3⟩ := hl12
    obtain ⟨A3, c3, hv3⟩ := own_slice ho3
    subst hv3
    obtain ⟨n3, hn3⟩ : ∃ z, z = m.refs.length := ⟨_, rfl⟩
    rw [← hn3] at ho3 ⊢
    obtain ⟨bx, hbx⟩ : ∃ z, z = w12.heap.size := ⟨_, rfl⟩
    obtain ⟨w13, hw13⟩ : ∃ z, z = w12.alloc (.cells #[.int .i64 m.gen, .int .i64 m.next, .slice A3 n3 c3] 24) := ⟨_, rfl⟩
    have hb13 : Below w12.heap.size w12 w13 := by rw [hw13]; exact (Below.refl _ w12).alloc (Nat.le_refl _) _
    have hkx : Blk w13 bx 24 #[.int .i64 m.gen, .int .i64 m.next, .slice A3 n3 c3] := by rw [hw13, hbx]; exact Blk.new _ _ _
    have hr3 : RefsIn w13 A3 n3 m.refs := RefsIn.own (ownsRow_block ho3 fun g hg => hb13.block g (ho3.lt g hg).2) hn3.symm (by have := HMO.out.1; unfold mTop at this; unfold maxLen; omega) (refs_bound_ok HMO.out)
    have HM13 := Lib.hid (HM11.out.later (below_then hb12 hb13 hb12.size))
    have hrc := pRead_any HM13.out.disk ⟨x.toArray⟩ (by show x.length ≤ 281474976710656; omega)
    rw [show (⟨x.toArray⟩ : ByteArray).data.toList = x from rfl, HRD.out] at hrc
    simp only [HLK.out] at hrc
    have HRC := Lib.hid hrc
    have HRX := Lib.hid hr3
    have HKX := Lib.hid hkx
    have HW13 := Lib.hid hw13
    have HBX := Lib.hid hbx
    clear h hrc hr3 hkx hw13 hbx hb12 hb13 ho3 hn3
    go_upto_region 14 with fail
    rw [← HW13.out, ← HBX.out]
    go_wp2_with fail
    refine HRC.out.mono ?_
    rintro e w14 ⟨v4, rfl, ho4, hb14⟩
    obtain ⟨A4, c4, hv4⟩ := own_slice ho4
    subst hv4
    have hbs := BytesIn.own ho4 (by have := HKK.out; unfold maxLen; omega)
    have HM14 := Lib.hid (HM13.out.later hb14)
    obtain ⟨k0, by0, k2, r1, -, cu, -, bw⟩ := HALL.out w14 (below_then HB2.out HM14.out.below HB2.out.size)
    have s1 := str_of hbs c4
    have s2 := str_of by0 d
    have hx14 := HKX.out.below hb14 HKX.out.lt
    have hs3 := r15Same_any w14 m m A3 n3 c3 (HRX.out.below hb14) A n c r1
    rw [decide_eq_true rfl] at hs3
    have HS3 := Lib.hid hs3
    have g0 := k0.cell 0
    have g1 := k0.cell 1
    have g2 := k0.cell 2
    have x0 := hx14.cell 0
    have x1 := hx14.cell 1
    have x2 := hx14.cell 2
    simp only [List.getElem?_toArray, List.getElem?_cons_zero, List.getElem?_cons_succ] at g0 g1 g2 x0 x1 x2
    clear k0 by0 k2 r1 cu bw hbs hb14 hx14 hs3 ho4
    go_wp2_with fail
    refine HS3.out.mono ?_
    rintro e w15 ⟨rfl, hb15⟩
    have HM15 := Lib.hid (HM14.out.later hb15)
    obtain ⟨-, -, -, -, -, -, -, bw⟩ := HALL.out w15 (below_then HB2.out HM15.out.below HB2.out.size)
    have HBF := Lib.hid bw
    clear hb15 bw g0 g1 g2 x0 x1 x2 s1 s2
    go_wp2
    go_ret
    exact ⟨rfl, HBF.out⟩
  · rw [h] at hl12
    obtain ⟨hb12, rfl⟩ := hl12
    have der : (er != 0) = true := by simpa using her
    obtain ⟨w13, hw13⟩ : ∃ z, z = w12.alloc (.cells #[.int .i64 0, .int .i64 0, .slice none 0 0] 24) := ⟨_, rfl⟩
    have hb13 : Below w12.heap.size w12 w13 := by rw [hw13]; exact (Below.refl _ w12).alloc (Nat.le_refl _) _
    have HM13 := Lib.hid (HM11.out.later (below_then hb12 hb13 hb12.size))
    have hrc := pRead_any HM13.out.disk ⟨x.toArray⟩ (by show x.length ≤ 281474976710656; omega)
    rw [show (⟨x.toArray⟩ : ByteArray).data.toList = x from rfl, HRD.out] at hrc
    simp only [HLK.out] at hrc
    have HRC := Lib.hid hrc
    have HW13 := Lib.hid hw13
    clear h her hrc hw13 hb12 hb13
    go_upto_region 14 with fail
    rw [← HW13.out]
    go_wp2_with fail
    refine HRC.out.mono ?_
    rintro e w14 ⟨v4, rfl, ho4, hb14⟩
    obtain ⟨A4, c4, hv4⟩ := own_slice ho4
    subst hv4
    have hbs := BytesIn.own ho4 (by have := HKK.out; unfold maxLen; omega)
    have HM14 := Lib.hid (HM13.out.later hb14)
    obtain ⟨k0, by0, k2, r1, -, cu, -, bw⟩ := HALL.out w14 (below_then HB2.out HM14.out.below HB2.out.size)
    have s1 := str_of hbs c4
    have s2 := str_of by0 d
    have HBF := Lib.hid bw
    clear k0 by0 k2 r1 cu bw hbs hb14 ho4
    go_wp2
    go_ret
    exact ⟨rfl, HBF.out⟩
end Go.Proofs.YtmhiekbpmoikfaaGreatDoor
