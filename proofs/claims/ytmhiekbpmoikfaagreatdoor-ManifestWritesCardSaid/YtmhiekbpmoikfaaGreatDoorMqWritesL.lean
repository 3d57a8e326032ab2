/- ManifestWrites: what is written is read, whatever stood there; a Save once more changes no file. -/
import Derived.Test.YtmhiekbpmoikfaaGreatDoorMqSide2
import Derived.Test.YtmhiekbpmoikfaaGreatDoorMqWritesM
import Derived.Test.YtmhiekbpmoikfaaGreatDoorZp1
import Derived.Test.YtmhiekbpmoikfaaGreatDoorSame
namespace Go.Proofs.YtmhiekbpmoikfaaGreatDoor
open Go.RowKit Go.Maps Go.WideMaps
set_option linter.unusedSimpArgs false

set_option maxHeartbeats 16000000 in
set_option maxRecDepth 100000 in
theorem manifestWrites_any (W : World) (HP : Pow10 W) (m : Mf) (A : Option Addr) (n c : Nat) (hr : RefsIn W A n m.refs) (s : ByteArray) (hsz : s.size ≤ 140737488351232) (B : Option Addr) (k d : Nat) (l : Nm) (hb : BytesIn W B k l) (C : Option Addr) (k2 d2 : Nat) (l2 : Nm) (hc : BytesIn W C k2 l2) :
    Calls Tryz.prog 10 #[.agg #[.int .i64 m.gen, .int .i64 m.next, .slice A n c], .string s, .slice B k d, .slice C k2 d2] W fun e w' => e = .returned (.bool true) ∧ Below W.heap.size W w' := by
  obtain ⟨x, rfl⟩ : ∃ x : Nm, s = ⟨x.toArray⟩ := ⟨s.data.toList, rfl⟩
  have hxl : x.length ≤ 140737488351232 := hsz
  have HPW := Lib.hid HP
  have hnm := hr.fit
  have hlk : l.length = k := by have := hb.2.1.len; simpa using this
  have hlk2 : l2.length = k2 := by have := hc.2.1.len; simpa using this
  have hkm := hb.1
  have hkm2 := hc.1
  unfold maxLen at hnm hkm hkm2
  have HLK := Lib.hid hlk
  have HLK2 := Lib.hid hlk2
  obtain ⟨w1, hw1⟩ : ∃ w1, w1 = W.alloc (.cells #[.int .i64 m.gen, .int .i64 m.next, .slice A n c] 24) := ⟨_, rfl⟩
  obtain ⟨p, hp⟩ : ∃ p, p = W.heap.size := ⟨_, rfl⟩
  have hb1 : Below W.heap.size W w1 := by rw [hw1]; exact (Below.refl _ W).alloc (Nat.le_refl _) _
  have hk0 : Blk w1 p 24 #[.int .i64 m.gen, .int .i64 m.next, .slice A n c] := by rw [hw1, hp]; exact Blk.new _ _ _
  have HB1 := Lib.hid hb1
  have HALL : Hid (∀ u : World, Below w1.heap.size w1 u → Blk u p 24 #[.int .i64 m.gen, .int .i64 m.next, .slice A n c] ∧ BytesIn u B k l ∧ BytesIn u C k2 l2 ∧ RefsIn u A n m.refs ∧ Below W.heap.size W u) := Lib.hid (fun u hu => by
    have h2 := below_then hb1 hu hb1.size
    exact ⟨hk0.below hu hk0.lt, hb.below h2, hc.below h2, hr.below h2, h2⟩)
  have HW1 := Lib.hid hw1
  have HPP := Lib.hid hp
  have HBB : Hid (∀ ad, B = some ad → 0 < k → ad.block < w1.heap.size) := Lib.hid (fun ad e h => Nat.lt_of_lt_of_le (hb.2.2 ad e h) hb1.size)
  have HCC : Hid (∀ ad, C = some ad → 0 < k2 → ad.block < w1.heap.size) := Lib.hid (fun ad e h => Nat.lt_of_lt_of_le (hc.2.2 ad e h) hb1.size)
  clear hw1 hp hb1 hk0 hr hb hc HP hsz hlk hlk2
  go_enter Tryz.func10, Tryz.ntmps10
  go_upto_region 1 with fail
  rw [← HW1.out, ← HPP.out]
  go_wp2_with fail
  refine (mqHead_any w1 (HPW.out.later HB1.out (Nat.le_refl _))).mono ?_
  rintro e w2 ⟨rfl, hb2⟩
  have HB2 := Lib.hid hb2
  clear hb2
  go_wp2_with fail
  refine (pNew_any w2 100000 (by omega)).mono ?_
  rintro e w3 ⟨F, b, rfl, hm3⟩
  rw [show rNew (100000 : Int).toNat = rNew 100000 from rfl] at hm3
  have HM3 := Lib.hid hm3
  have hs12 : w1.heap.size ≤ w2.heap.size := HB2.out.size
  clear hm3
  unfold at0 at *
  obtain ⟨k0, by0, by2, r1, bw⟩ := HALL.out w3 (below_then HB2.out HM3.out.below HB2.out.size)
  have HBF := Lib.hid bw
  have f0 := k0.cell 0
  have f1 := k0.cell 1
  have f2 := k0.cell 2
  simp only [List.getElem?_toArray, List.getElem?_cons_zero, List.getElem?_cons_succ] at f0 f1 f2
  clear k0 r1 bw
  by_cases hn : n ≤ 30
  case neg =>
    have hn' : (30 : Int) < (n : Int) := by omega
    clear hn by0 by2
    go_wp2
    go_ret
    exact ⟨rfl, HBF.out⟩
  have hn' : ¬ (30 : Int) < (n : Int) := by omega
  by_cases hk : k ≤ 1000
  case neg =>
    have hk' : (1000 : Int) < (k : Int) := by omega
    clear hn hk by0 by2
    go_wp2
    go_ret
    exact ⟨rfl, HBF.out⟩
  have hk' : ¬ (1000 : Int) < (k : Int) := by omega
  by_cases hk2 : k2 ≤ 1000
  case neg =>
    have hk2' : (1000 : Int) < (k2 : Int) := by omega
    clear hn hk hk2 by0 by2
    go_wp2
    go_ret
    exact ⟨rfl, HBF.out⟩
  have hk2' : ¬ (1000 : Int) < (k2 : Int) := by omega
  by_cases hx : x.length ≤ 1000
  case neg =>
    have hx' : (1000 : Int) < (x.length : Int) := by omega
    clear hn hk hk2 hx by0 by2
    go_wp2
    go_ret
    exact ⟨rfl, HBF.out⟩
  have hx' : ¬ (1000 : Int) < (x.length : Int) := by omega
  have HKK := Lib.hid hk
  have HKK2 := Lib.hid hk2
  have HXX := Lib.hid hx
  obtain ⟨E, q1, q2, hq1, hq2, hok, hbad, hon, hi, hro, hle, hsu⟩ := writes_math (x := x) (a := l) (b := l2) (by rw [HLK.out]; exact hk) (by rw [HLK2.out]; exact hk2)
  have hwc := pWrite_any HM3.out.disk (rCan_new 100000 4 (by omega)) x (by omega) B k d l by0 (by omega) (fun ad e h hf => by have h1 := HBB.out ad e h; have h2 := HM3.out.new _ hf; omega)
  have hcan := (rCan_new 100000 (100 + 4) (by omega)).write x l
  rw [hq1] at hwc hcan
  have HWC := Lib.hid hwc
  have HCAN := Lib.hid hcan
  have HQ2 := Lib.hid hq2
  have HOK := Lib.hid hok
  have HBAD := Lib.hid hbad
  have HON := Lib.hid hon
  have HI := Lib.hid hi
  have HRO := Lib.hid hro
  have HLE := Lib.hid hle
  have HSU := Lib.hid hsu
  clear hn hk hk2 hx by0 by2 hwc hcan hq1 hq2 hok hbad hon hi hro hle hsu HBF
  go_wp2_with fail
  refine HWC.out.mono ?_
  rintro e w4 ⟨rfl, F4, hp4, hk4, hn4⟩
  have HM4 := Lib.hid (HM3.out.mov hp4 ⟨hk4, hn4⟩)
  clear hp4 hk4 hn4 HWC f0 f1 f2
  obtain ⟨k0, by0, by2, r1, bw⟩ := HALL.out w4 (below_then HB2.out HM4.out.below HB2.out.size)
  have hwc := pWrite_any HM4.out.disk (HCAN.out.mono (by omega)) x (by have := HXX.out; omega) C k2 d2 l2 by2 (by omega) (fun ad e h hf => by have h1 := HCC.out ad e h; have h2 := HM4.out.new _ hf; omega)
  have hcan := (HCAN.out.mono (show 96 + 4 ≤ 100 by omega)).write x l2
  rw [HQ2.out] at hwc hcan
  have HWC := Lib.hid hwc
  have HCAN2 := Lib.hid hcan
  clear k0 by0 by2 r1 bw hwc hcan
  go_wp2_with fail
  refine HWC.out.mono ?_
  rintro e w5 ⟨rfl, F5, hp5, hk5, hn5⟩
  have HM5 := Lib.hid (HM4.out.mov hp5 ⟨hk5, hn5⟩)
  clear hp5 hk5 hn5 HWC
  have hrc := pRead_any HM5.out.disk ⟨x.toArray⟩ (by have := HXX.out; show x.length ≤ 281474976710656; omega)
  rw [show (⟨x.toArray⟩ : ByteArray).data.toList = x from rfl] at hrc
  have HFT := Lib.hid (HM5.out.disk.fit x)
  obtain ⟨R, hR⟩ : ∃ R, R = rRead q2 x := ⟨_, rfl⟩
  rw [← hR] at hrc HFT
  obtain ⟨xs, er⟩ := R
  simp only at hrc HFT
  have HRR := Lib.hid hR
  have HRC := Lib.hid hrc
  clear hrc hR
  go_wp2_with fail
  refine HRC.out.mono ?_
  rintro e w6 ⟨v6, rfl, ho6, hb6⟩
  obtain ⟨A6, c6, hv6⟩ := own_slice ho6
  subst hv6
  obtain ⟨xn, hxn⟩ : ∃ z, z = xs.length := ⟨_, rfl⟩
  rw [← hxn] at ho6 HFT ⊢
  have hbs := BytesIn.own ho6 (by have := HFT.out; unfold maxLen; omega)
  have HM6 := Lib.hid (HM5.out.later hb6)
  have HBS := Lib.hid hbs
  have HXN := Lib.hid hxn
  clear ho6 hb6 hbs hxn HRC
  obtain ⟨t1, ht1⟩ : ∃ t, t = okName x := ⟨_, rfl⟩
  have HRT : Hid (Calls Tryz.prog 50 #[.string ⟨x.toArray⟩] w6 fun e w' => e = .returned (.bool t1) ∧ w6 = w') := Lib.hid (by
    have := Right_any ⟨x.toArray⟩ w6 (by have := HXX.out; show x.length ≤ maxLen; unfold maxLen; omega)
    rw [show (⟨x.toArray⟩ : ByteArray).data.toList = x from rfl, ← ht1] at this
    exact this)
  have HT1 := Lib.hid ht1
  clear ht1
  cases t1 with
  | true =>
    have HE0 : Hid (E = 0) := Lib.hid (HOK.out HT1.out.symm).1
    have hrd := (HOK.out HT1.out.symm).2
    rw [← HRR.out] at hrd
    have e1 : xs = l2 := congrArg Prod.fst hrd
    have e2 : er = 0 := congrArg Prod.snd hrd
    obtain ⟨k0, by0, by2, r1, bw⟩ := HALL.out w6 (below_then HB2.out HM6.out.below HB2.out.size)
    have s1 := str_of HBS.out c6
    have s2 := str_of by2 d2
    rw [e1] at s1
    have f0 := k0.cell 0
    have f1 := k0.cell 1
    have f2 := k0.cell 2
    simp only [List.getElem?_toArray, List.getElem?_cons_zero, List.getElem?_cons_succ] at f0 f1 f2
    rw [HE0.out, e2]
    clear k0 by0 by2 r1 bw hrd e1 e2
    have hsc := fun (mm : Unit) => pSave_any HM6.out.disk (HCAN2.out.mono (by omega)) m A n c (HALL.out w6 (below_then HB2.out HM6.out.below HB2.out.size)).2.2.2.1
    have hsc := hsc ()
    have hcan := (HCAN2.out.mono (show 80 + 7 ≤ 96 by omega)).save m
    by_cases hm : mOk m
    case neg =>
      have HE : Hid (mErr m = 1) := Lib.hid (mErr_one hm)
      have hsv : rSave q2 m = (1, q2) := by
        unfold rSave
        rw [HE.out, if_pos (by omega)]
      rw [hsv] at hsc
      have HSV := Lib.hid hsc
      clear hm hsv hsc hcan
      go_wp2_with fail
      refine HRT.out.mono ?_
      rintro e w6b ⟨rfl, e6⟩
      subst e6
      go_wp2_with fail
      refine HSV.out.mono ?_
      rintro e w7 ⟨rfl, F7, hp7, hk7, hn7⟩
      have HM7 := Lib.hid (HM6.out.mov hp7 ⟨hk7, hn7⟩)
      obtain ⟨k0, by0, by2, r1, bw⟩ := HALL.out w7 (below_then HB2.out HM7.out.below HB2.out.size)
      clear f0 f1 f2 s1 s2 hp7 hk7 hn7
      have f0 := k0.cell 0
      have f1 := k0.cell 1
      have f2 := k0.cell 2
      simp only [List.getElem?_toArray, List.getElem?_cons_zero, List.getElem?_cons_succ] at f0 f1 f2
      have hck := pCheck_any w7 m A n c r1
      rw [HE.out] at hck
      have HCK := Lib.hid hck
      clear k0 by0 by2 r1 bw hck
      go_wp2_with fail
      refine HCK.out.mono ?_
      rintro e w8 ⟨rfl, hb8⟩
      have HM8 := Lib.hid (HM7.out.later hb8)
      obtain ⟨-, -, -, -, bw⟩ := HALL.out w8 (below_then HB2.out HM8.out.below HB2.out.size)
      have HBF := Lib.hid bw
      clear hb8 bw f0 f1 f2
      go_wp2
      go_ret
      exact ⟨rfl, HBF.out⟩
    obtain ⟨q3, q4, hs3, hs4, hfl, hdl⟩ := saves_math (mErr_zero hm) HON.out HI.out HRO.out HLE.out HSU.out
    rw [hs3] at hsc hcan
    have HSV := Lib.hid hsc
    have HCAN3 := Lib.hid hcan
    have HS4 := Lib.hid hs4
    have HFL := Lib.hid hfl
    have HDL := Lib.hid hdl
    clear hm hs3 hs4 hfl hdl hsc hcan
    go_wp2_with fail
    refine HRT.out.mono ?_
    rintro e w6b ⟨rfl, e6⟩
    subst e6
    go_wp2_with fail
    refine HSV.out.mono ?_
    rintro e w7 ⟨rfl, F7, hp7, hk7, hn7⟩
    have HM7 := Lib.hid (HM6.out.mov hp7 ⟨hk7, hn7⟩)
    clear f0 f1 f2 s1 s2 hp7 hk7 hn7 HSV HRT
    go_wp2_with fail
    refine (pFiles_any HM7.out.disk).mono ?_
    rintro e w8 ⟨v8, rfl, hf8, hb8⟩
    have HM8 := Lib.hid (HM7.out.later hb8)
    have HF8 := Lib.hid hf8
    have hlt : ∀ i, F7 i → i < w7.heap.size := HM7.out.disk.lt
    have HLT := Lib.hid hlt
    obtain ⟨k0, by0, by2, r1, bw⟩ := HALL.out w8 (below_then HB2.out HM8.out.below HB2.out.size)
    have f0 := k0.cell 0
    have f1 := k0.cell 1
    have f2 := k0.cell 2
    simp only [List.getElem?_toArray, List.getElem?_cons_zero, List.getElem?_cons_succ] at f0 f1 f2
    have hsc := pSave_any HM8.out.disk (HCAN3.out.mono (by omega)) m A n c r1
    rw [HS4.out] at hsc
    have HSV := Lib.hid hsc
    obtain ⟨A8, c8, hv8⟩ := hf8.slice
    clear k0 by0 by2 r1 bw hsc hb8 hf8 hlt
    subst hv8
    go_wp2_with fail
    refine HSV.out.mono ?_
    rintro e w9 ⟨rfl, F9, hp9, hk9, hn9⟩
    have HM9 := Lib.hid (HM8.out.mov hp9 ⟨hk9, hn9⟩)
    have HF9 := Lib.hid (HF8.out.kept hk9 HLT.out)
    clear hp9 hk9 hn9 HSV f0 f1 f2
    have HFC := Lib.hid (pFiles_any HM9.out.disk)
    go_wp2_with fail
    refine HFC.out.mono ?_
    rintro e w10 ⟨v10, rfl, hf10, hb10⟩
    have HM10 := Lib.hid (HM9.out.later hb10)
    have hfs := SameFiles_any hf10 (HF9.out.below hb10) (by have := HDL.out; simp only [rFiles, List.length_map]; omega)
    rw [decide_eq_true HFL.out] at hfs
    have HFS := Lib.hid hfs
    obtain ⟨A10, c10, hv10⟩ := hf10.slice
    clear hb10 hf10 hfs HFC
    subst hv10
    go_wp2_with fail
    refine HFS.out.mono ?_
    rintro e w11 ⟨rfl, m11, rfl⟩
    obtain ⟨-, -, -, -, bw⟩ := HALL.out w10 (below_then HB2.out HM10.out.below HB2.out.size)
    have HBF := Lib.hid (below_drewN bw m11)
    clear bw
    go_wp2
    go_ret
    exact ⟨rfl, HBF.out⟩
  | false =>
    have HE0 : Hid (E = 1) := Lib.hid (HBAD.out HT1.out.symm)
    obtain ⟨k0, by0, by2, r1, bw⟩ := HALL.out w6 (below_then HB2.out HM6.out.below HB2.out.size)
    have f0 := k0.cell 0
    have f1 := k0.cell 1
    have f2 := k0.cell 2
    simp only [List.getElem?_toArray, List.getElem?_cons_zero, List.getElem?_cons_succ] at f0 f1 f2
    rw [HE0.out]
    clear k0 by0 by2 r1 bw
    have hsc := fun (mm : Unit) => pSave_any HM6.out.disk (HCAN2.out.mono (by omega)) m A n c (HALL.out w6 (below_then HB2.out HM6.out.below HB2.out.size)).2.2.2.1
    have hsc := hsc ()
    have hcan := (HCAN2.out.mono (show 80 + 7 ≤ 96 by omega)).save m
    by_cases hm : mOk m
    case neg =>
      have HE : Hid (mErr m = 1) := Lib.hid (mErr_one hm)
      have hsv : rSave q2 m = (1, q2) := by
        unfold rSave
        rw [HE.out, if_pos (by omega)]
      rw [hsv] at hsc
      have HSV := Lib.hid hsc
      clear hm hsv hsc hcan
      go_wp2_with fail
      refine HRT.out.mono ?_
      rintro e w6b ⟨rfl, e6⟩
      subst e6
      go_wp2_with fail
      refine HSV.out.mono ?_
      rintro e w7 ⟨rfl, F7, hp7, hk7, hn7⟩
      have HM7 := Lib.hid (HM6.out.mov hp7 ⟨hk7, hn7⟩)
      obtain ⟨k0, by0, by2, r1, bw⟩ := HALL.out w7 (below_then HB2.out HM7.out.below HB2.out.size)
      clear f0 f1 f2 hp7 hk7 hn7
      have f0 := k0.cell 0
      have f1 := k0.cell 1
      have f2 := k0.cell 2
      simp only [List.getElem?_toArray, List.getElem?_cons_zero, List.getElem?_cons_succ] at f0 f1 f2
      have hck := pCheck_any w7 m A n c r1
      rw [HE.out] at hck
      have HCK := Lib.hid hck
      clear k0 by0 by2 r1 bw hck
      go_wp2_with fail
      refine HCK.out.mono ?_
      rintro e w8 ⟨rfl, hb8⟩
      have HM8 := Lib.hid (HM7.out.later hb8)
      obtain ⟨-, -, -, -, bw⟩ := HALL.out w8 (below_then HB2.out HM8.out.below HB2.out.size)
      have HBF := Lib.hid bw
      clear hb8 bw f0 f1 f2
      go_wp2
      go_ret
      exact ⟨rfl, HBF.out⟩
    obtain ⟨q3, q4, hs3, hs4, hfl, hdl⟩ := saves_math (mErr_zero hm) HON.out HI.out HRO.out HLE.out HSU.out
    rw [hs3] at hsc hcan
    have HSV := Lib.hid hsc
    have HCAN3 := Lib.hid hcan
    have HS4 := Lib.hid hs4
    have HFL := Lib.hid hfl
    have HDL := Lib.hid hdl
    clear hm hs3 hs4 hfl hdl hsc hcan
    go_wp2_with fail
    refine HRT.out.mono ?_
    rintro e w6b ⟨rfl, e6⟩
    subst e6
    go_wp2_with fail
    refine HSV.out.mono ?_
    rintro e w7 ⟨rfl, F7, hp7, hk7, hn7⟩
    have HM7 := Lib.hid (HM6.out.mov hp7 ⟨hk7, hn7⟩)
    clear f0 f1 f2 hp7 hk7 hn7 HSV HRT
    go_wp2_with fail
    refine (pFiles_any HM7.out.disk).mono ?_
    rintro e w8 ⟨v8, rfl, hf8, hb8⟩
    have HM8 := Lib.hid (HM7.out.later hb8)
    have HF8 := Lib.hid hf8
    have hlt : ∀ i, F7 i → i < w7.heap.size := HM7.out.disk.lt
    have HLT := Lib.hid hlt
    obtain ⟨k0, by0, by2, r1, bw⟩ := HALL.out w8 (below_then HB2.out HM8.out.below HB2.out.size)
    have f0 := k0.cell 0
    have f1 := k0.cell 1
    have f2 := k0.cell 2
    simp only [List.getElem?_toArray, List.getElem?_cons_zero, List.getElem?_cons_succ] at f0 f1 f2
    have hsc := pSave_any HM8.out.disk (HCAN3.out.mono (by omega)) m A n c r1
    rw [HS4.out] at hsc
    have HSV := Lib.hid hsc
    obtain ⟨A8, c8, hv8⟩ := hf8.slice
    clear k0 by0 by2 r1 bw hsc hb8 hf8 hlt
    subst hv8
    go_wp2_with fail
    refine HSV.out.mono ?_
    rintro e w9 ⟨rfl, F9, hp9, hk9, hn9⟩
    have HM9 := Lib.hid (HM8.out.mov hp9 ⟨hk9, hn9⟩)
    have HF9 := Lib.hid (HF8.out.kept hk9 HLT.out)
    clear hp9 hk9 hn9 HSV f0 f1 f2
    have HFC := Lib.hid (pFiles_any HM9.out.disk)
    go_wp2_with fail
    refine HFC.out.mono ?_
    rintro e w10 ⟨v10, rfl, hf10, hb10⟩
    have HM10 := Lib.hid (HM9.out.later hb10)
    have hfs := SameFiles_any hf10 (HF9.out.below hb10) (by have := HDL.out; simp only [rFiles, List.length_map]; omega)
    rw [decide_eq_true HFL.out] at hfs
    have HFS := Lib.hid hfs
    obtain ⟨A10, c10, hv10⟩ := hf10.slice
    clear hb10 hf10 hfs HFC
    subst hv10
    go_wp2_with fail
    refine HFS.out.mono ?_
    rintro e w11 ⟨rfl, m11, rfl⟩
    obtain ⟨-, -, -, -, bw⟩ := HALL.out w10 (below_then HB2.out HM10.out.below HB2.out.size)
    have HBF := Lib.hid (below_drewN bw m11)
    clear bw
    go_wp2
    go_ret
    exact ⟨rfl, HBF.out⟩
end Go.Proofs.YtmhiekbpmoikfaaGreatDoor
