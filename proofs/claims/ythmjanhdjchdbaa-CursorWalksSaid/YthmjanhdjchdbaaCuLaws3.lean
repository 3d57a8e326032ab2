/- The law CursorWalks. -/
import Derived.Test.YthmjanhdjchdbaaCuPos
import Derived.Lib.MinMax
import Derived.Deep.RegionHeld3
import Derived.Lib.SmallJoins
namespace Go.Proofs.Ythmjanhdjchdbaa
open Go.RowKit Go.Maps Go.WideMaps
set_option linter.unusedSimpArgs false

theorem cNext_at {s : CSt} (h : s.at_ < s.l.length) : (cNext s).at_ = s.at_ + 1 := by
  unfold cNext
  rw [(cStand_l _).2, if_pos h]
theorem cStart_at (l : List Pst) : (cStart l).at_ = 0 := (cStand_l _).2
theorem skip_zero {s : CSt} (h : CWF s) (hV : ValidP s.l) (hs : cStand s = s) : cSkip s 0 = s := by
  have h1 : firstN s.l 0 s.at_ = s.at_ := IsFirst.eq ⟨Nat.le_refl _, h.at_, fun i h1 h2 => by omega, fun h1 => (hV.docs _ (pAt_mem h1)).1⟩ h.at_
  unfold cSkip
  unfold firstN at h1
  rw [h1]
  exact hs

set_option maxHeartbeats 16000000 in
set_option maxRecDepth 100000 in
theorem cursorWalks_any {K : World → (Nat → Prop) → Nat → CSt → Prop} (hK : CursorOk K) (W : World) (A : Option Addr) (n c : Nat) (l : List Pst) (hl : PostsSz W A n l) (d : Int) (hd : fits64 d) :
    Calls Try.prog 5 #[.slice A n c, .int .i64 d] W fun e w' => e = .returned (.bool true) ∧ Below W.heap.size W w' := by
  have hep := eqCurNil
  have HK := Lib.hid hK
  have HH := Lib.hid (cuHead_any hK W)
  have HL := Lib.hid hl
  have hll := hl.1.len
  have HLN := Lib.hid hll
  have hn63 : n ≤ 140737488351232 := hl.2.2
  clear hl hK hll
  go_enter Try.func5, Try.ntmps5
  go_wp2_with fail
  refine HH.out.mono ?_
  rintro e w1 ⟨rfl, hb1⟩
  have HB1 := Lib.hid hb1
  obtain ⟨Z, hZ⟩ : ∃ Z, putE l = Z := ⟨_, rfl⟩
  have HZ := Lib.hid hZ
  have HCB := Lib.hid (cuBytes_any w1 A n c l (HL.out.1.below hb1) (by omega) hZ)
  have hzl : Z.length ≤ 368803860 := by rw [← hZ]; exact putE_len (fit_of HL.out.1)
  clear hb1 hZ
  go_wp2_with fail
  refine HCB.out.mono ?_
  rintro e w2 ⟨X, cx, rfl, hi2, hcx, -, hb2⟩
  have HB2 := Lib.hid (below_then HB1.out hb2 HB1.out.size)
  have HI2 := Lib.hid hi2
  have HG := Lib.hid (cuGreat_any w2 A n c l (HL.out.1.below HB2.out) HL.out.2.2 HL.out.2.1)
  clear hb2 hi2 HCB
  go_wp2_with fail
  refine HG.out.mono ?_
  rintro e w3 ⟨r, rfl, hw3, hr⟩
  rw [hw3]
  clear hw3
  cases r with
  | true =>
    clear hr
    go_wp2
    go_ret
    exact ⟨rfl, HB2.out⟩
  | false =>
    obtain ⟨hn2, hx2⟩ := hr rfl
    have hn4 : n < 10000 := by omega
    clear hr
    by_cases hz0 : Z.length = 0
    · have d1 : ((Z.length : Int) == 0) = true := by simpa using hz0
      have d1n : (Z.length == 0) = true := by simpa using hz0
      clear hz0 hx2 hn2
      go_wp2
      go_ret
      exact ⟨rfl, HB2.out⟩
    · have d1 : ((Z.length : Int) == 0) = false := beq_eq_false_iff_ne.2 (by omega)
      have d1n : (Z.length == 0) = false := beq_eq_false_iff_ne.2 (by omega)
      have HGG := Lib.hid (has_bytes (fit_of HL.out.1) HZ.out (by omega))
      clear hz0 hx2 hn2
      have HN := Lib.hid (cur_new HK.out HB2.out HI2.out hcx (by omega) HGG.out)
      go_wp2_with fail
      refine HN.out.mono ?_
      rintro e w4 ⟨b1, F, rfl, hcu, hbn, -⟩
      have HC4 := Lib.hid hcu
      have HB4 := Lib.hid hcu.below
      have HI4 := Lib.hid (HI2.out.below hbn)
      have HN2 := Lib.hid (cur_new HK.out HB4.out HI4.out hcx (by omega) HGG.out)
      clear hcu HN hbn
      go_wp2_with fail
      refine HN2.out.mono ?_
      rintro e w5 ⟨b2, G, rfl, hcu2, hbn2, hG⟩
      have HD := Lib.hid (Duo.made HK.out HC4.out hcu2 hbn2 hG)
      clear hcu2 hbn2 hG HN2
      go_wp2_with fail
      refine (duo_skip HK.out HD.out.swap d hd).mono ?_
      rintro e w6 ⟨rfl, G6, hd6⟩
      have HD6 := Lib.hid hd6.swap
      clear hd6
      obtain ⟨t, ht⟩ : ∃ t, t = cSkip (cStart l) d := ⟨_, rfl⟩
      rw [← ht] at HD6 ⊢
      have htl : t.l = l := by rw [ht, cSkip_l, cStart_l]
      have hts : cStand t = t := by rw [ht]; exact cSkip_stands _ _
      have htp : IsFirst l d 0 t.at_ := by
        rw [ht, cSkip_at, cStart_l, cStart_at]
        exact firstN_is (Nat.zero_le _)
      obtain ⟨p, hp⟩ : ∃ p, p = t.at_ := ⟨_, rfl⟩
      rw [← hp] at htp
      have hpn : p ≤ n := by rw [← HLN.out]; exact htp.upto
      obtain ⟨I, hI⟩ : ∃ I, I = cIn t := ⟨_, rfl⟩
      obtain ⟨X0, hX0⟩ : ∃ X0, X0 = cDoc t := ⟨_, rfl⟩
      have hIp : I = decide (p < n) := by rw [hI, hp]; unfold cIn; rw [htl, HLN.out]
      have hXp : p < n → X0 = (pAt l p).1 := fun h => by rw [hX0, hp]; unfold cDoc; rw [htl, if_pos (by rw [HLN.out, ← hp]; exact h)]
      have HT := Lib.hid ht
      have HTS := Lib.hid hts
      have HTP := Lib.hid htp
      have HII := Lib.hid hI
      have HXX := Lib.hid hX0
      have HIP := Lib.hid hIp
      have HXP := Lib.hid hXp
      have HTL := Lib.hid htl
      have HV := Lib.hid (valid_of HGG.out)
      rw [← hI]
      have HDA := Lib.hid (cur_doc HK.out HD6.out.two)
      rw [← hX0, ← hI] at HDA
      clear ht htl hts htp hp hI hX0 hIp hXp
      go_wp2_with fail
      refine HDA.out.mono ?_
      rintro e w7 ⟨rfl, hb7⟩
      have HD7 := Lib.hid (HD6.out.later HK.out hb7)
      clear hb7 HDA
      go_wp2
      go_loopw [14, 15] (fun v iv wr => ∃ (i : Nat) (F' : Nat → Prop) (s' : CSt), i ≤ n ∧ v = .bool (decide (p < i)) ∧ iv = .int .i64 i ∧ s'.at_ = i ∧ Duo K W wr F' b1 s' G6 b2 t l) (fun _ iv _ => n - (Go.RowKit.intOf iv).toNat)
      case atStart => exact ⟨0, F, _, by omega, by simp, rfl, cStart_at l, HD7.out⟩
      case round =>
        obtain ⟨i, F', s', hin, rfl, rfl, hsi, hdu⟩ := hrel
        have HDU := Lib.hid hdu
        have HSI := Lib.hid hsi
        clear hdu hsi
        rcases Nat.lt_or_ge i n with hlt | hge
        · have hlt' : (i : Int) < (n : Int) := by omega
          have p0 : (0 : Int) ≤ (i : Int) := by omega
          obtain ⟨pa, x, SA, da, rfl, hx, hxf, a0, a1, -, sa⟩ := (HL.out.1.below HDU.out.one.below).at i hlt
          have hpx := pAt_eq hx
          obtain ⟨D, hD⟩ : ∃ D, D = x.1 := ⟨_, rfl⟩
          obtain ⟨P, hP⟩ : ∃ P, P = x.2 := ⟨_, rfl⟩
          rw [← hD] at a0
          rw [← hP] at a1 sa
          have hs'l := HDU.out.one.same
          have hcd : cDoc s' = D := by unfold cDoc; rw [hs'l, HSI.out, if_pos (by rw [HLN.out]; exact hlt), hpx, hD]
          have hci : cIn s' = true := by unfold cIn; rw [hs'l, HSI.out]; exact decide_eq_true (by rw [HLN.out]; exact hlt)
          have hcs : cSpots s' = P := by unfold cSpots; rw [hs'l, HSI.out, if_pos (by rw [HLN.out]; exact hlt), hpx, hP]
          have hna : (cNext s').at_ = i + 1 := by rw [cNext_at (by rw [hs'l, HSI.out, HLN.out]; exact hlt), HSI.out]
          have hni : cIn (cNext s') = decide (i + 1 < n) := by unfold cIn; rw [hna, cNext_l, hs'l, HLN.out]
          have HNA := Lib.hid hna
          have HNI := Lib.hid hni
          have HDOC := Lib.hid (by rw [hpx, ← hD] : (pAt l i).1 = D)
          have HPI := Lib.hid sa
          have HSS : Hid (∀ u, Below wr.heap.size wr u → u.cell? (pa.add (i * 2)) = some (.int .i64 D) ∧ u.cell? ⟨(pa.add (i * 2)).block, (pa.add (i * 2)).off + 1, none⟩ = some (.slice SA P.length da)) := Lib.hid (fun u hu => ⟨below_cells hu a0, below_cells hu a1⟩)
          have HDC := Lib.hid (cur_doc HK.out HDU.out.one)
          rw [hcd, hci] at HDC
          have HCSP := Lib.hid hcs
          clear hx hxf a0 a1 sa hpx hD hP hs'l hcd hci hcs hna hni
          go_wp2_with fail
          refine HDC.out.mono ?_
          rintro e w8 ⟨rfl, hb8⟩
          have HDU8 := Lib.hid (HDU.out.later HK.out hb8)
          have HSS8 : Hid (∀ u, Below w8.heap.size w8 u → u.cell? (pa.add (i * 2)) = some (.int .i64 D) ∧ u.cell? ⟨(pa.add (i * 2)).block, (pa.add (i * 2)).off + 1, none⟩ = some (.slice SA P.length da)) := Lib.hid (fun u hu => HSS.out u (below_then (Below.refl wr.heap.size wr |>.trans hb8) hu hb8.size))
          have HPI8 := Lib.hid (HPI.out.below hb8)
          clear hb8 HDC HSS HPI HDU
          obtain ⟨wo, hwo⟩ : ∃ z, z = wr := ⟨_, rfl⟩
          clear hwo
          obtain ⟨wr, rfl⟩ : ∃ z, z = w8 := ⟨_, rfl⟩
          have HSS := HSS8
          have HPI := HPI8
          have HSP : Hid (∀ u, Below wr.heap.size wr u → Calls Try.prog 16 #[.pointer (some ⟨b1, 0, none⟩)] u (SpotsOut u P)) := Lib.hid (fun u hu => by
            have h1 := HDU8.out.later HK.out hu
            have h2 := HK.out.spots h1.one.at_ h1.one.wf
            rw [HCSP.out] at h2
            exact h2)
          have n1 : (D != D) = false := by simp
          clear HSS8 HPI8
          go_wp2_with fail
          refine wp_region_held_drew (S := fun w' => w'.cell? (pa.add (i * 2)) = some (.int .i64 D) ∧ w'.cell? ⟨(pa.add (i * 2)).block, (pa.add (i * 2)).off + 1, none⟩ = some (.slice SA P.length da)) (by kernel_rfl) (HSS.out wr (Below.refl _ _)) (fun hHeld => ?_)
          obtain ⟨u0, hu0⟩ : ∃ z, z = wr.drew := ⟨_, rfl⟩
          rw [← hu0]
          have HBU : Hid (Below wr.heap.size wr u0) := Lib.hid (by rw [hu0]; exact (Below.refl _ wr).drew)
          have hSu := HSS.out _ HBU.out
          clear hu0
          refine wpAnyH_take (i := 0) (oi := ?oiy10) (v := ?vy10) ?hiy10 (by kernel_rfl) (by kernel_rfl) (by kernel_rfl) ?hQy10 (Or.inl ⟨?hwy10, ?hyy10⟩) (by assumption) ?resty10
          case hiy10 => (first | (simp only [List.getElem?_toArray, List.getElem?_cons_zero, List.getElem?_cons_succ]; rfl) | rfl)
          case hQy10 => exact fun _ _ _ h => h
          case hwy10 => rfl
          case hyy10 => ((intro w hSw; go_simp); first | done | with_reducible rfl)
          try simp only [Act.put, List.setIfInBounds_toArray, List.set_cons_zero, List.set_cons_succ]
          refine wpAnyH_take (i := 1) (oi := ?oiy21) (v := ?vy21) ?hiy21 (by kernel_rfl) (by kernel_rfl) (by kernel_rfl) ?hQy21 (Or.inl ⟨?hwy21, ?hyy21⟩) (by assumption) ?resty21
          case hiy21 => (first | (simp only [List.getElem?_toArray, List.getElem?_cons_zero, List.getElem?_cons_succ]; rfl) | rfl)
          case hQy21 => exact fun _ _ _ h => h
          case hwy21 => rfl
          case hyy21 => ((intro w hSw; go_simp); first | done | with_reducible rfl)
          try simp only [Act.put, List.setIfInBounds_toArray, List.set_cons_zero, List.set_cons_succ]
          refine wpAnyH_take (i := 2) (oi := ?oiy32) (v := ?vy32) ?hiy32 (by kernel_rfl) (by kernel_rfl) (by kernel_rfl) ?hQy32 (Or.inl ⟨?hwy32, ?hyy32⟩) (by assumption) ?resty32
          case hiy32 => (first | (simp only [List.getElem?_toArray, List.getElem?_cons_zero, List.getElem?_cons_succ]; rfl) | rfl)
          case hQy32 => exact fun _ _ _ h => h
          case hwy32 => rfl
          case hyy32 => ((intro w hSw; go_simp); first | done | with_reducible rfl)
          try simp only [Act.put, List.setIfInBounds_toArray, List.set_cons_zero, List.set_cons_succ]
          refine wpAnyH_take (i := 3) (oi := ?oiy43) (v := ?vy43) ?hiy43 (by kernel_rfl) (by kernel_rfl) (by kernel_rfl) ?hQy43 (Or.inl ⟨?hwy43, ?hyy43⟩) (by assumption) ?resty43
          case hiy43 => (first | (simp only [List.getElem?_toArray, List.getElem?_cons_zero, List.getElem?_cons_succ]; rfl) | rfl)
          case hQy43 => exact fun _ _ _ h => h
          case hwy43 => rfl
          case hyy43 => ((intro w hSw; go_simp); first | done | with_reducible rfl)
          try simp only [Act.put, List.setIfInBounds_toArray, List.set_cons_zero, List.set_cons_succ]
          refine wpAnyH_take (i := 4) (oi := ?oiy54) (v := ?vy54) ?hiy54 (by kernel_rfl) (by kernel_rfl) (by kernel_rfl) ?hQy54 (Or.inl ⟨?hwy54, ?hyy54⟩) (by assumption) ?resty54
          case hiy54 => (first | (simp only [List.getElem?_toArray, List.getElem?_cons_zero, List.getElem?_cons_succ]; rfl) | rfl)
          case hQy54 => exact fun _ _ _ h => h
          case hwy54 => rfl
          case hyy54 => ((intro w hSw; go_simp); first | done | with_reducible rfl)
          try simp only [Act.put, List.setIfInBounds_toArray, List.set_cons_zero, List.set_cons_succ]
          refine wpAnyH_take (i := 5) (oi := ?oiy65) (v := ?vy65) ?hiy65 (by kernel_rfl) (by kernel_rfl) (by kernel_rfl) ?hQy65 (Or.inl ⟨?hwy65, ?hyy65⟩) (by assumption) ?resty65
          case hiy65 => (first | (simp only [List.getElem?_toArray, List.getElem?_cons_zero, List.getElem?_cons_succ]; rfl) | rfl)
          case hQy65 => exact fun _ _ _ h => h
          case hwy65 => rfl
          case hyy65 => ((intro w hSw; go_simp); first | done | with_reducible rfl)
          try simp only [Act.put, List.setIfInBounds_toArray, List.set_cons_zero, List.set_cons_succ]
          refine wpAnyH_take (i := 6) (oi := ?oiy76) (v := ?vy76) ?hiy76 (by kernel_rfl) (by kernel_rfl) (by kernel_rfl) ?hQy76 (Or.inl ⟨?hwy76, ?hyy76⟩) (by assumption) ?resty76
          case hiy76 => (first | (simp only [List.getElem?_toArray, List.getElem?_cons_zero, List.getElem?_cons_succ]; rfl) | rfl)
          case hQy76 => exact fun _ _ _ h => h
          case hwy76 => rfl
          case hyy76 => ((intro w hSw; go_simp); first | done | with_reducible rfl)
          try simp only [Act.put, List.setIfInBounds_toArray, List.set_cons_zero, List.set_cons_succ]
          refine wpAnyH_take (i := 7) (oi := ?oiy87) (v := ?vy87) ?hiy87 (by kernel_rfl) (by kernel_rfl) (by kernel_rfl) ?hQy87 (Or.inl ⟨?hwy87, ?hyy87⟩) (by assumption) ?resty87
          case hiy87 => (first | (simp only [List.getElem?_toArray, List.getElem?_cons_zero, List.getElem?_cons_succ]; rfl) | rfl)
          case hQy87 => exact fun _ _ _ h => h
          case hwy87 => rfl
          case hyy87 => ((intro w hSw; go_simp); first | done | with_reducible rfl)
          try simp only [Act.put, List.setIfInBounds_toArray, List.set_cons_zero, List.set_cons_succ]
          refine wpAnyH_take (i := 8) (oi := ?oiy98) (v := ?vy98) ?hiy98 (by kernel_rfl) (by kernel_rfl) (by kernel_rfl) ?hQy98 (Or.inl ⟨?hwy98, ?hyy98⟩) (by assumption) ?resty98
          case hiy98 => (first | (simp only [List.getElem?_toArray, List.getElem?_cons_zero, List.getElem?_cons_succ]; rfl) | rfl)
          case hQy98 => exact fun _ _ _ h => h
          case hwy98 => rfl
          case hyy98 => ((intro w hSw; go_simp); first | done | with_reducible rfl)
          try simp only [Act.put, List.setIfInBounds_toArray, List.set_cons_zero, List.set_cons_succ]
          refine wpAnyH_take (i := 9) (oi := ?oiy109) (v := ?vy109) ?hiy109 (by kernel_rfl) (by kernel_rfl) (by kernel_rfl) ?hQy109 (Or.inl ⟨?hwy109, ?hyy109⟩) (by assumption) ?resty109
          case hiy109 => (first | (simp only [List.getElem?_toArray, List.getElem?_cons_zero, List.getElem?_cons_succ]; rfl) | rfl)
          case hQy109 => exact fun _ _ _ h => h
          case hwy109 => rfl
          case hyy109 => ((intro w hSw; go_simp); first | done | with_reducible rfl)
          try simp only [Act.put, List.setIfInBounds_toArray, List.set_cons_zero, List.set_cons_succ]
          refine wpAnyH_take (i := 10) (oi := ?oiy1110) (v := ?vy1110) ?hiy1110 (by kernel_rfl) (by kernel_rfl) (by kernel_rfl) ?hQy1110 (Or.inl ⟨?hwy1110, ?hyy1110⟩) (by assumption) ?resty1110
          case hiy1110 => (first | (simp only [List.getElem?_toArray, List.getElem?_cons_zero, List.getElem?_cons_succ]; rfl) | rfl)
          case hQy1110 => exact fun _ _ _ h => h
          case hwy1110 => rfl
          case hyy1110 => ((intro w hSw; go_simp); first | done | with_reducible rfl)
          try simp only [Act.put, List.setIfInBounds_toArray, List.set_cons_zero, List.set_cons_succ]
          refine wpAnyH_take (i := 11) (oi := ?oiy1211) (v := ?vy1211) ?hiy1211 (by kernel_rfl) (by kernel_rfl) (by kernel_rfl) ?hQy1211 (Or.inl ⟨?hwy1211, ?hyy1211⟩) (by assumption) ?resty1211
          case hiy1211 => (first | (simp only [List.getElem?_toArray, List.getElem?_cons_zero, List.getElem?_cons_succ]; rfl) | rfl)
          case hQy1211 => exact fun _ _ _ h => h
          case hwy1211 => rfl
          case hyy1211 => ((intro w hSw; go_simp); first | done | with_reducible rfl)
          try simp only [Act.put, List.setIfInBounds_toArray, List.set_cons_zero, List.set_cons_succ]
          refine wpAnyH_take (i := 12) (oi := ?oiy1312) (v := ?vy1312) ?hiy1312 (by kernel_rfl) (by kernel_rfl) (by kernel_rfl) ?hQy1312 (Or.inl ⟨?hwy1312, ?hyy1312⟩) (by assumption) ?resty1312
          case hiy1312 => (first | (simp only [List.getElem?_toArray, List.getElem?_cons_zero, List.getElem?_cons_succ]; rfl) | rfl)
          case hQy1312 => exact fun _ _ _ h => h
          case hwy1312 => rfl
          case hyy1312 => ((intro w hSw; go_simp); first | done | with_reducible rfl)
          try simp only [Act.put, List.setIfInBounds_toArray, List.set_cons_zero, List.set_cons_succ]
          refine wpAnyH_take (i := 14) (oi := ?oiy1414) (v := ?vy1414) ?hiy1414 (by kernel_rfl) (by kernel_rfl) (by kernel_rfl) ?hQy1414 (Or.inl ⟨?hwy1414, ?hyy1414⟩) (by assumption) ?resty1414
          case hiy1414 => (first | (simp only [List.getElem?_toArray, List.getElem?_cons_zero, List.getElem?_cons_succ]; rfl) | rfl)
          case hQy1414 => exact fun _ _ _ h => h
          case hwy1414 => rfl
          case hyy1414 => ((intro w hSw; go_simp); first | done | with_reducible rfl)
          try simp only [Act.put, List.setIfInBounds_toArray, List.set_cons_zero, List.set_cons_succ]
          refine wpAnyH_take (i := 15) (oi := ?oiy1515) (v := ?vy1515) ?hiy1515 (by kernel_rfl) (by kernel_rfl) (by kernel_rfl) ?hQy1515 (Or.inl ⟨?hwy1515, ?hyy1515⟩) (by assumption) ?resty1515
          case hiy1515 => (first | (simp only [List.getElem?_toArray, List.getElem?_cons_zero, List.getElem?_cons_succ]; rfl) | rfl)
          case hQy1515 => exact fun _ _ _ h => h
          case hwy1515 => rfl
          case hyy1515 => ((intro w hSw; go_simp); first | done | with_reducible rfl)
          try simp only [Act.put, List.setIfInBounds_toArray, List.set_cons_zero, List.set_cons_succ]
          refine wpAnyH_take (i := 16) (oi := ?oiy1616) (v := ?vy1616) ?hiy1616 (by kernel_rfl) (by kernel_rfl) (by kernel_rfl) ?hQy1616 (Or.inl ⟨?hwy1616, ?hyy1616⟩) (by assumption) ?resty1616
          case hiy1616 => (first | (simp only [List.getElem?_toArray, List.getElem?_cons_zero, List.getElem?_cons_succ]; rfl) | rfl)
          case hQy1616 => exact fun _ _ _ h => h
          case hwy1616 => rfl
          case hyy1616 => ((intro w hSw; go_simp); first | done | with_reducible rfl)
          try simp only [Act.put, List.setIfInBounds_toArray, List.set_cons_zero, List.set_cons_succ]
          refine wpAnyH_take (i := 17) (oi := ?oiy1717) (v := ?vy1717) ?hiy1717 (by kernel_rfl) (by kernel_rfl) (by kernel_rfl) ?hQy1717 (Or.inl ⟨?hwy1717, ?hyy1717⟩) (by assumption) ?resty1717
          case hiy1717 => (first | (simp only [List.getElem?_toArray, List.getElem?_cons_zero, List.getElem?_cons_succ]; rfl) | rfl)
          case hQy1717 => exact fun _ _ _ h => h
          case hwy1717 => rfl
          case hyy1717 => ((intro w hSw; go_simp); first | done | with_reducible rfl)
          try simp only [Act.put, List.setIfInBounds_toArray, List.set_cons_zero, List.set_cons_succ]
          refine wpAnyH_take (i := 18) (oi := ?oiy1818) (v := ?vy1818) ?hiy1818 (by kernel_rfl) (by kernel_rfl) (by kernel_rfl) ?hQy1818 (Or.inl ⟨?hwy1818, ?hyy1818⟩) (by assumption) ?resty1818
          case hiy1818 => (first | (simp only [List.getElem?_toArray, List.getElem?_cons_zero, List.getElem?_cons_succ]; rfl) | rfl)
          case hQy1818 => exact fun _ _ _ h => h
          case hwy1818 => rfl
          case hyy1818 => ((intro w hSw; go_simp); first | done | with_reducible rfl)
          try simp only [Act.put, List.setIfInBounds_toArray, List.set_cons_zero, List.set_cons_succ]
          refine wpAnyH_ready (rs := [13]) (by kernel_rfl) (by simp) ?_
          refine AllReadyH.cons (o := ?oy19) ?hy19 ?sy19 AllReadyH.nil
          case hy19 => (simp only [List.getElem?_toArray, List.getElem?_cons_zero, List.getElem?_cons_succ]; rfl)
          case sy19 =>
            intro K hK
            go_simp
            refine (HSP.out _ HBU.out).mono ?_
            rintro e u1 ⟨A1, k1, rfl, hp1, hb1⟩
            have HP1 := Lib.hid hp1
            have HU1 := Lib.hid (below_then HBU.out hb1 HBU.out.size)
            have hS1 := HSS.out _ HU1.out
            clear hp1 hb1
            go_wp2_with fail
            refine hK.out _ _ (HSS.out _ HU1.out) (fun hy20 => ?_)
            clear hK K
            try simp only [Act.put, List.setIfInBounds_toArray, List.set_cons_zero, List.set_cons_succ]
            refine wpAnyH_ready (rs := [19]) (by kernel_rfl) (by simp) ?_
            refine AllReadyH.cons (o := ?oy21) ?hy21 ?sy21 AllReadyH.nil
            case hy21 => (simp only [List.getElem?_toArray, List.getElem?_cons_zero, List.getElem?_cons_succ]; rfl)
            case sy21 =>
              intro K hK
              go_simp
              have hss := r9SameSpots_any u1 A1 SA P.length P.length k1 da P P HP1.out (HPI.out.below HU1.out)
              rw [show decide (P = P) = true by simp] at hss
              have HSM := Lib.hid hss
              clear hss
              refine HSM.out.mono ?_
              rintro e u2 ⟨rfl, q2, hu2⟩
              have HU2 : Hid (Below wr.heap.size wr u2) := Lib.hid (by rw [hu2]; exact below_drewN HU1.out q2)
              have hS2 := HSS.out _ HU2.out
              clear hu2
              go_wp2_with fail
              refine hK.out _ _ (HSS.out _ HU2.out) (fun hy22 => ?_)
              clear hK K
              try simp only [Act.put, List.setIfInBounds_toArray, List.set_cons_zero, List.set_cons_succ]
              refine wpAnyH_take (i := 20) (oi := ?oiy2320) (v := ?vy2320) ?hiy2320 (by kernel_rfl) (by kernel_rfl) (by kernel_rfl) ?hQy2320 (Or.inl ⟨?hwy2320, ?hyy2320⟩) (by assumption) ?resty2320
              case hiy2320 => (first | (simp only [List.getElem?_toArray, List.getElem?_cons_zero, List.getElem?_cons_succ]; rfl) | rfl)
              case hQy2320 => exact fun _ _ _ h => h
              case hwy2320 => rfl
              case hyy2320 => ((intro w hSw; go_simp); first | done | with_reducible rfl)
              try simp only [Act.put, List.setIfInBounds_toArray, List.set_cons_zero, List.set_cons_succ]
              refine wpAnyH_take (i := 21) (oi := ?oiy2421) (v := ?vy2421) ?hiy2421 (by kernel_rfl) (by kernel_rfl) (by kernel_rfl) ?hQy2421 (Or.inl ⟨?hwy2421, ?hyy2421⟩) (by assumption) ?resty2421
              case hiy2421 => (first | (simp only [List.getElem?_toArray, List.getElem?_cons_zero, List.getElem?_cons_succ]; rfl) | rfl)
              case hQy2421 => exact fun _ _ _ h => h
              case hwy2421 => rfl
              case hyy2421 => ((intro w hSw; go_simp); first | done | with_reducible rfl)
              try simp only [Act.put, List.setIfInBounds_toArray, List.set_cons_zero, List.set_cons_succ]
              refine wpAnyH_done (by kernel_rfl) ?_ _
              have HDU2 := Lib.hid (HDU8.out.later HK.out HU2.out)
              have hw9 : IntKind.i64.wrap ((i : Int) + 1) = (i : Int) + 1 := IntWalk.i64_in _ (by omega)
              have e5 : decide ((i : Int) + 1 < (n : Int)) = decide (i + 1 < n) := by
                rcases Nat.lt_or_ge (i + 1) n with h | h
                · rw [decide_eq_true h]; exact decide_eq_true (by omega)
                · rw [show decide (i + 1 < n) = false from decide_eq_false (by omega)]; exact decide_eq_false (by omega)
              clear hHeld n1
              rcases Nat.lt_or_ge p i with hpi | hpi
              · have e1 : decide (p < i) = true := decide_eq_true hpi
                have WANT : Hid (true = decide (p < i + 1)) := Lib.hid (decide_eq_true (by omega)).symm
                clear hpi
                have HNX := Lib.hid (duo_next HK.out HDU2.out)
                rw [HNI.out] at HNX
                obtain ⟨z, hz⟩ : ∃ z : Bool, z = decide (i + 1 < n) := ⟨_, rfl⟩
                rw [← hz] at HNX e5
                have e6 : (z != z) = false := by simp
                clear hz
                go_wp2_with fail
                refine HNX.out.mono ?_
                rintro e w9 ⟨rfl, F9, hd9⟩
                have HD9 := Lib.hid hd9
                clear hd9 HNX
                go_wp2
                go_roundw
                case rel => exact ⟨i + 1, F9, _, by omega, by rw [WANT.out], by go_num, HNA.out, HD9.out⟩
                case measure => simp [Go.RowKit.intOf]; omega
              · rcases Nat.lt_or_ge i p with hip | hip
                · have e1 : decide (p < i) = false := decide_eq_false (by omega)
                  have e2 : decide (d ≤ D) = false := decide_eq_false (by have h := HTP.out.less i (Nat.zero_le _) hip; rw [HDOC.out] at h; omega)
                  have WANT : Hid (false = decide (p < i + 1)) := Lib.hid (decide_eq_false (by omega)).symm
                  clear hpi hip
                  have HNX := Lib.hid (duo_next HK.out HDU2.out)
                  rw [HNI.out] at HNX
                  obtain ⟨z, hz⟩ : ∃ z : Bool, z = decide (i + 1 < n) := ⟨_, rfl⟩
                  rw [← hz] at HNX e5
                  have e6 : (z != z) = false := by simp
                  clear hz
                  go_wp2_with fail
                  refine HNX.out.mono ?_
                  rintro e w9 ⟨rfl, F9, hd9⟩
                  have HD9 := Lib.hid hd9
                  clear hd9 HNX
                  go_wp2
                  go_roundw
                  case rel => exact ⟨i + 1, F9, _, by omega, by rw [WANT.out], by go_num, HNA.out, HD9.out⟩
                  case measure => simp [Go.RowKit.intOf]; omega
                · obtain rfl : p = i := by omega
                  have e1 : decide (p < p) = false := by simp
                  have e2 : decide (d ≤ D) = true := decide_eq_true (by have h := HTP.out.here (by rw [HLN.out]; exact hlt); rw [HDOC.out] at h; exact h)
                  have e3 : (!I) = false := by rw [HIP.out, decide_eq_true hlt]; rfl
                  have e4 : X0 = D := by rw [HXP.out hlt, HDOC.out]
                  have n2 : (X0 != D) = false := by simp [e4]
                  have WANT : Hid (true = decide (p < p + 1)) := Lib.hid (decide_eq_true (by omega)).symm
                  clear hpi hip e4
                  have HNX := Lib.hid (duo_next HK.out HDU2.out)
                  rw [HNI.out] at HNX
                  obtain ⟨z, hz⟩ : ∃ z : Bool, z = decide (p + 1 < n) := ⟨_, rfl⟩
                  rw [← hz] at HNX e5
                  have e6 : (z != z) = false := by simp
                  clear hz
                  go_wp2_with fail
                  refine HNX.out.mono ?_
                  rintro e w9 ⟨rfl, F9, hd9⟩
                  have HD9 := Lib.hid hd9
                  clear hd9 HNX
                  go_wp2
                  go_roundw
                  case rel => exact ⟨p + 1, F9, _, by omega, by rw [WANT.out], by go_num, HNA.out, HD9.out⟩
                  case measure => simp [Go.RowKit.intOf]; omega
        · obtain rfl : i = n := by omega
          have hlz : ¬ ((i : Int) < (i : Int)) := by omega
          have hsz := skip_zero HDU.out.two.wf (by rw [HTL.out]; exact HV.out) HTS.out
          have HSK := Lib.hid (duo_skip HK.out HDU.out.swap 0 (by unfold fits64; omega))
          rw [hsz, ← HII.out] at HSK
          have e1 : decide (p < i) = I := HIP.out.symm
          clear hsz
          go_wp2_with fail
          refine HSK.out.mono ?_
          rintro e w8 ⟨rfl, G8, hd8⟩
          have HD8 := Lib.hid hd8
          have HDC := Lib.hid (cur_doc HK.out hd8.one)
          rw [← HXX.out, ← HII.out] at HDC
          clear hd8 HSK
          go_wp2_with fail
          refine HDC.out.mono ?_
          rintro e w9 ⟨rfl, hb9⟩
          have HB9 := Lib.hid (HD8.out.later HK.out hb9).one.below
          have e2 : (I == I) = true := by simp
          have e3 : (X0 == X0) = true := by simp
          clear hb9 HDC
          go_wp2
          go_ret
          exact ⟨rfl, HB9.out⟩
end Go.Proofs.Ythmjanhdjchdbaa
