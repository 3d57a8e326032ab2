/- The law CursorSkips. -/
import Derived.Test.YthmjanhdjchdbaaCuPos
import Derived.Lib.MinMax
namespace Go.Proofs.Ythmjanhdjchdbaa
open Go.RowKit Go.Maps Go.WideMaps
set_option linter.unusedSimpArgs false

set_option maxHeartbeats 16000000 in
set_option maxRecDepth 100000 in
theorem cursorSkips_any {K : World → (Nat → Prop) → Nat → CSt → Prop} (hK : CursorOk K) (W : World) (A : Option Addr) (n c : Nat) (l : List Pst) (hl : PostsSz W A n l) (x y : Int) (hx : fits64 x) (hy : fits64 y) :
    Calls Try.prog 7 #[.slice A n c, .int .i64 x, .int .i64 y] W fun e w' => e = .returned (.bool true) ∧ Below W.heap.size W w' := by
  have hep := eqCurNil
  have HK := Lib.hid hK
  have HH := Lib.hid (cuHead_any hK W)
  have HL := Lib.hid hl
  have hll := hl.1.len
  have HLN := Lib.hid hll
  have hn63 : n ≤ 140737488351232 := hl.2.2
  clear hl hK hll
  go_enter Try.func7, Try.ntmps7
  go_wp2_with fail
  refine HH.out.mono ?_
  rintro e w1 ⟨rfl, hb1⟩
  have HB1 := Lib.hid hb1
  obtain ⟨Z, hZ⟩ : ∃ Z, putE l = Z := ⟨_, rfl⟩
  have HZ := Lib.hid hZ
  have HCB := Lib.hid (cuBytes_any w1 A n c l (HL.out.1.below hb1) (by omega) hZ)
  have hzl : Z.length ≤ 368803860 := by rw [← hZ]; exact putE_len (fit_of HL.out.1)
  clear hb1 hZ
  go_wp2_with fail
  refine HCB.out.mono ?_
  rintro e w2 ⟨X, cx, rfl, hi2, hcx, -, hb2⟩
  have HB2 := Lib.hid (below_then HB1.out hb2 HB1.out.size)
  have HI2 := Lib.hid hi2
  have HG := Lib.hid (cuGreat_any w2 A n c l (HL.out.1.below HB2.out) HL.out.2.2 HL.out.2.1)
  clear hb2 hi2 HCB
  go_wp2_with fail
  refine HG.out.mono ?_
  rintro e w3 ⟨r, rfl, hw3, hr⟩
  rw [hw3]
  clear hw3
  cases r with
  | true =>
    clear hr
    go_wp2
    go_ret
    exact ⟨rfl, HB2.out⟩
  | false =>
    obtain ⟨hn2, hx2⟩ := hr rfl
    have hn4 : n < 10000 := by omega
    clear hr
    by_cases hz0 : Z.length = 0
    · have d1 : ((Z.length : Int) == 0) = true := by simpa using hz0
      have d1n : (Z.length == 0) = true := by simpa using hz0
      clear hz0 hx2 hn2
      go_wp2
      go_ret
      exact ⟨rfl, HB2.out⟩
    · have d1 : ((Z.length : Int) == 0) = false := beq_eq_false_iff_ne.2 (by omega)
      have d1n : (Z.length == 0) = false := beq_eq_false_iff_ne.2 (by omega)
      have HGG := Lib.hid (has_bytes (fit_of HL.out.1) HZ.out (by omega))
      clear hz0 hx2 hn2
      have HN := Lib.hid (cur_new HK.out HB2.out HI2.out hcx (by omega) HGG.out)
      go_wp2_with fail
      refine HN.out.mono ?_
      rintro e w4 ⟨b1, F, rfl, hcu, hbn, -⟩
      have HC4 := Lib.hid hcu
      have HB4 := Lib.hid hcu.below
      have HI4 := Lib.hid (HI2.out.below hbn)
      have HN2 := Lib.hid (cur_new HK.out HB4.out HI4.out hcx (by omega) HGG.out)
      clear hcu HN hbn
      go_wp2_with fail
      refine HN2.out.mono ?_
      rintro e w5 ⟨b2, G, rfl, hcu2, hbn2, hG⟩
      have HD := Lib.hid (Duo.made HK.out HC4.out hcu2 hbn2 hG)
      clear hcu2 hbn2 hG HN2
      go_wp2_with fail
      refine (duo_skip HK.out HD.out x hx).mono ?_
      rintro e w6 ⟨rfl, F6, hd6⟩
      have HD6 := Lib.hid hd6
      clear hd6
      go_wp2_with fail
      refine (duo_skip HK.out HD6.out y hy).mono ?_
      rintro e w7 ⟨rfl, F7, hd7⟩
      have HD7 := Lib.hid hd7
      clear hd7
      obtain ⟨m, hm⟩ : ∃ m, m = max x y := ⟨_, rfl⟩
      have hmx : ∀ w ty, (Builtin.max_ #[2, 2] ty #[.int .i64 x, .int .i64 y]).run Try.prog w = .ok (.int .i64 m) w := fun w ty => by rw [Lib.run_max_ints, hm]
      have hmf : fits64 m := by unfold fits64 at hx hy ⊢; omega
      have HM := Lib.hid hm
      clear hm
      go_wp2_with fail
      refine (duo_skip HK.out HD7.out.swap m hmf).mono ?_
      rintro e w8 ⟨rfl, G8, hd8⟩
      have HD8 := Lib.hid hd8.swap
      clear hd8
      obtain ⟨s, hs⟩ : ∃ s, s = cSkip (cSkip (cStart l) x) y := ⟨_, rfl⟩
      obtain ⟨t, ht⟩ : ∃ t, t = cSkip (cStart l) m := ⟨_, rfl⟩
      have hlt : s.l = t.l := by rw [hs, ht, cSkip_l, cSkip_l, cSkip_l]
      have hat : s.at_ = t.at_ := by
        rw [hs, ht, cSkip_at, cSkip_at, cSkip_at, cSkip_l, cStart_l, HM.out]
        exact first_twice (valid_of HGG.out) (by unfold cStart; rw [(cStand_l _).2]; exact Nat.zero_le _)
      obtain ⟨h1, h2, h3⟩ := same_tell hlt hat
      have hst : cSkip s (cDoc s) = s := by
        refine skip_still ?_ ?_
        · rw [hs]; exact HD8.out.one.wf
        · rw [hs]; exact cSkip_stands _ _
      rw [← hs, ← ht] at HD8
      have hfd := doc_fits (valid_of HGG.out) HD8.out.one.same
      obtain ⟨D, hD⟩ : ∃ D, D = cDoc s := ⟨_, rfl⟩
      obtain ⟨I, hI⟩ : ∃ I, I = cIn s := ⟨_, rfl⟩
      obtain ⟨P, hP⟩ : ∃ P, P = cSpots s := ⟨_, rfl⟩
      obtain ⟨R, hR⟩ : ∃ R, R = s.read := ⟨_, rfl⟩
      rw [← hD] at h2 hst hfd
      rw [← hI] at h1
      rw [← hP] at h3
      have HST := Lib.hid hst
      have HDD := Lib.hid hD
      have HII := Lib.hid hI
      have HPP := Lib.hid hP
      have HRR := Lib.hid hR
      have H1 := Lib.hid h1
      have H2 := Lib.hid h2
      have H3 := Lib.hid h3
      clear hs ht hlt hat hst hD hI hP hR h1 h2 h3 hmx
      have HDA := Lib.hid (cur_doc HK.out HD8.out.one)
      rw [← HDD.out, ← HII.out] at HDA
      go_wp2_with fail
      refine HDA.out.mono ?_
      rintro e w9 ⟨rfl, hb9⟩
      have HD9 := Lib.hid (HD8.out.later HK.out hb9)
      have HDB := Lib.hid (cur_doc HK.out HD9.out.two)
      rw [← H2.out, ← H1.out] at HDB
      clear hb9 HDA
      go_wp2_with fail
      refine HDB.out.mono ?_
      rintro e w10 ⟨rfl, hb10⟩
      have HD10 := Lib.hid (HD9.out.later HK.out hb10)
      have HRD := Lib.hid (cur_reads HK.out HD10.out.one)
      rw [← HRR.out] at HRD
      have e1 : (D != D) = false := by simp
      have e2 : (I != I) = false := by simp
      clear hb10 HDB
      go_wp2_with fail
      refine HRD.out.mono ?_
      rintro e w11 ⟨rfl, hb11⟩
      have HD11 := Lib.hid (HD10.out.later HK.out hb11)
      clear hb11 HRD e1 e2
      have HSK := Lib.hid (duo_skip HK.out HD11.out D hfd)
      rw [HST.out, ← HII.out] at HSK
      go_wp2_with fail
      refine HSK.out.mono ?_
      rintro e w12 ⟨rfl, F12, hd12⟩
      have HD12 := Lib.hid hd12
      have HDC := Lib.hid (cur_doc HK.out hd12.one)
      rw [← HDD.out, ← HII.out] at HDC
      clear hd12 HSK
      go_wp2_with fail
      refine HDC.out.mono ?_
      rintro e w13 ⟨rfl, hb13⟩
      have HD13 := Lib.hid (HD12.out.later HK.out hb13)
      have HRE := Lib.hid (cur_reads HK.out HD13.out.one)
      rw [← HRR.out] at HRE
      have e1 : (D == D) = true := by simp
      have e2 : (I == I) = true := by simp
      have e3 : (R == R) = true := by simp
      clear hb13 HDC
      go_wp2_with fail
      refine HRE.out.mono ?_
      rintro e w14 ⟨rfl, hb14⟩
      have HD14 := Lib.hid (HD13.out.later HK.out hb14)
      have HSA := Lib.hid (HK.out.spots HD14.out.one.at_ HD14.out.one.wf)
      rw [← HPP.out] at HSA
      clear hb14 HRE
      go_wp2_with fail
      refine HSA.out.mono ?_
      rintro e w15 ⟨A1, k1, rfl, hp15, hb15⟩
      have HD15 := Lib.hid (HD14.out.later HK.out hb15)
      have HP15 := Lib.hid hp15
      have HSB := Lib.hid (HK.out.spots HD15.out.two.at_ HD15.out.two.wf)
      rw [← H3.out] at HSB
      clear hb15 hp15 HSA
      go_wp2_with fail
      refine HSB.out.mono ?_
      rintro e w16 ⟨A2, k2, rfl, hp16, hb16⟩
      have HD16 := Lib.hid (HD15.out.later HK.out hb16)
      have HSS := Lib.hid (r9SameSpots_any w16 A1 A2 P.length P.length k1 k2 P P (HP15.out.below hb16) hp16)
      rw [show decide (P = P) = true by simp] at HSS
      clear hb16 hp16 HSB
      go_wp2_with fail
      refine HSS.out.mono ?_
      rintro e w17 ⟨rfl, q, hw17⟩
      have HB17 : Hid (Below W.heap.size W w17) := Lib.hid (by rw [hw17]; exact below_drewN HD16.out.one.below q)
      clear hw17
      go_wp2
      go_ret
      exact ⟨rfl, HB17.out⟩
end Go.Proofs.Ythmjanhdjchdbaa
