/- VocabBack, walked. -/
import Derived.Test.YtecpihghlelefaaVChg1
import Derived.Test.YtecpihghlelefaaVGet2
import Derived.Test.YtecpihghlelefaaVRef5
import Derived.Test.YtecpihghlelefaaVProg4
namespace Go.Proofs.Ytecpihghlelefaa
open Go.RowKit Go.Maps Go.WideMaps
set_option linter.unusedSimpArgs false

set_option maxHeartbeats 16000000 in
set_option maxRecDepth 100000 in
theorem vocabBack_any (w : World) (A : Option Addr) (n c : Nat) (l : List (Int × Int)) (hl : PairsIn w A n l) (kd a : Int) (T : Option Addr) (tc : Nat) (tk : Nm) (hT : BytesIn w T tk.length tk) (htc : tk.length ≤ tc) (x y z : Int) (hm : mgFits ⟨x, y, z⟩)
    (B : Option Addr) (m d : Nat) (bs : Nm) (hbs : BytesIn w B m bs) :
    Calls Try.prog 5 #[.slice A n c, chV kd a T tk.length tc x y z, .slice B m d] w fun e w' => e = .returned (.bool true) ∧ Below w.heap.size w w' := by
  have hn63 : n ≤ 9223372036854775807 := hl.fit
  have hm63 : m ≤ 9223372036854775807 := hbs.1
  have ht63 : tk.length ≤ 9223372036854775807 := hT.1
  have HL := Lib.hid hl
  have HT := Lib.hid hT
  have HBS := Lib.hid hbs
  have HTC := Lib.hid htc
  have HMF := Lib.hid hm
  have HBL := Lib.hid (show bs.length = m from by have := hbs.2.1.len; simpa using this)
  obtain ⟨U, hU⟩ : ∃ U, U = changeV (buildAll l).1 kd a tk ⟨x, y, z⟩ := ⟨_, rfl⟩
  have HU := Lib.hid hU
  have b0 := (Below.refl w.heap.size w).alloc (Nat.le_refl _) (.cells #[.int .i64 kd, .int .i64 a, .slice T tk.length tc, .int .i64 x, .int .i64 y, .int .i64 z] 27)
  obtain ⟨W0, hW0⟩ : ∃ W0, W0 = w.alloc (.cells #[.int .i64 kd, .int .i64 a, .slice T tk.length tc, .int .i64 x, .int .i64 y, .int .i64 z] 27) := ⟨_, rfl⟩
  have hc0 : Blk W0 w.heap.size 27 #[.int .i64 kd, .int .i64 a, .slice T tk.length tc, .int .i64 x, .int .i64 y, .int .i64 z] := by rw [hW0]; exact Blk.new _ _ _
  rw [← hW0] at b0
  have HB0 := Lib.hid b0
  have HC0 := Lib.hid hc0
  have HW0 := Lib.hid hW0
  clear hl hT hbs htc hm hU b0 hc0 hW0
  unfold chV
  go_enter Try.func5, Try.ntmps5
  go_wp2_with fail
  rw [← HW0.out]
  refine (vocabHead_any W0).mono ?_
  rintro e w1 ⟨rfl, hb⟩
  have HB1 := Lib.hid (below_then HB0.out hb HB0.out.size)
  have HC1 := Lib.hid (HC0.out.below hb HC0.out.lt)
  have e0 := HC1.out.cell 0
  have e1 := HC1.out.cell 1
  have e2 := HC1.out.cell 2
  have e3 := HC1.out.cell 3
  have e4 := HC1.out.cell 4
  have e5 := HC1.out.cell 5
  simp only [List.getElem?_toArray, List.getElem?_cons_zero, List.getElem?_cons_succ] at e0 e1 e2 e3 e4 e5
  obtain ⟨gb, hgb⟩ : ∃ gb, gb = (decide (600 < n) || decide (1000 < tk.length)) := ⟨_, rfl⟩
  have HGB := Lib.hid hgb
  clear hb hgb
  go_wp2_with fail
  have h := vocabGreat_any w1 A n c kd a T tk.length tc x y z hn63 ht63
  rw [← HGB.out] at h
  unfold chV at h
  refine h.mono ?_
  rintro e w2 ⟨rfl, hb⟩
  have HB2 := Lib.hid (below_then HB1.out hb HB1.out.size)
  have HC2 := Lib.hid (HC1.out.below hb HC1.out.lt)
  clear hb h e0 e1 e2 e3 e4 e5
  cases gb with
  | true =>
    go_wp2
    go_ret
    exact ⟨rfl, HB2.out⟩
  | false =>
  by_cases hbig : 20000 < m
  · have hbz : (20000 : Int) < (m : Int) := by omega
    go_wp2
    go_ret
    exact ⟨rfl, HB2.out⟩
  have hbz : ¬ (20000 : Int) < (m : Int) := by omega
  have e0 := HC2.out.cell 0
  have e1 := HC2.out.cell 1
  have e2 := HC2.out.cell 2
  have e3 := HC2.out.cell 3
  have e4 := HC2.out.cell 4
  have e5 := HC2.out.cell 5
  simp only [List.getElem?_toArray, List.getElem?_cons_zero, List.getElem?_cons_succ] at e0 e1 e2 e3 e4 e5
  have hgb := HGB.out
  have hn6 : n ≤ 600 := by
    rcases Nat.lt_or_ge 600 n with h | h
    · rw [decide_eq_true h] at hgb; simp at hgb
    · exact h
  have ht6 : tk.length ≤ 1000 := by
    rcases Nat.lt_or_ge 1000 tk.length with h | h
    · rw [decide_eq_true h] at hgb; simp at hgb
    · exact h
  have HT6 := Lib.hid ht6
  clear hgb hbig HGB
  go_wp2_with fail
  have h := vocabChanged_any w2 A n c l (HL.out.below HB2.out) (by omega) kd a T tc tk (HT.out.below HB2.out) HTC.out HT6.out x y z HMF.out
  rw [← HU.out] at h
  unfold chV at h
  refine h.mono ?_
  rintro e w3 ⟨A1, B1, ca, cb, rfl, hsee, hb⟩
  obtain ⟨un, hun⟩ : ∃ k, k = U.tok.length := ⟨_, rfl⟩
  obtain ⟨um, hum⟩ : ∃ k, k = U.mer.length := ⟨_, rfl⟩
  rw [← hun, ← hum] at hsee
  rw [← hun, ← hum]
  unfold vocV
  have HB3 := Lib.hid (below_then HB2.out hb HB2.out.size)
  have b4 := (Below.refl w3.heap.size w3).alloc (Nat.le_refl _) (.cells #[.slice A1 un ca, .slice B1 um cb] 33)
  obtain ⟨W4, hW4⟩ : ∃ W4, W4 = w3.alloc (.cells #[.slice A1 un ca, .slice B1 um cb] 33) := ⟨_, rfl⟩
  obtain ⟨vb, hvb⟩ : ∃ vb, vb = w3.heap.size := ⟨_, rfl⟩
  have hv4 : Blk W4 vb 33 #[.slice A1 un ca, .slice B1 um cb] := by rw [hW4, hvb]; exact Blk.new _ _ _
  rw [← hW4] at b4
  have HB4 := Lib.hid (below_then HB3.out b4 HB3.out.size)
  have HS4 := Lib.hid (hsee.below b4)
  have HV4 := Lib.hid hv4
  have HW4 := Lib.hid hW4
  have HVB := Lib.hid hvb
  have y0 := hv4.cell 0
  have y1 := hv4.cell 1
  simp only [List.getElem?_toArray, List.getElem?_cons_zero, List.getElem?_cons_succ] at y0 y1
  rw [hW4, hvb] at y0 y1
  obtain ⟨E, hE⟩ : ∃ E, E = checkV U := ⟨_, rfl⟩
  obtain ⟨P, hP⟩ : ∃ P, P = resP U := ⟨_, rfl⟩
  have HE := Lib.hid hE
  have HP := Lib.hid hP
  have HUN := Lib.hid hun
  have HUM := Lib.hid hum
  have hpl : P.length ≤ 40000 := by
    rw [hP]
    unfold resP
    split
    · rename_i h0
      obtain ⟨q1, q2, q3, q4⟩ := check_bounds h0
      have l1 := tokB_len U.tok q3
      have l2 := merB_len U.mer q4
      have l3 := putL_len U.tok.length (by omega)
      have l4 := putL_len U.mer.length (by omega)
      unfold putV
      simp only [List.length_append]
      omega
    · simp
  clear h hb hsee b4 hW4 hvb hv4 hE hP e0 e1 e2 e3 e4 e5 hun hum
  go_wp2_with fail
  rw [← HW4.out, ← HVB.out]
  have h := vPut_any W4 A1 B1 un um ca cb U HS4.out
  unfold PutOut at h
  rw [← HE.out, ← HP.out] at h
  unfold vocV at h
  refine h.mono ?_
  rintro e w5 ⟨pv, rfl, hO, hb⟩
  obtain ⟨PA, pc, rfl⟩ := own_slice hO
  have HP5 := Lib.hid (BytesIn.own hO (by unfold maxLen; omega))
  have HB5 := Lib.hid (below_then HB4.out hb HB4.out.size)
  have HS5 := Lib.hid (HS4.out.below hb)
  have HV5 := Lib.hid (HV4.out.below hb HV4.out.lt)
  have y0' := HV5.out.cell 0
  have y1' := HV5.out.cell 1
  simp only [List.getElem?_toArray, List.getElem?_cons_zero, List.getElem?_cons_succ] at y0' y1'
  clear h hO hb y0 y1
  go_wp2_with fail
  refine (vCheck_is w5 A1 B1 un um ca cb U HS5.out HE.out.symm).mono ?_
  rintro e w6 ⟨rfl, hb⟩
  have HB6 := Lib.hid (below_then HB5.out hb HB5.out.size)
  have HS6 := Lib.hid (HS5.out.below hb)
  have HV6 := Lib.hid (HV5.out.below hb HV5.out.lt)
  have HP6 := Lib.hid (HP5.out.below hb)
  clear hb y0' y1'
  have dEE : (E != E) = false := by simp
  by_cases hE0 : E = 0
  · subst hE0
    have hpv : P = putV U := by rw [HP.out]; unfold resP; rw [if_pos HE.out.symm]
    have hgp : getV P = (U, 0) := by rw [hpv]; exact getV_put HE.out.symm
    have HGP := Lib.hid hgp
    have y0 := HV6.out.cell 0
    have y1 := HV6.out.cell 1
    simp only [List.getElem?_toArray, List.getElem?_cons_zero, List.getElem?_cons_succ] at y0 y1
    clear hpv hgp
    go_wp2_with fail
    refine (vGet_any w6 PA P.length pc P HP6.out (by omega)).mono ?_
    intro e w7 hrv
    rw [HGP.out] at hrv
    obtain ⟨A2, B2, ca2, cb2, rfl, hsee, hb⟩ := hrv.see (fun h => absurd rfl h) (by obtain ⟨q1, _⟩ := check_bounds HE.out.symm; exact q1) (by obtain ⟨_, q1, _⟩ := check_bounds HE.out.symm; exact q1)
    simp only at hsee ⊢
    rw [← HUN.out, ← HUM.out] at hsee
    rw [← HUN.out, ← HUM.out]
    unfold vocV
    have HB7 := Lib.hid (below_then HB6.out hb HB6.out.size)
    have b8 := (Below.refl w7.heap.size w7).alloc (Nat.le_refl _) (.cells #[.slice A2 un ca2, .slice B2 um cb2] 33)
    obtain ⟨W8, hW8⟩ : ∃ W8, W8 = w7.alloc (.cells #[.slice A2 un ca2, .slice B2 um cb2] 33) := ⟨_, rfl⟩
    obtain ⟨vc, hvc⟩ : ∃ vb, vb = w7.heap.size := ⟨_, rfl⟩
    have hv8 : Blk W8 vc 33 #[.slice A2 un ca2, .slice B2 um cb2] := by rw [hW8, hvc]; exact Blk.new _ _ _
    rw [← hW8] at b8
    have hv68 := (HV6.out.below hb HV6.out.lt).below b8 (HV6.out.below hb HV6.out.lt).lt
    have HB8 := Lib.hid (below_then HB7.out b8 HB7.out.size)
    have HS8 := Lib.hid (hsee.below b8)
    have HT8 := Lib.hid ((HS6.out.below hb).below b8)
    have HW8 := Lib.hid hW8
    have HVC := Lib.hid hvc
    have x0 := hv8.cell 0
    have x1 := hv8.cell 1
    have x2 := hv68.cell 0
    have x3 := hv68.cell 1
    simp only [List.getElem?_toArray, List.getElem?_cons_zero, List.getElem?_cons_succ] at x0 x1 x2 x3
    rw [hW8] at x0 x1 x2 x3
    rw [hvc] at x0 x1
    clear hrv hsee hb b8 hW8 hvc hv8 hv68 y0 y1
    go_wp2_with fail
    rw [← HW8.out]
    have h := r5Same_any W8 A2 B2 A1 B1 un um ca2 cb2 ca cb U HS8.out HT8.out
    unfold vocV at h
    refine h.mono ?_
    rintro e w9 ⟨rfl, hb⟩
    have HBz := Lib.hid (below_then HB8.out hb HB8.out.size)
    clear h hb x0 x1 x2 x3
    go_wp2_with fail
    obtain ⟨G, hG⟩ : ∃ G, G = getV bs := ⟨_, rfl⟩
    have HG := Lib.hid hG
    have HBB := Lib.hid (HBS.out.below HBz.out)
    have hglen := getV_lens bs
    have hgnone : (getV bs).2 ≠ 0 → (getV bs).1 = ⟨[], []⟩ := getV_none
    rw [← hG] at hglen hgnone
    have h := vGet_any w9 B m d bs HBB.out (by omega)
    rw [← hG] at h
    refine h.mono ?_
    intro e wa hrv
    obtain ⟨A3, B3, ca3, cb3, rfl, hsee, hb⟩ := hrv.see hgnone hglen.1 hglen.2
    obtain ⟨H, J, hHJ⟩ : ∃ H J, G = (H, J) := ⟨_, _, rfl⟩
    subst hHJ
    simp only at hsee hgnone ⊢
    obtain ⟨gn, hgn⟩ : ∃ k, k = H.tok.length := ⟨_, rfl⟩
    obtain ⟨gm, hgm⟩ : ∃ k, k = H.mer.length := ⟨_, rfl⟩
    rw [← hgn, ← hgm] at hsee
    rw [← hgn, ← hgm]
    unfold vocV
    have HBa := Lib.hid (below_then HBz.out hb HBz.out.size)
    have bb := (Below.refl wa.heap.size wa).alloc (Nat.le_refl _) (.cells #[.slice A3 gn ca3, .slice B3 gm cb3] 33)
    obtain ⟨Wb, hWb⟩ : ∃ W, W = wa.alloc (.cells #[.slice A3 gn ca3, .slice B3 gm cb3] 33) := ⟨_, rfl⟩
    have hvb' : Blk Wb wa.heap.size 33 #[.slice A3 gn ca3, .slice B3 gm cb3] := by rw [hWb]; exact Blk.new _ _ _
    rw [← hWb] at bb
    have HBb := Lib.hid (below_then HBa.out bb HBa.out.size)
    have HSb := Lib.hid (hsee.below bb)
    have HBBb := Lib.hid ((HBB.out.below hb).below bb)
    have HWb := Lib.hid hWb
    have x0 := hvb'.cell 0
    have x1 := hvb'.cell 1
    simp only [List.getElem?_toArray, List.getElem?_cons_zero, List.getElem?_cons_succ] at x0 x1
    rw [hWb] at x0 x1
    have HGN := Lib.hid hgn
    have HGM := Lib.hid hgm
    clear hG h hrv hsee hb bb hvb' hWb hglen hgn hgm
    by_cases hJ : J = 0
    · subst hJ
      obtain ⟨hpg, hck⟩ := putV_get (b := bs) (V := H) HG.out.symm
      have hrp : resP H = bs := by unfold resP; rw [if_pos hck]; exact hpg
      have HCK := Lib.hid hck
      have HRP := Lib.hid hrp
      clear hpg hck hrp hgnone
      go_wp2_with fail
      rw [← HWb.out]
      have h := vPut_any Wb A3 B3 gn gm ca3 cb3 H HSb.out
      unfold PutOut at h
      rw [HCK.out, HRP.out] at h
      unfold vocV at h
      refine h.mono ?_
      rintro e wd ⟨qv, rfl, hO, hb⟩
      obtain ⟨QA, qc, rfl⟩ := own_slice hO
      have cv1 := str_of (BytesIn.own hO (by have := HBL.out; unfold maxLen; omega)) qc
      have cv2 := str_of (HBBb.out.below hb) d
      have HBd := Lib.hid (below_then HBb.out hb HBb.out.size)
      clear h hO hb x0 x1
      go_wp2
      go_ret
      exact ⟨by simp, HBd.out⟩
    · have dJ : (J != 0) = true := by simpa using hJ
      have hH := hgnone hJ
      have hgn0 : gn = 0 := by rw [HGN.out, hH]; rfl
      have hgm0 : gm = 0 := by rw [HGM.out, hH]; rfl
      subst hgn0 hgm0
      clear hH hgnone hJ
      go_wp2
      go_ret
      exact ⟨rfl, by have h1 := HBb.out; rw [HWb.out] at h1; exact h1⟩
  · have dE : (E == 0) = false := by simpa using hE0
    have HBz := HB6
    clear hE0
    go_wp2_with fail
    obtain ⟨G, hG⟩ : ∃ G, G = getV bs := ⟨_, rfl⟩
    have HG := Lib.hid hG
    have HBB := Lib.hid (HBS.out.below HBz.out)
    have hglen := getV_lens bs
    have hgnone : (getV bs).2 ≠ 0 → (getV bs).1 = ⟨[], []⟩ := getV_none
    rw [← hG] at hglen hgnone
    have h := vGet_any w6 B m d bs HBB.out (by omega)
    rw [← hG] at h
    refine h.mono ?_
    intro e wa hrv
    obtain ⟨A3, B3, ca3, cb3, rfl, hsee, hb⟩ := hrv.see hgnone hglen.1 hglen.2
    obtain ⟨H, J, hHJ⟩ : ∃ H J, G = (H, J) := ⟨_, _, rfl⟩
    subst hHJ
    simp only at hsee hgnone ⊢
    obtain ⟨gn, hgn⟩ : ∃ k, k = H.tok.length := ⟨_, rfl⟩
    obtain ⟨gm, hgm⟩ : ∃ k, k = H.mer.length := ⟨_, rfl⟩
    rw [← hgn, ← hgm] at hsee
    rw [← hgn, ← hgm]
    unfold vocV
    have HBa := Lib.hid (below_then HBz.out hb HBz.out.size)
    have bb := (Below.refl wa.heap.size wa).alloc (Nat.le_refl _) (.cells #[.slice A3 gn ca3, .slice B3 gm cb3] 33)
    obtain ⟨Wb, hWb⟩ : ∃ W, W = wa.alloc (.cells #[.slice A3 gn ca3, .slice B3 gm cb3] 33) := ⟨_, rfl⟩
    have hvb' : Blk Wb wa.heap.size 33 #[.slice A3 gn ca3, .slice B3 gm cb3] := by rw [hWb]; exact Blk.new _ _ _
    rw [← hWb] at bb
    have HBb := Lib.hid (below_then HBa.out bb HBa.out.size)
    have HSb := Lib.hid (hsee.below bb)
    have HBBb := Lib.hid ((HBB.out.below hb).below bb)
    have HWb := Lib.hid hWb
    have x0 := hvb'.cell 0
    have x1 := hvb'.cell 1
    simp only [List.getElem?_toArray, List.getElem?_cons_zero, List.getElem?_cons_succ] at x0 x1
    rw [hWb] at x0 x1
    have HGN := Lib.hid hgn
    have HGM := Lib.hid hgm
    clear hG h hrv hsee hb bb hvb' hWb hglen hgn hgm
    by_cases hJ : J = 0
    · subst hJ
      obtain ⟨hpg, hck⟩ := putV_get (b := bs) (V := H) HG.out.symm
      have hrp : resP H = bs := by unfold resP; rw [if_pos hck]; exact hpg
      have HCK := Lib.hid hck
      have HRP := Lib.hid hrp
      clear hpg hck hrp hgnone
      go_wp2_with fail
      rw [← HWb.out]
      have h := vPut_any Wb A3 B3 gn gm ca3 cb3 H HSb.out
      unfold PutOut at h
      rw [HCK.out, HRP.out] at h
      unfold vocV at h
      refine h.mono ?_
      rintro e wd ⟨qv, rfl, hO, hb⟩
      obtain ⟨QA, qc, rfl⟩ := own_slice hO
      have cv1 := str_of (BytesIn.own hO (by have := HBL.out; unfold maxLen; omega)) qc
      have cv2 := str_of (HBBb.out.below hb) d
      have HBd := Lib.hid (below_then HBb.out hb HBb.out.size)
      clear h hO hb x0 x1
      go_wp2
      go_ret
      exact ⟨by simp, HBd.out⟩
    · have dJ : (J != 0) = true := by simpa using hJ
      have hH := hgnone hJ
      have hgn0 : gn = 0 := by rw [HGN.out, hH]; rfl
      have hgm0 : gm = 0 := by rw [HGM.out, hH]; rfl
      subst hgn0 hgm0
      clear hH hgnone hJ
      go_wp2
      go_ret
      exact ⟨rfl, by have h1 := HBb.out; rw [HWb.out] at h1; exact h1⟩
end Go.Proofs.Ytecpihghlelefaa
