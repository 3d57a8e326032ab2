/- VocabTells, walked. -/
import Derived.Test.YtecpihghlelefaaVChg1
import Derived.Test.YtecpihghlelefaaVGet2
import Derived.Test.YtecpihghlelefaaVRef4
import Derived.Test.YtecpihghlelefaaVRef5
import Derived.Test.YtecpihghlelefaaVRef6
import Derived.Deep.RegionHeld3
namespace Go.Proofs.Ytecpihghlelefaa
open Go.RowKit Go.Maps Go.WideMaps
set_option linter.unusedSimpArgs false

theorem build_lens (l : List (Int × Int)) : (buildAll l).1.tok.length ≤ 512 ∧ (buildAll l).1.mer.length ≤ 512 := by
  by_cases h0 : (buildAll l).2 = 0
  · have := build_ok l ⟨ones, []⟩ ones_ok h0
    exact ⟨this.tl, this.ml⟩
  · rw [show (buildAll l).1 = ⟨[], []⟩ from build_none l ⟨ones, []⟩ h0]; simp
theorem cell_later {w : World} {p : Addr} {v : Value} (h : w.cell? p = some v) : ∀ w', Below w.heap.size w w' → w'.cell? p = some v := fun _ hb => below_cells hb h
theorem str_later {w : World} {A : Option Addr} {n c : Nat} {l : Nm} (h : BytesIn w A n l) : ∀ w', Below w.heap.size w w' → (convert 23 9 (.slice A n c)).run Try.prog w' = .ok (.string ⟨l.toArray⟩) w' := fun _ hb => str_of (h.below hb) c

set_option maxHeartbeats 16000000 in
set_option maxRecDepth 100000 in
theorem vocabTells_any (w : World) (A : Option Addr) (n c : Nat) (l : List (Int × Int)) (hl : PairsIn w A n l) (kd a : Int) (T : Option Addr) (tc : Nat) (tk : Nm) (hT : BytesIn w T tk.length tk) (htc : tk.length ≤ tc) (x y z : Int) (hm : mgFits ⟨x, y, z⟩)
    (B : Option Addr) (m d : Nat) (bs : Nm) (hbs : BytesIn w B m bs) :
    Calls Try.prog 3 #[.slice A n c, chV kd a T tk.length tc x y z, .slice B m d] w fun e w' => e = .returned (.bool true) ∧ Below w.heap.size w w' := by
  have hn63 : n ≤ 9223372036854775807 := hl.fit
  have hm63 : m ≤ 9223372036854775807 := hbs.1
  have ht63 : tk.length ≤ 9223372036854775807 := hT.1
  have HL := Lib.hid hl
  have HT := Lib.hid hT
  have HBS := Lib.hid hbs
  have HTC := Lib.hid htc
  have HMF := Lib.hid hm
  have HBL := Lib.hid (show bs.length = m from by have := hbs.2.1.len; simpa using this)
  obtain ⟨U, hU⟩ : ∃ U, U = changeV (buildAll l).1 kd a tk ⟨x, y, z⟩ := ⟨_, rfl⟩
  have HU := Lib.hid hU
  have b0 := (Below.refl w.heap.size w).alloc (Nat.le_refl _) (.cells #[.int .i64 kd, .int .i64 a, .slice T tk.length tc, .int .i64 x, .int .i64 y, .int .i64 z] 27)
  obtain ⟨W0, hW0⟩ : ∃ W0, W0 = w.alloc (.cells #[.int .i64 kd, .int .i64 a, .slice T tk.length tc, .int .i64 x, .int .i64 y, .int .i64 z] 27) := ⟨_, rfl⟩
  have hc0 : Blk W0 w.heap.size 27 #[.int .i64 kd, .int .i64 a, .slice T tk.length tc, .int .i64 x, .int .i64 y, .int .i64 z] := by rw [hW0]; exact Blk.new _ _ _
  rw [← hW0] at b0
  have HB0 := Lib.hid b0
  have HC0 := Lib.hid hc0
  have HW0 := Lib.hid hW0
  clear hl hT hbs htc hm hU b0 hc0 hW0
  unfold chV
  go_enter Try.func3, Try.ntmps3
  go_wp2_with fail
  rw [← HW0.out]
  refine (vocabHead_any W0).mono ?_
  rintro e w1 ⟨rfl, hb⟩
  have HB1 := Lib.hid (below_then HB0.out hb HB0.out.size)
  have HC1 := Lib.hid (HC0.out.below hb HC0.out.lt)
  have e0 := HC1.out.cell 0
  have e1 := HC1.out.cell 1
  have e2 := HC1.out.cell 2
  have e3 := HC1.out.cell 3
  have e4 := HC1.out.cell 4
  have e5 := HC1.out.cell 5
  simp only [List.getElem?_toArray, List.getElem?_cons_zero, List.getElem?_cons_succ] at e0 e1 e2 e3 e4 e5
  obtain ⟨gb, hgb⟩ : ∃ gb, gb = (decide (600 < n) || decide (1000 < tk.length)) := ⟨_, rfl⟩
  have HGB := Lib.hid hgb
  clear hb hgb
  go_wp2_with fail
  have h := vocabGreat_any w1 A n c kd a T tk.length tc x y z hn63 ht63
  rw [← HGB.out] at h
  unfold chV at h
  refine h.mono ?_
  rintro e w2 ⟨rfl, hb⟩
  have HB2 := Lib.hid (below_then HB1.out hb HB1.out.size)
  have HC2 := Lib.hid (HC1.out.below hb HC1.out.lt)
  clear hb h e0 e1 e2 e3 e4 e5
  cases gb with
  | true =>
    go_wp2
    go_ret
    exact ⟨rfl, HB2.out⟩
  | false =>
  by_cases hbig : 20000 < m
  · have hbz : (20000 : Int) < (m : Int) := by omega
    go_wp2
    go_ret
    exact ⟨rfl, HB2.out⟩
  have hbz : ¬ (20000 : Int) < (m : Int) := by omega
  have e0 := HC2.out.cell 0
  have e1 := HC2.out.cell 1
  have e2 := HC2.out.cell 2
  have e3 := HC2.out.cell 3
  have e4 := HC2.out.cell 4
  have e5 := HC2.out.cell 5
  simp only [List.getElem?_toArray, List.getElem?_cons_zero, List.getElem?_cons_succ] at e0 e1 e2 e3 e4 e5
  have hgb := HGB.out
  have hn6 : n ≤ 600 := by
    rcases Nat.lt_or_ge 600 n with h | h
    · rw [decide_eq_true h] at hgb; simp at hgb
    · exact h
  have ht6 : tk.length ≤ 1000 := by
    rcases Nat.lt_or_ge 1000 tk.length with h | h
    · rw [decide_eq_true h] at hgb; simp at hgb
    · exact h
  have HT6 := Lib.hid ht6
  clear hgb hbig HGB e0 e1 e2 e3 e4 e5
  obtain ⟨R, hR⟩ : ∃ R, R = buildAll l := ⟨_, rfl⟩
  have hlen := build_lens l
  have hnone : (buildAll l).2 ≠ 0 → (buildAll l).1 = ⟨[], []⟩ := build_none l ⟨ones, []⟩
  rw [← hR] at hlen hnone
  obtain ⟨V, F, hVF⟩ : ∃ V F, R = (V, F) := ⟨_, _, rfl⟩
  subst hVF
  obtain ⟨vn, hvn⟩ : ∃ k, k = V.tok.length := ⟨_, rfl⟩
  obtain ⟨vm, hvm⟩ : ∃ k, k = V.mer.length := ⟨_, rfl⟩
  have HR := Lib.hid hR
  have HVN := Lib.hid hvn
  have HVM := Lib.hid hvm
  have HLEN := Lib.hid hlen
  have HNONE := Lib.hid hnone
  clear hR hvn hvm hlen hnone
  go_wp2_with fail
  have h := vBuild_any w2 A n c l (HL.out.below HB2.out)
  unfold VocOut at h
  rw [← HR.out] at h
  simp only at h
  rw [← HVN.out, ← HVM.out] at h
  unfold vocV at h
  refine h.mono ?_
  rintro e w3 ⟨AX, BX, cx1, cx2, rfl, hsee, hb⟩
  have HB3 := Lib.hid (below_then HB2.out hb HB2.out.size)
  have HC3 := Lib.hid (HC2.out.below hb HC2.out.lt)
  clear h hb
  have bW4 := (Below.refl w3.heap.size w3).alloc (Nat.le_refl _) (.cells #[.slice AX vn cx1, .slice BX vm cx2] 33)
  obtain ⟨W4, hW4⟩ : ∃ z, z = w3.alloc (.cells #[.slice AX vn cx1, .slice BX vm cx2] 33) := ⟨_, rfl⟩
  obtain ⟨vx, hvx⟩ : ∃ z, z = w3.heap.size := ⟨_, rfl⟩
  have hvW4 : Blk W4 vx 33 #[.slice AX vn cx1, .slice BX vm cx2] := by rw [hW4, hvx]; exact Blk.new _ _ _
  rw [← hW4] at bW4
  have HBLW4 := Lib.hid bW4
  have HB4 := Lib.hid (below_then HB3.out bW4 HB3.out.size)
  have HS4 := Lib.hid (hsee.below bW4)
  have HBKW4 := Lib.hid hvW4
  have HEW4 := Lib.hid hW4
  have HEvx := Lib.hid hvx
  clear bW4 hW4 hvx hvW4
  clear hsee
  have HC4 := Lib.hid (HC3.out.below HBLW4.out HC3.out.lt)
  go_wp2_with fail
  rw [← HEW4.out, ← HEvx.out]
  have h := r5Build_any W4 A n c l (HL.out.below HB4.out) (by omega)
  rw [← HR.out] at h
  refine h.mono ?_
  intro e w5 hrv
  obtain ⟨AY, BY, cy1, cy2, rfl, hsee, hb⟩ := hrv.see HNONE.out HLEN.out.1 HLEN.out.2
  simp only at hsee ⊢
  rw [← HVN.out, ← HVM.out] at hsee
  rw [← HVN.out, ← HVM.out]
  unfold vocV
  have HB5 := Lib.hid (below_then HB4.out hb HB4.out.size)
  have HC5 := Lib.hid (HC4.out.below hb HC4.out.lt)
  have HS5 := Lib.hid (HS4.out.below hb)
  have HX5 := Lib.hid (HBKW4.out.below hb HBKW4.out.lt)
  clear h hrv hb
  have bW6 := (Below.refl w5.heap.size w5).alloc (Nat.le_refl _) (.cells #[.slice AY vn cy1, .slice BY vm cy2] 33)
  obtain ⟨W6, hW6⟩ : ∃ z, z = w5.alloc (.cells #[.slice AY vn cy1, .slice BY vm cy2] 33) := ⟨_, rfl⟩
  obtain ⟨vy, hvy⟩ : ∃ z, z = w5.heap.size := ⟨_, rfl⟩
  have hvW6 : Blk W6 vy 33 #[.slice AY vn cy1, .slice BY vm cy2] := by rw [hW6, hvy]; exact Blk.new _ _ _
  rw [← hW6] at bW6
  have HBLW6 := Lib.hid bW6
  have HB6 := Lib.hid (below_then HB5.out bW6 HB5.out.size)
  have HS6 := Lib.hid (hsee.below bW6)
  have HBKW6 := Lib.hid hvW6
  have HEW6 := Lib.hid hW6
  have HEvy := Lib.hid hvy
  clear bW6 hW6 hvy hvW6
  clear hsee
  have HC6 := Lib.hid (HC5.out.below HBLW6.out HC5.out.lt)
  have HT6' := Lib.hid (HS5.out.below HBLW6.out)
  have HX6 := Lib.hid (HX5.out.below HBLW6.out HX5.out.lt)
  have x0 := HX6.out.cell 0
  have x1 := HX6.out.cell 1
  have x2 := HBKW6.out.cell 0
  have x3 := HBKW6.out.cell 1
  simp only [List.getElem?_toArray, List.getElem?_cons_zero, List.getElem?_cons_succ] at x0 x1 x2 x3
  rw [HEW6.out] at x0 x1 x2 x3
  rw [HEvy.out] at x2 x3
  go_wp2_with fail
  rw [← HEW6.out]
  have h := r5Same_any W6 AX BX AY BY vn vm cx1 cx2 cy1 cy2 V HT6'.out HS6.out
  unfold vocV at h
  refine h.mono ?_
  rintro e w7 ⟨rfl, hb⟩
  have HB7 := Lib.hid (below_then HB6.out hb HB6.out.size)
  have HC7 := Lib.hid (HC6.out.below hb HC6.out.lt)
  have dFF : (F != F) = false := by simp
  have e0 := HC7.out.cell 0
  have e1 := HC7.out.cell 1
  have e2 := HC7.out.cell 2
  have e3 := HC7.out.cell 3
  have e4 := HC7.out.cell 4
  have e5 := HC7.out.cell 5
  simp only [List.getElem?_toArray, List.getElem?_cons_zero, List.getElem?_cons_succ] at e0 e1 e2 e3 e4 e5
  clear h hb x0 x1 x2 x3
  go_wp2_with fail
  have h := vocabChanged_any w7 A n c l (HL.out.below HB7.out) (by omega) kd a T tc tk (HT.out.below HB7.out) HTC.out HT6.out x y z HMF.out
  rw [← HU.out] at h
  unfold chV at h
  refine h.mono ?_
  rintro e w8 ⟨A1, B1, ca, cb, rfl, hsee, hb⟩
  obtain ⟨un, hun⟩ : ∃ k, k = U.tok.length := ⟨_, rfl⟩
  obtain ⟨um, hum⟩ : ∃ k, k = U.mer.length := ⟨_, rfl⟩
  rw [← hun, ← hum] at hsee
  rw [← hun, ← hum]
  unfold vocV
  have HB8 := Lib.hid (below_then HB7.out hb HB7.out.size)
  obtain ⟨E, hE⟩ : ∃ E, E = checkV U := ⟨_, rfl⟩
  obtain ⟨P, hP⟩ : ∃ P, P = resP U := ⟨_, rfl⟩
  have HE := Lib.hid hE
  have HP := Lib.hid hP
  have HUN := Lib.hid hun
  have HUM := Lib.hid hum
  have hpl : P.length ≤ 40000 := by
    rw [hP]
    unfold resP
    split
    · rename_i h0
      obtain ⟨q1, q2, q3, q4⟩ := check_bounds h0
      have l1 := tokB_len U.tok q3
      have l2 := merB_len U.mer q4
      have l3 := putL_len U.tok.length (by omega)
      have l4 := putL_len U.mer.length (by omega)
      unfold putV
      simp only [List.length_append]
      omega
    · simp
  clear h hb hE hP e0 e1 e2 e3 e4 e5 hun hum
  have bW9 := (Below.refl w8.heap.size w8).alloc (Nat.le_refl _) (.cells #[.slice A1 un ca, .slice B1 um cb] 33)
  obtain ⟨W9, hW9⟩ : ∃ z, z = w8.alloc (.cells #[.slice A1 un ca, .slice B1 um cb] 33) := ⟨_, rfl⟩
  obtain ⟨vb, hvb⟩ : ∃ z, z = w8.heap.size := ⟨_, rfl⟩
  have hvW9 : Blk W9 vb 33 #[.slice A1 un ca, .slice B1 um cb] := by rw [hW9, hvb]; exact Blk.new _ _ _
  rw [← hW9] at bW9
  have HBLW9 := Lib.hid bW9
  have HB9 := Lib.hid (below_then HB8.out bW9 HB8.out.size)
  have HS9 := Lib.hid (hsee.below bW9)
  have HBKW9 := Lib.hid hvW9
  have HEW9 := Lib.hid hW9
  have HEvb := Lib.hid hvb
  clear bW9 hW9 hvb hvW9
  clear hsee
  have y0 := HBKW9.out.cell 0
  have y1 := HBKW9.out.cell 1
  simp only [List.getElem?_toArray, List.getElem?_cons_zero, List.getElem?_cons_succ] at y0 y1
  rw [HEW9.out, HEvb.out] at y0 y1
  go_wp2_with fail
  rw [← HEW9.out, ← HEvb.out]
  have h := vPut_any W9 A1 B1 un um ca cb U HS9.out
  unfold PutOut at h
  rw [← HE.out, ← HP.out] at h
  unfold vocV at h
  refine h.mono ?_
  rintro e w10 ⟨pv, rfl, hO, hb⟩
  obtain ⟨PA, pc, rfl⟩ := own_slice hO
  have HP10 := Lib.hid (BytesIn.own hO (by unfold maxLen; omega))
  have HB10 := Lib.hid (below_then HB9.out hb HB9.out.size)
  have HS10 := Lib.hid (HS9.out.below hb)
  have HV10 := Lib.hid (HBKW9.out.below hb HBKW9.out.lt)
  have y0' := HV10.out.cell 0
  have y1' := HV10.out.cell 1
  simp only [List.getElem?_toArray, List.getElem?_cons_zero, List.getElem?_cons_succ] at y0' y1'
  clear h hO hb y0 y1
  go_wp2_with fail
  have h := r5Put_any w10 A1 B1 un um ca cb U HS10.out
  unfold PutOut at h
  rw [← HE.out, ← HP.out] at h
  unfold vocV at h
  refine h.mono ?_
  rintro e w11 ⟨qv, rfl, hO, hb⟩
  obtain ⟨QA, qc, rfl⟩ := own_slice hO
  have HQ11 := Lib.hid (BytesIn.own hO (by unfold maxLen; omega))
  have HP11 := Lib.hid (HP10.out.below hb)
  have HB11 := Lib.hid (below_then HB10.out hb HB10.out.size)
  have HS11 := Lib.hid (HS10.out.below hb)
  have HV11 := Lib.hid (HV10.out.below hb HV10.out.lt)
  clear h hO hb y0' y1'
  obtain ⟨G, hG⟩ : ∃ G, G = getV bs := ⟨_, rfl⟩
  have hglen := getV_lens bs
  have hgnone : (getV bs).2 ≠ 0 → (getV bs).1 = ⟨[], []⟩ := getV_none
  rw [← hG] at hglen hgnone
  obtain ⟨H, J, hHJ⟩ : ∃ H J, G = (H, J) := ⟨_, _, rfl⟩
  subst hHJ
  have HG := Lib.hid hG
  have HGL := Lib.hid hglen
  have HGN := Lib.hid hgnone
  obtain ⟨gn, hgn⟩ : ∃ k, k = H.tok.length := ⟨_, rfl⟩
  obtain ⟨gm, hgm⟩ : ∃ k, k = H.mer.length := ⟨_, rfl⟩
  have Hgn := Lib.hid hgn
  have Hgm := Lib.hid hgm
  clear hG hglen hgnone hgn hgm
  go_wp2_with fail
  have h := vGet_any w11 B m d bs (HBS.out.below HB11.out) (by omega)
  rw [← HG.out] at h
  refine h.mono ?_
  intro e w12 hrv
  obtain ⟨A3, B3, ca3, cb3, rfl, hsee, hb⟩ := hrv.see HGN.out HGL.out.1 HGL.out.2
  simp only at hsee ⊢
  rw [← Hgn.out, ← Hgm.out] at hsee
  rw [← Hgn.out, ← Hgm.out]
  unfold vocV
  have HB12 := Lib.hid (below_then HB11.out hb HB11.out.size)
  have HS12 := Lib.hid (HS11.out.below hb)
  have HV12 := Lib.hid (HV11.out.below hb HV11.out.lt)
  have HP12 := Lib.hid (HP11.out.below hb)
  have HQ12 := Lib.hid (HQ11.out.below hb)
  clear h hrv hb
  have bW13 := (Below.refl w12.heap.size w12).alloc (Nat.le_refl _) (.cells #[.slice A3 gn ca3, .slice B3 gm cb3] 33)
  obtain ⟨W13, hW13⟩ : ∃ z, z = w12.alloc (.cells #[.slice A3 gn ca3, .slice B3 gm cb3] 33) := ⟨_, rfl⟩
  obtain ⟨vu, hvu⟩ : ∃ z, z = w12.heap.size := ⟨_, rfl⟩
  have hvW13 : Blk W13 vu 33 #[.slice A3 gn ca3, .slice B3 gm cb3] := by rw [hW13, hvu]; exact Blk.new _ _ _
  rw [← hW13] at bW13
  have HBLW13 := Lib.hid bW13
  have HB13 := Lib.hid (below_then HB12.out bW13 HB12.out.size)
  have HG13 := Lib.hid (hsee.below bW13)
  have HBKW13 := Lib.hid hvW13
  have HEW13 := Lib.hid hW13
  have HEvu := Lib.hid hvu
  clear bW13 hW13 hvu hvW13
  clear hsee
  have HS13 := Lib.hid (HS12.out.below HBLW13.out)
  have HV13 := Lib.hid (HV12.out.below HBLW13.out HV12.out.lt)
  have HP13 := Lib.hid (HP12.out.below HBLW13.out)
  have HQ13 := Lib.hid (HQ12.out.below HBLW13.out)
  go_wp2_with fail
  rw [← HEW13.out, ← HEvu.out]
  have h := r5Get_any W13 B m d bs (HBS.out.below HB13.out) (by omega)
  rw [← HG.out] at h
  refine h.mono ?_
  intro e w14 hrv
  obtain ⟨A4, B4, ca4, cb4, rfl, hsee, hb⟩ := hrv.see HGN.out HGL.out.1 HGL.out.2
  simp only at hsee ⊢
  rw [← Hgn.out, ← Hgm.out] at hsee
  rw [← Hgn.out, ← Hgm.out]
  unfold vocV
  have HB14 := Lib.hid (below_then HB13.out hb HB13.out.size)
  have HS14 := Lib.hid (HS13.out.below hb)
  have HV14 := Lib.hid (HV13.out.below hb HV13.out.lt)
  have HP14 := Lib.hid (HP13.out.below hb)
  have HQ14 := Lib.hid (HQ13.out.below hb)
  have HG14 := Lib.hid (HG13.out.below hb)
  have HU14 := Lib.hid (HBKW13.out.below hb HBKW13.out.lt)
  clear h hrv hb
  have bX := (Below.refl w14.heap.size w14).alloc (Nat.le_refl _) (.cells #[.slice A4 gn ca4, .slice B4 gm cb4] 33)
  obtain ⟨X, hX⟩ : ∃ z, z = w14.alloc (.cells #[.slice A4 gn ca4, .slice B4 gm cb4] 33) := ⟨_, rfl⟩
  obtain ⟨vw, hvw⟩ : ∃ z, z = w14.heap.size := ⟨_, rfl⟩
  have hvX : Blk X vw 33 #[.slice A4 gn ca4, .slice B4 gm cb4] := by rw [hX, hvw]; exact Blk.new _ _ _
  rw [← hX] at bX
  have HBLX := Lib.hid bX
  have HBX := Lib.hid (below_then HB14.out bX HB14.out.size)
  have HGw := Lib.hid (hsee.below bX)
  have HBKX := Lib.hid hvX
  have HEX := Lib.hid hX
  have HEvw := Lib.hid hvw
  clear bX hX hvw hvX
  clear hsee
  have HSX := Lib.hid (HS14.out.below HBLX.out)
  have HVX := Lib.hid (HV14.out.below HBLX.out HV14.out.lt)
  have HGX := Lib.hid (HG14.out.below HBLX.out)
  have HUX := Lib.hid (HU14.out.below HBLX.out HU14.out.lt)
  have s1 := str_later (c := pc) (HP14.out.below HBLX.out)
  have s2 := str_later (c := qc) (HQ14.out.below HBLX.out)
  have t0 := HVX.out.cell 0
  have t1 := HVX.out.cell 1
  have t2 := HUX.out.cell 0
  have t3 := HUX.out.cell 1
  have t4 := HBKX.out.cell 0
  have t5 := HBKX.out.cell 1
  simp only [List.getElem?_toArray, List.getElem?_cons_zero, List.getElem?_cons_succ] at t0 t1 t2 t3 t4 t5
  have l0 := cell_later t0
  have l1 := cell_later t1
  have l2 := cell_later t2
  have l3 := cell_later t3
  have l4 := cell_later t4
  have l5 := cell_later t5
  clear t0 t1 t2 t3 t4 t5
  have dE : (E == E) = true := by simp
  have dJ : (J == J) = true := by simp
  go_wp2_with fail
  rw [← HEX.out, ← HEvw.out]
  refine wp_region_held_drew (S := fun w' => Below X.heap.size X w') (by kernel_rfl) ?_ (fun hHeld => ?_)
  · exact (Below.refl _ _).drew
  refine wpAnyH_take (i := 0) (oi := ?oia0) (v := ?va0) ?hia0 (by kernel_rfl) (by kernel_rfl) (by kernel_rfl) ?hQa0 (Or.inl ⟨?hwa0, ?hya0⟩) (by assumption) ?resta0
  case hia0 => (first | (simp only [List.getElem?_toArray, List.getElem?_cons_zero, List.getElem?_cons_succ]; rfl) | rfl)
  case hQa0 => exact fun _ _ _ h => h
  case hwa0 => rfl
  case hya0 => ((intro w hSw; go_simp); first | done | with_reducible rfl)
  try simp only [Act.put, List.setIfInBounds_toArray, List.set_cons_zero, List.set_cons_succ]
  refine wpAnyH_take (i := 1) (oi := ?oia1) (v := ?va1) ?hia1 (by kernel_rfl) (by kernel_rfl) (by kernel_rfl) ?hQa1 (Or.inl ⟨?hwa1, ?hya1⟩) (by assumption) ?resta1
  case hia1 => (first | (simp only [List.getElem?_toArray, List.getElem?_cons_zero, List.getElem?_cons_succ]; rfl) | rfl)
  case hQa1 => exact fun _ _ _ h => h
  case hwa1 => rfl
  case hya1 => ((intro w hSw; go_simp); first | done | with_reducible rfl)
  try simp only [Act.put, List.setIfInBounds_toArray, List.set_cons_zero, List.set_cons_succ]
  refine wpAnyH_take (i := 2) (oi := ?oia2) (v := ?va2) ?hia2 (by kernel_rfl) (by kernel_rfl) (by kernel_rfl) ?hQa2 (Or.inl ⟨?hwa2, ?hya2⟩) (by assumption) ?resta2
  case hia2 => (first | (simp only [List.getElem?_toArray, List.getElem?_cons_zero, List.getElem?_cons_succ]; rfl) | rfl)
  case hQa2 => exact fun _ _ _ h => h
  case hwa2 => rfl
  case hya2 => ((intro w hSw; go_simp); first | done | with_reducible rfl)
  try simp only [Act.put, List.setIfInBounds_toArray, List.set_cons_zero, List.set_cons_succ]
  refine wpAnyH_take (i := 4) (oi := ?oia4) (v := ?va4) ?hia4 (by kernel_rfl) (by kernel_rfl) (by kernel_rfl) ?hQa4 (Or.inl ⟨?hwa4, ?hya4⟩) (by assumption) ?resta4
  case hia4 => (first | (simp only [List.getElem?_toArray, List.getElem?_cons_zero, List.getElem?_cons_succ]; rfl) | rfl)
  case hQa4 => exact fun _ _ _ h => h
  case hwa4 => rfl
  case hya4 => ((intro w hSw; go_simp); first | done | with_reducible rfl)
  try simp only [Act.put, List.setIfInBounds_toArray, List.set_cons_zero, List.set_cons_succ]
  refine wpAnyH_ready (rs := [3]) (by kernel_rfl) (by simp) ?_
  refine AllReadyH.cons (o := ?o1) ?hc1 ?st1 AllReadyH.nil
  case hc1 => (simp only [List.getElem?_toArray, List.getElem?_cons_zero, List.getElem?_cons_succ]; rfl)
  intro K hK
  go_simp
  refine (vCheck_is _ A1 B1 un um ca cb U (HSX.out.below hHeld) HE.out.symm).mono ?_
  rintro e z1 ⟨rfl, hb⟩
  have HZ1 := Lib.hid (below_then hHeld hb (Below.size hHeld))
  clear hb
  go_wp2_with fail
  refine hK.out _ _ HZ1.out (fun _ => ?_)
  clear hK K
  try simp only [Act.put, List.setIfInBounds_toArray, List.set_cons_zero, List.set_cons_succ]
  have hHeld2 : (fun w' => Below X.heap.size X w') z1 := HZ1.out
  refine wpAnyH_ready (rs := [5]) (by kernel_rfl) (by simp) ?_
  refine AllReadyH.cons (o := ?o2) ?hc2 ?st2 AllReadyH.nil
  case hc2 => (simp only [List.getElem?_toArray, List.getElem?_cons_zero, List.getElem?_cons_succ]; rfl)
  intro K hK
  go_simp
  have h := r5Check_any z1 A1 B1 un um ca cb U (HSX.out.below HZ1.out)
  rw [← HE.out] at h
  unfold vocV at h
  refine h.mono ?_
  rintro e z2 ⟨rfl, hb⟩
  have HZ2 := Lib.hid (below_then HZ1.out hb HZ1.out.size)
  clear hb h
  go_wp2_with fail
  refine hK.out _ _ HZ2.out (fun _ => ?_)
  clear hK K
  try simp only [Act.put, List.setIfInBounds_toArray, List.set_cons_zero, List.set_cons_succ]
  have hHeld3 : (fun w' => Below X.heap.size X w') z2 := HZ2.out
  refine wpAnyH_take (i := 6) (oi := ?oib6) (v := ?vb6) ?hib6 (by kernel_rfl) (by kernel_rfl) (by kernel_rfl) ?hQb6 (Or.inl ⟨?hwb6, ?hyb6⟩) (by assumption) ?restb6
  case hib6 => (first | (simp only [List.getElem?_toArray, List.getElem?_cons_zero, List.getElem?_cons_succ]; rfl) | rfl)
  case hQb6 => exact fun _ _ _ h => h
  case hwb6 => rfl
  case hyb6 => ((intro w hSw; go_simp); first | done | with_reducible rfl)
  try simp only [Act.put, List.setIfInBounds_toArray, List.set_cons_zero, List.set_cons_succ]
  refine wpAnyH_take (i := 7) (oi := ?oib7) (v := ?vb7) ?hib7 (by kernel_rfl) (by kernel_rfl) (by kernel_rfl) ?hQb7 (Or.inl ⟨?hwb7, ?hyb7⟩) (by assumption) ?restb7
  case hib7 => (first | (simp only [List.getElem?_toArray, List.getElem?_cons_zero, List.getElem?_cons_succ]; rfl) | rfl)
  case hQb7 => exact fun _ _ _ h => h
  case hwb7 => rfl
  case hyb7 => ((intro w hSw; go_simp); first | done | with_reducible rfl)
  try simp only [Act.put, List.setIfInBounds_toArray, List.set_cons_zero, List.set_cons_succ]
  refine wpAnyH_take (i := 8) (oi := ?oib8) (v := ?vb8) ?hib8 (by kernel_rfl) (by kernel_rfl) (by kernel_rfl) ?hQb8 (Or.inl ⟨?hwb8, ?hyb8⟩) (by assumption) ?restb8
  case hib8 => (first | (simp only [List.getElem?_toArray, List.getElem?_cons_zero, List.getElem?_cons_succ]; rfl) | rfl)
  case hQb8 => exact fun _ _ _ h => h
  case hwb8 => rfl
  case hyb8 => ((intro w hSw; go_simp); first | done | with_reducible rfl)
  try simp only [Act.put, List.setIfInBounds_toArray, List.set_cons_zero, List.set_cons_succ]
  refine wpAnyH_take (i := 9) (oi := ?oib9) (v := ?vb9) ?hib9 (by kernel_rfl) (by kernel_rfl) (by kernel_rfl) ?hQb9 (Or.inl ⟨?hwb9, ?hyb9⟩) (by assumption) ?restb9
  case hib9 => (first | (simp only [List.getElem?_toArray, List.getElem?_cons_zero, List.getElem?_cons_succ]; rfl) | rfl)
  case hQb9 => exact fun _ _ _ h => h
  case hwb9 => rfl
  case hyb9 => ((intro w hSw; go_simp); first | done | with_reducible rfl)
  try simp only [Act.put, List.setIfInBounds_toArray, List.set_cons_zero, List.set_cons_succ]
  refine wpAnyH_take (i := 10) (oi := ?oib10) (v := ?vb10) ?hib10 (by kernel_rfl) (by kernel_rfl) (by kernel_rfl) ?hQb10 (Or.inl ⟨?hwb10, ?hyb10⟩) (by assumption) ?restb10
  case hib10 => (first | (simp only [List.getElem?_toArray, List.getElem?_cons_zero, List.getElem?_cons_succ]; rfl) | rfl)
  case hQb10 => exact fun _ _ _ h => h
  case hwb10 => rfl
  case hyb10 => ((intro w hSw; go_simp); first | done | with_reducible rfl)
  try simp only [Act.put, List.setIfInBounds_toArray, List.set_cons_zero, List.set_cons_succ]
  refine wpAnyH_take (i := 11) (oi := ?oib11) (v := ?vb11) ?hib11 (by kernel_rfl) (by kernel_rfl) (by kernel_rfl) ?hQb11 (Or.inl ⟨?hwb11, ?hyb11⟩) (by assumption) ?restb11
  case hib11 => (first | (simp only [List.getElem?_toArray, List.getElem?_cons_zero, List.getElem?_cons_succ]; rfl) | rfl)
  case hQb11 => exact fun _ _ _ h => h
  case hwb11 => rfl
  case hyb11 => ((intro w hSw; go_simp); first | done | with_reducible rfl)
  try simp only [Act.put, List.setIfInBounds_toArray, List.set_cons_zero, List.set_cons_succ]
  refine wpAnyH_take (i := 12) (oi := ?oib12) (v := ?vb12) ?hib12 (by kernel_rfl) (by kernel_rfl) (by kernel_rfl) ?hQb12 (Or.inl ⟨?hwb12, ?hyb12⟩) (by assumption) ?restb12
  case hib12 => (first | (simp only [List.getElem?_toArray, List.getElem?_cons_zero, List.getElem?_cons_succ]; rfl) | rfl)
  case hQb12 => exact fun _ _ _ h => h
  case hwb12 => rfl
  case hyb12 => ((intro w hSw; go_simp); first | done | with_reducible rfl)
  try simp only [Act.put, List.setIfInBounds_toArray, List.set_cons_zero, List.set_cons_succ]
  refine wpAnyH_take (i := 13) (oi := ?oib13) (v := ?vb13) ?hib13 (by kernel_rfl) (by kernel_rfl) (by kernel_rfl) ?hQb13 (Or.inl ⟨?hwb13, ?hyb13⟩) (by assumption) ?restb13
  case hib13 => (first | (simp only [List.getElem?_toArray, List.getElem?_cons_zero, List.getElem?_cons_succ]; rfl) | rfl)
  case hQb13 => exact fun _ _ _ h => h
  case hwb13 => rfl
  case hyb13 => ((intro w hSw; go_simp); first | done | with_reducible rfl)
  try simp only [Act.put, List.setIfInBounds_toArray, List.set_cons_zero, List.set_cons_succ]
  refine wpAnyH_take (i := 14) (oi := ?oib14) (v := ?vb14) ?hib14 (by kernel_rfl) (by kernel_rfl) (by kernel_rfl) ?hQb14 (Or.inl ⟨?hwb14, ?hyb14⟩) (by assumption) ?restb14
  case hib14 => (first | (simp only [List.getElem?_toArray, List.getElem?_cons_zero, List.getElem?_cons_succ]; rfl) | rfl)
  case hQb14 => exact fun _ _ _ h => h
  case hwb14 => rfl
  case hyb14 => ((intro w hSw; go_simp); first | done | with_reducible rfl)
  try simp only [Act.put, List.setIfInBounds_toArray, List.set_cons_zero, List.set_cons_succ]
  refine wpAnyH_take (i := 15) (oi := ?oib15) (v := ?vb15) ?hib15 (by kernel_rfl) (by kernel_rfl) (by kernel_rfl) ?hQb15 (Or.inl ⟨?hwb15, ?hyb15⟩) (by assumption) ?restb15
  case hib15 => (first | (simp only [List.getElem?_toArray, List.getElem?_cons_zero, List.getElem?_cons_succ]; rfl) | rfl)
  case hQb15 => exact fun _ _ _ h => h
  case hwb15 => rfl
  case hyb15 => ((intro w hSw; go_simp); first | done | with_reducible rfl)
  try simp only [Act.put, List.setIfInBounds_toArray, List.set_cons_zero, List.set_cons_succ]
  refine wpAnyH_take (i := 16) (oi := ?oib16) (v := ?vb16) ?hib16 (by kernel_rfl) (by kernel_rfl) (by kernel_rfl) ?hQb16 (Or.inl ⟨?hwb16, ?hyb16⟩) (by assumption) ?restb16
  case hib16 => (first | (simp only [List.getElem?_toArray, List.getElem?_cons_zero, List.getElem?_cons_succ]; rfl) | rfl)
  case hQb16 => exact fun _ _ _ h => h
  case hwb16 => rfl
  case hyb16 => ((intro w hSw; go_simp); first | done | with_reducible rfl)
  try simp only [Act.put, List.setIfInBounds_toArray, List.set_cons_zero, List.set_cons_succ]
  refine wpAnyH_take (i := 17) (oi := ?oib17) (v := ?vb17) ?hib17 (by kernel_rfl) (by kernel_rfl) (by kernel_rfl) ?hQb17 (Or.inl ⟨?hwb17, ?hyb17⟩) (by assumption) ?restb17
  case hib17 => (first | (simp only [List.getElem?_toArray, List.getElem?_cons_zero, List.getElem?_cons_succ]; rfl) | rfl)
  case hQb17 => exact fun _ _ _ h => h
  case hwb17 => rfl
  case hyb17 => ((intro w hSw; go_simp); first | done | with_reducible rfl)
  try simp only [Act.put, List.setIfInBounds_toArray, List.set_cons_zero, List.set_cons_succ]
  refine wpAnyH_take (i := 18) (oi := ?oib18) (v := ?vb18) ?hib18 (by kernel_rfl) (by kernel_rfl) (by kernel_rfl) ?hQb18 (Or.inl ⟨?hwb18, ?hyb18⟩) (by assumption) ?restb18
  case hib18 => (first | (simp only [List.getElem?_toArray, List.getElem?_cons_zero, List.getElem?_cons_succ]; rfl) | rfl)
  case hQb18 => exact fun _ _ _ h => h
  case hwb18 => rfl
  case hyb18 => ((intro w hSw; go_simp); first | done | with_reducible rfl)
  try simp only [Act.put, List.setIfInBounds_toArray, List.set_cons_zero, List.set_cons_succ]
  refine wpAnyH_take (i := 19) (oi := ?oib19) (v := ?vb19) ?hib19 (by kernel_rfl) (by kernel_rfl) (by kernel_rfl) ?hQb19 (Or.inl ⟨?hwb19, ?hyb19⟩) (by assumption) ?restb19
  case hib19 => (first | (simp only [List.getElem?_toArray, List.getElem?_cons_zero, List.getElem?_cons_succ]; rfl) | rfl)
  case hQb19 => exact fun _ _ _ h => h
  case hwb19 => rfl
  case hyb19 => ((intro w hSw; go_simp); first | done | with_reducible rfl)
  try simp only [Act.put, List.setIfInBounds_toArray, List.set_cons_zero, List.set_cons_succ]
  refine wpAnyH_take (i := 20) (oi := ?oib20) (v := ?vb20) ?hib20 (by kernel_rfl) (by kernel_rfl) (by kernel_rfl) ?hQb20 (Or.inl ⟨?hwb20, ?hyb20⟩) (by assumption) ?restb20
  case hib20 => (first | (simp only [List.getElem?_toArray, List.getElem?_cons_zero, List.getElem?_cons_succ]; rfl) | rfl)
  case hQb20 => exact fun _ _ _ h => h
  case hwb20 => rfl
  case hyb20 => ((intro w hSw; go_simp); first | done | with_reducible rfl)
  try simp only [Act.put, List.setIfInBounds_toArray, List.set_cons_zero, List.set_cons_succ]
  refine wpAnyH_take (i := 21) (oi := ?oib21) (v := ?vb21) ?hib21 (by kernel_rfl) (by kernel_rfl) (by kernel_rfl) ?hQb21 (Or.inl ⟨?hwb21, ?hyb21⟩) (by assumption) ?restb21
  case hib21 => (first | (simp only [List.getElem?_toArray, List.getElem?_cons_zero, List.getElem?_cons_succ]; rfl) | rfl)
  case hQb21 => exact fun _ _ _ h => h
  case hwb21 => rfl
  case hyb21 => ((intro w hSw; go_simp); first | done | with_reducible rfl)
  try simp only [Act.put, List.setIfInBounds_toArray, List.set_cons_zero, List.set_cons_succ]
  refine wpAnyH_take (i := 22) (oi := ?oib22) (v := ?vb22) ?hib22 (by kernel_rfl) (by kernel_rfl) (by kernel_rfl) ?hQb22 (Or.inl ⟨?hwb22, ?hyb22⟩) (by assumption) ?restb22
  case hib22 => (first | (simp only [List.getElem?_toArray, List.getElem?_cons_zero, List.getElem?_cons_succ]; rfl) | rfl)
  case hQb22 => exact fun _ _ _ h => h
  case hwb22 => rfl
  case hyb22 => ((intro w hSw; go_simp); first | done | with_reducible rfl)
  try simp only [Act.put, List.setIfInBounds_toArray, List.set_cons_zero, List.set_cons_succ]
  refine wpAnyH_ready (rs := [23]) (by kernel_rfl) (by simp) ?_
  refine AllReadyH.cons (o := ?o3) ?hc3 ?st3 AllReadyH.nil
  case hc3 => (simp only [List.getElem?_toArray, List.getElem?_cons_zero, List.getElem?_cons_succ]; rfl)
  intro K hK
  go_simp
  have h := r5Same_any z2 A3 B3 A4 B4 gn gm ca3 cb3 ca4 cb4 H (HGX.out.below HZ2.out) (HGw.out.below HZ2.out)
  unfold vocV at h
  refine h.mono ?_
  rintro e z3 ⟨rfl, hb⟩
  have HZ3 := Lib.hid (below_then HZ2.out hb HZ2.out.size)
  clear hb h
  go_wp2_with fail
  refine hK.out _ _ HZ3.out (fun _ => ?_)
  clear hK K
  try simp only [Act.put, List.setIfInBounds_toArray, List.set_cons_zero, List.set_cons_succ]
  have hHeld4 : (fun w' => Below X.heap.size X w') z3 := HZ3.out
  refine wpAnyH_take (i := 24) (oi := ?oic24) (v := ?vc24) ?hic24 (by kernel_rfl) (by kernel_rfl) (by kernel_rfl) ?hQc24 (Or.inl ⟨?hwc24, ?hyc24⟩) (by assumption) ?restc24
  case hic24 => (first | (simp only [List.getElem?_toArray, List.getElem?_cons_zero, List.getElem?_cons_succ]; rfl) | rfl)
  case hQc24 => exact fun _ _ _ h => h
  case hwc24 => rfl
  case hyc24 => ((intro w hSw; go_simp); first | done | with_reducible rfl)
  try simp only [Act.put, List.setIfInBounds_toArray, List.set_cons_zero, List.set_cons_succ]
  refine wpAnyH_take (i := 25) (oi := ?oic25) (v := ?vc25) ?hic25 (by kernel_rfl) (by kernel_rfl) (by kernel_rfl) ?hQc25 (Or.inl ⟨?hwc25, ?hyc25⟩) (by assumption) ?restc25
  case hic25 => (first | (simp only [List.getElem?_toArray, List.getElem?_cons_zero, List.getElem?_cons_succ]; rfl) | rfl)
  case hQc25 => exact fun _ _ _ h => h
  case hwc25 => rfl
  case hyc25 => ((intro w hSw; go_simp); first | done | with_reducible rfl)
  try simp only [Act.put, List.setIfInBounds_toArray, List.set_cons_zero, List.set_cons_succ]
  refine wpAnyH_take (i := 26) (oi := ?oic26) (v := ?vc26) ?hic26 (by kernel_rfl) (by kernel_rfl) (by kernel_rfl) ?hQc26 (Or.inl ⟨?hwc26, ?hyc26⟩) (by assumption) ?restc26
  case hic26 => (first | (simp only [List.getElem?_toArray, List.getElem?_cons_zero, List.getElem?_cons_succ]; rfl) | rfl)
  case hQc26 => exact fun _ _ _ h => h
  case hwc26 => rfl
  case hyc26 => ((intro w hSw; go_simp); first | done | with_reducible rfl)
  try simp only [Act.put, List.setIfInBounds_toArray, List.set_cons_zero, List.set_cons_succ]
  refine wpAnyH_take (i := 27) (oi := ?oic27) (v := ?vc27) ?hic27 (by kernel_rfl) (by kernel_rfl) (by kernel_rfl) ?hQc27 (Or.inl ⟨?hwc27, ?hyc27⟩) (by assumption) ?restc27
  case hic27 => (first | (simp only [List.getElem?_toArray, List.getElem?_cons_zero, List.getElem?_cons_succ]; rfl) | rfl)
  case hQc27 => exact fun _ _ _ h => h
  case hwc27 => rfl
  case hyc27 => ((intro w hSw; go_simp); first | done | with_reducible rfl)
  try simp only [Act.put, List.setIfInBounds_toArray, List.set_cons_zero, List.set_cons_succ]
  refine wpAnyH_take (i := 28) (oi := ?oic28) (v := ?vc28) ?hic28 (by kernel_rfl) (by kernel_rfl) (by kernel_rfl) ?hQc28 (Or.inl ⟨?hwc28, ?hyc28⟩) (by assumption) ?restc28
  case hic28 => (first | (simp only [List.getElem?_toArray, List.getElem?_cons_zero, List.getElem?_cons_succ]; rfl) | rfl)
  case hQc28 => exact fun _ _ _ h => h
  case hwc28 => rfl
  case hyc28 => ((intro w hSw; go_simp); first | done | with_reducible rfl)
  try simp only [Act.put, List.setIfInBounds_toArray, List.set_cons_zero, List.set_cons_succ]
  refine wpAnyH_take (i := 29) (oi := ?oic29) (v := ?vc29) ?hic29 (by kernel_rfl) (by kernel_rfl) (by kernel_rfl) ?hQc29 (Or.inl ⟨?hwc29, ?hyc29⟩) (by assumption) ?restc29
  case hic29 => (first | (simp only [List.getElem?_toArray, List.getElem?_cons_zero, List.getElem?_cons_succ]; rfl) | rfl)
  case hQc29 => exact fun _ _ _ h => h
  case hwc29 => rfl
  case hyc29 => ((intro w hSw; go_simp); first | done | with_reducible rfl)
  try simp only [Act.put, List.setIfInBounds_toArray, List.set_cons_zero, List.set_cons_succ]
  refine wpAnyH_take (i := 30) (oi := ?oic30) (v := ?vc30) ?hic30 (by kernel_rfl) (by kernel_rfl) (by kernel_rfl) ?hQc30 (Or.inl ⟨?hwc30, ?hyc30⟩) (by assumption) ?restc30
  case hic30 => (first | (simp only [List.getElem?_toArray, List.getElem?_cons_zero, List.getElem?_cons_succ]; rfl) | rfl)
  case hQc30 => exact fun _ _ _ h => h
  case hwc30 => rfl
  case hyc30 => ((intro w hSw; go_simp); first | done | with_reducible rfl)
  try simp only [Act.put, List.setIfInBounds_toArray, List.set_cons_zero, List.set_cons_succ]
  refine wpAnyH_done (by kernel_rfl) ?_ _
  go_wp2
  go_ret
  exact ⟨rfl, below_then HBX.out HZ3.out HBX.out.size⟩
end Go.Proofs.Ytecpihghlelefaa
