/- The program's Get. -/
import Derived.Test.YtecpihghlelefaaVGet1
import Derived.Test.YtecpihghlelefaaVRef3
namespace Go.Proofs.Ytecpihghlelefaa
open Go.RowKit Go.Maps Go.WideMaps
set_option linter.unusedSimpArgs false

theorem VocSee.none (w : World) : VocSee w none none 0 0 0 0 ⟨[], []⟩ where
  tok := ⟨rfl, by unfold maxLen; omega, fun i x h => by simp at h⟩
  mer := ⟨rfl, by unfold maxLen; omega, fun i x h => by simp at h, fun m h => by simp at h⟩
  capT := Nat.le_refl _
  capM := Nat.le_refl _
theorem getV_none {b : List UInt8} (h : (getV b).2 ≠ 0) : (getV b).1 = ⟨[], []⟩ := by
  unfold getV at h ⊢
  simp only at h ⊢
  split at h
  · rename_i h1; rw [if_pos h1]
  · rename_i h1
    rw [if_neg h1]
    split at h
    · rename_i h2; rw [if_pos h2]
    · rename_i h2
      rw [if_neg h2]
      split at h
      · rename_i h3; rw [if_pos h3]
      · exact absurd rfl h
theorem getV_lens (b : List UInt8) : (getV b).1.tok.length ≤ 512 ∧ (getV b).1.mer.length ≤ 512 := by
  by_cases h : (getV b).2 = 0
  · have h1 := putV_get (b := b) (V := (getV b).1) (by rw [← h])
    obtain ⟨a1, a2, _, _⟩ := check_bounds h1.2
    exact ⟨a1, a2⟩
  · rw [getV_none h]; simp
/-- What Get leaves can be read, in any case. -/
theorem RVOut.see {w w' : World} {r : Voc × Int} {e : Ending} (h : RVOut w r e w') (h0 : r.2 ≠ 0 → r.1 = ⟨[], []⟩) (h1 : r.1.tok.length ≤ 512) (h2 : r.1.mer.length ≤ 512) :
    ∃ A B ca cb, e = .returned (.tuple #[vocV A B r.1.tok.length r.1.mer.length ca cb, .int .i64 r.2]) ∧ VocSee w' A B r.1.tok.length r.1.mer.length ca cb r.1 ∧ Below w.heap.size w w' := by
  obtain ⟨tv, mv, svs, F, b, he, hb, hok, herr⟩ := h
  by_cases hr : r.2 = 0
  · obtain ⟨hG, _⟩ := hok hr
    obtain ⟨A, B, ca, cb, rfl, rfl, hs⟩ := hG.see (by omega) (by omega)
    exact ⟨A, B, ca, cb, he, hs, hb⟩
  · obtain ⟨rfl, rfl⟩ := herr hr
    have h3 := h0 hr
    refine ⟨none, none, 0, 0, ?_, ?_, hb⟩
    · rw [he, h3]; rfl
    · rw [h3]; exact VocSee.none _

set_option maxHeartbeats 8000000 in
set_option maxRecDepth 100000 in
theorem vGet_any (w : World) (A : Option Addr) (n c : Nat) (l : Nm) (hl : BytesIn w A n l) (hn : n ≤ 1099511627776) :
    Calls Try.prog 16 #[.slice A n c] w (RVOut w (getV l)) := by
  obtain ⟨R, hR⟩ : ∃ R, R = getV l := ⟨_, rfl⟩
  rw [← hR]
  obtain ⟨T, hT⟩ : ∃ T, T = readT ⟨l, 0, 0⟩ := ⟨_, rfl⟩
  obtain ⟨M, hM⟩ : ∃ M, M = readM T.2 := ⟨_, rfl⟩
  obtain ⟨E, hE⟩ : ∃ E, E = checkV ⟨T.1, M.1⟩ := ⟨_, rfl⟩
  obtain ⟨lf, hlf⟩ : ∃ k, k = rLeft M.2 := ⟨_, rfl⟩
  have hR1 : R = if M.2.e ≠ 0 then (⟨[], []⟩, M.2.e) else if 0 < lf then (⟨[], []⟩, 3) else if E ≠ 0 then (⟨[], []⟩, E) else (⟨T.1, M.1⟩, 0) := by
    rw [hR]; unfold getV; simp only [← hT, ← hM, ← hE, ← hlf]
  obtain ⟨L, s1, hTe⟩ : ∃ L s1, T = (L, s1) := ⟨_, _, rfl⟩
  have hbt := readT_len ⟨l, 0, 0⟩
  have hbm := readM_len T.2
  rw [← hT] at hbt
  rw [← hM] at hbm
  obtain ⟨ma, sm, hMe⟩ : ∃ ma sm, M = (ma, sm) := ⟨_, _, rfl⟩
  subst hMe
  subst hTe
  obtain ⟨er, her⟩ : ∃ k, k = sm.e := ⟨_, rfl⟩
  simp only [← her] at hR1 hE hlf hbt hbm
  have HR1 := Lib.hid hR1
  have HT := Lib.hid hT
  have HM := Lib.hid hM
  have HE := Lib.hid hE
  have HLF := Lib.hid hlf
  have HER := Lib.hid her
  have hb1 := (Below.refl w.heap.size w).alloc (Nat.le_refl _) (.cells #[.slice none 0 0, .slice none 0 0] 33)
  obtain ⟨W1, hW1⟩ : ∃ W1, W1 = w.alloc (.cells #[.slice none 0 0, .slice none 0 0] 33) := ⟨_, rfl⟩
  have hv0 : Blk W1 w.heap.size 33 #[.slice none 0 0, .slice none 0 0] := by rw [hW1]; exact Blk.new _ _ _
  rw [← hW1] at hb1
  have HV1 := Lib.hid hv0
  have HB1 := Lib.hid hb1
  have HL := Lib.hid (hl.below hb1)
  have HW1 := Lib.hid hW1
  clear hR hR1 hT hM hE hlf her hb1 hv0 hW1 hl
  go_enter Try.func16, Try.ntmps16
  go_wp2_with fail
  rw [← HW1.out]
  refine (lNew_any W1 A n c l HL.out hn).mono ?_
  rintro e w2 ⟨rb, g, rfl, hrb, hgl, hR2, hb2⟩
  have HR2 := Lib.hid hR2
  have HV2 := Lib.hid (HV1.out.below hb2 HV1.out.lt)
  have HB2 := Lib.hid (below_then HB1.out hb2 HB1.out.size)
  have HRB := Lib.hid (Nat.le_trans HB1.out.size hrb)
  have HRN := Lib.hid (show w.heap.size ≠ rb from fun e => by have h1 := HV1.out.lt; omega)
  clear hrb hgl hR2 hb2
  unfold at0
  go_wp2_with fail
  refine (vRead_any w2 rb g ⟨l, 0, 0⟩ HR2.out).mono ?_
  rintro e w3 ⟨tv, mv, svs, F, b, rfl, hG3, hF3, hR3, hk3⟩
  simp only [← HT.out, ← HM.out] at hG3 hR3
  obtain ⟨At, Bm, ct, cm, rfl, rfl, hsee⟩ := hG3.see (by simp only; omega) (by simp only; omega)
  have b4 := (Below.refl w3.heap.size w3).alloc (Nat.le_refl _) (.cells #[.slice At L.length ct, .slice Bm ma.length cm] 33)
  obtain ⟨W4, hW4⟩ : ∃ z, z = w3.alloc (.cells #[.slice At L.length ct, .slice Bm ma.length cm] 33) := ⟨_, rfl⟩
  have hn4 : Blk W4 w3.heap.size 33 #[.slice At L.length ct, .slice Bm ma.length cm] := by rw [hW4]; exact Blk.new _ _ _
  rw [← hW4] at b4
  have HG4 := Lib.hid (hG3.kept b4)
  have HS4 := Lib.hid (hsee.below b4)
  have HF4 := Lib.hid (show ∀ i, F i → w.heap.size + 1 ≤ i from fun i hi => by have h1 := hF3 i hi; have h2 := HB2.out.size; have h3 := HV2.out.lt; omega)
  have HR4 := Lib.hid (hR3.kept (Kept.below (F := fun _ => False) b4) (fun h => h) (fun _ _ h => h))
  have HV4 := Lib.hid ((HV2.out.kept hk3 (fun e => HRN.out e)).below b4 (HV2.out.kept hk3 (fun e => HRN.out e)).lt)
  have hB3 := Kept.toBelow (B := w.heap.size) ((Kept.below (F := fun i => i = rb) HB2.out).trans hk3 (fun i _ e => e)) (Nat.le_refl _) (fun i e => by have h1 := HRB.out; exact Nat.le_trans h1 (Nat.le_of_eq e.symm))
  have HB4 := Lib.hid (hB3.trans (b4.mono hB3.size))
  have HN4 := Lib.hid hn4
  have HW4 := Lib.hid hW4
  clear hG3 hF3 hR3 hk3 hsee b4 hn4 hW4 hB3
  go_wp2_with fail
  rw [← HW4.out]
  have h := lErr_any W4 rb g sm HR4.out
  rw [← HER.out] at h
  refine h.mono ?_
  rintro e w5 ⟨rfl, hw⟩
  rw [hw]
  clear hw h w5
  by_cases hbad : er ≠ 0
  · have d1 : (er == 0) = false := by simpa using hbad
    have d2 : (er != 0) = true := by simpa using hbad
    have HNE := Lib.hid hbad
    clear hbad
    have y0 := HV4.out.cell 0
    have y1 := HV4.out.cell 1
    have z0 := HV4.out.frozen 0
    have z1 := HV4.out.frozen 1
    simp only [List.getElem?_toArray, List.getElem?_cons_zero, List.getElem?_cons_succ] at y0 y1
    go_wp2
    refine bodyPost_ret (results_cell_row_tmp rfl _ _ w.heap.size 33 #[.slice none 0 0, .slice none 0 0] (0, 0) _ rfl ?_ Try.underlying33 rfl vocabCells) rfl ?_
    · have := (HV4.out.set_ 0 (.slice none 0 0)).set_ 1 (.slice none 0 0)
      simpa [Blk] using this
    · unfold RVOut
      rw [HR1.out, if_pos HNE.out]
      exact ⟨.slice none 0 0, .slice none 0 0, [], fun _ => False, 0, rfl, (HB4.out.setCell (Nat.le_refl _) _).setCell (Nat.le_refl _) _, fun h => absurd h HNE.out, fun _ => ⟨rfl, rfl⟩⟩
  have her0 : er = 0 := by simpa using hbad
  subst her0
  clear hbad
  go_wp2_with fail
  have h := lLeft_any W4 rb g sm HR4.out
  rw [← HLF.out] at h
  refine h.mono ?_
  rintro e w5 ⟨rfl, hw⟩
  rw [hw]
  clear hw h w5
  by_cases hleft : 0 < lf
  · have d1 : decide ((0 : Int) < (lf : Int)) = true := by simp; omega
    have d3 : (0 : Int) < (lf : Int) := by omega
    have HLP := Lib.hid hleft
    have HNE : Hid ((3 : Int) ≠ 0) := Lib.hid (by omega)
    clear hleft
    have y0 := HV4.out.cell 0
    have y1 := HV4.out.cell 1
    have z0 := HV4.out.frozen 0
    have z1 := HV4.out.frozen 1
    simp only [List.getElem?_toArray, List.getElem?_cons_zero, List.getElem?_cons_succ] at y0 y1
    go_wp2
    refine bodyPost_ret (results_cell_row_tmp rfl _ _ w.heap.size 33 #[.slice none 0 0, .slice none 0 0] (0, 0) _ rfl ?_ Try.underlying33 rfl vocabCells) rfl ?_
    · have := (HV4.out.set_ 0 (.slice none 0 0)).set_ 1 (.slice none 0 0)
      simpa [Blk] using this
    · unfold RVOut
      rw [HR1.out, if_neg (by simp), if_pos HLP.out]
      exact ⟨.slice none 0 0, .slice none 0 0, [], fun _ => False, 0, rfl, (HB4.out.setCell (Nat.le_refl _) _).setCell (Nat.le_refl _) _, fun h => absurd h HNE.out, fun _ => ⟨rfl, rfl⟩⟩
  have d1 : decide ((0 : Int) < (lf : Int)) = false := by simp; omega
  have d3 : ¬ (0 : Int) < (lf : Int) := by omega
  have HLP := Lib.hid hleft
  have x0 := HN4.out.cell 0
  have x1 := HN4.out.cell 1
  simp only [List.getElem?_toArray, List.getElem?_cons_zero, List.getElem?_cons_succ] at x0 x1
  clear hleft
  go_wp2_with fail
  refine (vCheck_is W4 At Bm L.length ma.length ct cm ⟨L, ma⟩ HS4.out HE.out.symm).mono ?_
  rintro e w5 ⟨rfl, hb5⟩
  have HB5 := Lib.hid (below_then HB4.out hb5 HB4.out.size)
  have HV5 := Lib.hid (HV4.out.below hb5 HV4.out.lt)
  have HN5 := Lib.hid (HN4.out.below hb5 HN4.out.lt)
  have HG5 := Lib.hid (HG4.out.kept hb5)
  clear hb5 x0 x1 d1 d3
  by_cases hbad : E ≠ 0
  · have d2 : (E != 0) = true := by simpa using hbad
    have HNE := Lib.hid hbad
    clear hbad
    have y0 := HV5.out.cell 0
    have y1 := HV5.out.cell 1
    have z0 := HV5.out.frozen 0
    have z1 := HV5.out.frozen 1
    simp only [List.getElem?_toArray, List.getElem?_cons_zero, List.getElem?_cons_succ] at y0 y1
    go_wp2
    refine bodyPost_ret (results_cell_row_tmp rfl _ _ w.heap.size 33 #[.slice none 0 0, .slice none 0 0] (0, 0) _ rfl ?_ Try.underlying33 rfl vocabCells) rfl ?_
    · have := (HV5.out.set_ 0 (.slice none 0 0)).set_ 1 (.slice none 0 0)
      simpa [Blk] using this
    · unfold RVOut
      rw [HR1.out, if_neg (by simp), if_neg HLP.out, if_pos HNE.out]
      exact ⟨.slice none 0 0, .slice none 0 0, [], fun _ => False, 0, rfl, (HB5.out.setCell (Nat.le_refl _) _).setCell (Nat.le_refl _) _, fun h => absurd h HNE.out, fun _ => ⟨rfl, rfl⟩⟩
  have hE0 : E = 0 := by simpa using hbad
  subst hE0
  clear hbad
  have x0 := HN5.out.cell 0
  have x1 := HN5.out.cell 1
  have y0 := HV5.out.cell 0
  have y1 := HV5.out.cell 1
  have z0 := HV5.out.frozen 0
  have z1 := HV5.out.frozen 1
  simp only [List.getElem?_toArray, List.getElem?_cons_zero, List.getElem?_cons_succ] at x0 x1 y0 y1
  go_wp2
  have hnF : ¬ F w.heap.size := fun hf => by have := HF4.out _ hf; omega
  have hk1 : Kept (fun i => i = w.heap.size) w5 (w5.setCell ⟨w.heap.size, 0, none⟩ (.slice At L.length ct)) := (Kept.refl (fun i => i = w.heap.size) w5).setCell (p := ⟨w.heap.size, 0, none⟩) (.inl rfl) _
  have hk2 : Kept (fun i => i = w.heap.size) w5 ((w5.setCell ⟨w.heap.size, 0, none⟩ (.slice At L.length ct)).setCell ⟨w.heap.size, 1, none⟩ (.slice Bm ma.length cm)) := hk1.setCell (p := ⟨w.heap.size, 1, none⟩) (.inl rfl) _
  have h4 := HG5.out.far hk2 hnF (fun A0 x hx => not_bytes HV5.out (fun i c => by
    match i with
    | 0 => simp [byteV]
    | 1 => simp [byteV]
    | i + 2 => simp) A0 x hx)
  refine bodyPost_ret (results_cell_row_tmp rfl _ _ w.heap.size 33 #[.slice At L.length ct, .slice Bm ma.length cm] (0, 0) _ rfl ?_ Try.underlying33 rfl vocabCells) rfl ?_
  · have := (HV5.out.set_ 0 (.slice At L.length ct)).set_ 1 (.slice Bm ma.length cm)
    simpa [Blk] using this
  · unfold RVOut
    rw [HR1.out, if_neg (by simp), if_neg HLP.out, if_neg (by simp)]
    exact ⟨.slice At L.length ct, .slice Bm ma.length cm, svs, F, b, rfl, (HB5.out.setCell (Nat.le_refl _) _).setCell (Nat.le_refl _) _, fun _ => ⟨h4, fun i hi => by have := HF4.out i hi; omega⟩, fun h => absurd rfl h⟩
end Go.Proofs.Ytecpihghlelefaa
