/- The document's disk: Append. -/
import Derived.Test.YtblpppeppgfbpaaR1Ops3
namespace Go.Proofs.Ytblpppeppgfbpaa
open Go.RowKit Go.Maps Go.WideMaps

theorem bytes_keep' {w w' : World} {A : Option Addr} {n : Nat} {l : Nm} (h : BytesIn w A n l) (hb : ∀ ad, A = some ad → 0 < n → w'.heap[ad.block]? = w.heap[ad.block]?) (hs : w.heap.size ≤ w'.heap.size) : BytesIn w' A n l :=
  ⟨h.1, h.2.1.keep hb, fun ad e h0 => Nat.lt_of_lt_of_le (h.2.2 ad e h0) hs⟩
def rAppend (r : RSt) (k bs : Nm) : Int × RSt :=
  if (rPower r).off then (14, rPower r) else match dget r.dir k with
  | none => (12, r)
  | some j => if 262144 < bs.length + (rDat r j).length then (2, r) else if r.room < bs.length + rSum r r.dir then (11, r) else (0, rDid { r with ino := r.ino.set j (rDat r j ++ bs, ((r.ino[j]?).map (·.2)).getD 0) })
set_option linter.unusedSimpArgs false in
set_option maxHeartbeats 8000000 in
set_option maxRecDepth 100000 in
theorem r1Append_any (w : World) (F : Nat → Prop) (b : Nat) (r : RSt) (hR : R1At w F b r) (hdn : r.done < 100000) (k : Nm) (Ab : Option Addr) (nb cb' : Nat) (bs : Nm) (hbs : BytesIn w Ab nb bs) (hAb : ∀ ad, Ab = some ad → 0 < nb → ¬ F ad.block) :
    Calls Try.prog 42 #[at0 b, .string ⟨k.toArray⟩, .slice Ab nb cb'] w (R1Left w F b (rAppend r k bs).1 (rAppend r k bs).2) := by
  have hb := hR.F_b
  have hbl : bs.length = nb := by have := hbs.2.1.len; simpa using this
  have n63 : nb ≤ 9223372036854775807 := hbs.1
  have HBL := Lib.hid hbl
  have HBS := Lib.hid hbs
  clear hbl hbs
  unfold rAppend
  cases ho : (rPower r).off with
  | true =>
    rw [if_pos rfl]
    have HO := Lib.hid ho
    have HR := Lib.hid hR
    clear hR ho
    unfold at0
    go_enter Try.func42, Try.ntmps42
    go_wp2_with fail
    refine (r1power_any w F b r HR.out).mono ?_
    rintro e w1 ⟨rfl, hR1, hk⟩
    rw [HO.out]
    have HR1 := Lib.hid hR1
    have HK := Lib.hid hk
    clear hR1 hk
    go_wp2
    go_ret
    exact R1Left.stay HR1.out HK.out
  | false =>
    rw [if_neg Bool.false_ne_true]
    have hon := (rPower_on ho).2
    have hsame := rPower_same ho
    have HO := Lib.hid ho
    have HR := Lib.hid hR
    have HSAME := Lib.hid hsame
    have HON := Lib.hid hon
    clear hR ho hsame hon
    rcases dfind_dget r.dir k with ⟨g1, g2⟩ | ⟨i, ⟨pn, j⟩, g0, g1, g2⟩
    · rw [g1]
      have G2 := Lib.hid g2
      clear g1 g2
      unfold at0
      go_enter Try.func42, Try.ntmps42
      go_wp2_with fail
      refine (r1power_any w F b r HR.out).mono ?_
      rintro e w1 ⟨rfl, hR1, hk⟩
      rw [HO.out]
      rw [HSAME.out] at hR1
      obtain ⟨A, c, k2, hd⟩ := hR1.dirCell
      have HR1 := Lib.hid hR1
      have HK := Lib.hid hk
      have HD := Lib.hid hd
      clear hR1 hk hd
      go_wp2_with fail
      refine (r1find_is w1 A _ c r.dir HD.out k G2.out).mono ?_
      rintro e w2 ⟨rfl, hw⟩
      rw [hw]
      clear hw
      go_wp2
      go_ret
      exact R1Left.stay HR1.out HK.out
    · rw [g1]
      have G2 := Lib.hid g2
      have hni : ¬ ((i : Int) < 0) := by omega
      have hin := (List.getElem?_eq_some_iff.1 g0).1
      have hj := HR.out.wf.fdir _ (List.mem_of_getElem? g0)
      simp only at hj
      obtain ⟨x, hx⟩ : ∃ x, r.ino[j]? = some x := ⟨_, List.getElem?_eq_getElem hj⟩
      have G0 := Lib.hid g0
      have HX := Lib.hid hx
      have hxl := (HR.out.wf.fit x (List.mem_of_getElem? hx)).2
      simp only [show rDat r j = x.1 from rDat_at hx, show ((r.ino[j]?).map (·.2)).getD 0 = x.2 by rw [hx]; rfl]
      clear g0 g1 g2 hx
      obtain ⟨m, hm⟩ : ∃ m, m = x.1.length := ⟨_, rfl⟩
      obtain ⟨U, hU⟩ : ∃ U, U = rSum r r.dir := ⟨_, rfl⟩
      have hsum := rSum_le HR.out.wf r.dir
      rw [← hU] at hsum ⊢
      rw [← hm] at hxl ⊢
      rw [HBL.out]
      have HM := Lib.hid hm
      have HU := Lib.hid hU
      have hsb1 : IntKind.i64.wrap (262144 - (m : Int)) = 262144 - (m : Int) := IntWalk.i64_in _ (by omega)
      have hroom0 := HR.out.wf.room
      have hndir0 := HR.out.wf.ndir
      have hsb2 : IntKind.i64.wrap ((r.room : Int) - (U : Int)) = (r.room : Int) - (U : Int) := IntWalk.i64_in _ (by omega)
      clear hm hU hsum
      by_cases hbig : 262144 < nb + m
      · rw [if_pos hbig]
        have hbz : 262144 - (m : Int) < (nb : Int) := by omega
        unfold at0
        go_enter Try.func42, Try.ntmps42
        go_wp2_with fail
        refine (r1power_any w F b r HR.out).mono ?_
        rintro e w1 ⟨rfl, hR1, hk⟩
        rw [HO.out]
        rw [HSAME.out] at hR1
        obtain ⟨G, vi, vc, A, c, B, cb, svs, h, hF, hlt⟩ := hR1
        have k0 := h.blk.cell 0
        have k1 := h.blk.cell 1
        have k2 := h.blk.cell 2
        simp at k0 k1 k2
        obtain ⟨ad, p', rfl, hp', d1, d2⟩ := h.dir.at i hin
        rw [G0.out] at hp'
        cases hp'
        simp only at d2
        obtain ⟨gi, cap, D, cd, rfl, hsv, e1, e2, e3, e4, e5⟩ := h.inode HX.out
        have hroom := h.wf.room
        have hndir := h.wf.ndir
        have H := Lib.hid h
        have HK := Lib.hid hk
        have HF := Lib.hid hF
        have HLT := Lib.hid hlt
        have HD := Lib.hid h.dir
        have HSV := Lib.hid hsv
        have hgb : gi ≠ b := fun e => own_blk_ne h.ino h.blk (by decide) (by rw [e]; rfl)
        have p0 : (0 : Int) ≤ (i : Int) := by omega
        have p1 : (i : Int) < (r.dir.length : Int) := by omega
        have q0 : (0 : Int) ≤ (j : Int) := by omega
        have q1 : (j : Int) < (r.ino.length : Int) := by omega
        rw [← HM.out] at e1 e4 e5
        have HE4 := Lib.hid e4
        have HE5 := Lib.hid e5
        clear h hk hF hlt hsv e3 e4 e5 d1
        go_wp2_with fail
        refine (r1find_is w1 (some ad) _ c r.dir HD.out k G2.out).mono ?_
        rintro e w2 ⟨rfl, hw⟩
        rw [hw]
        clear hw
        go_wp2
        go_ret
        exact R1Left.stay ⟨G, _, vc, some ad, c, B, cb, svs, H.out, HF.out, HLT.out⟩ HK.out
      rw [if_neg hbig]
      have hbz : ¬ (262144 - (m : Int) < (nb : Int)) := by omega
      by_cases hfull : r.room < nb + U
      · rw [if_pos hfull]
        have hfz : (r.room : Int) - (U : Int) < (nb : Int) := by omega
        unfold at0
        go_enter Try.func42, Try.ntmps42
        go_wp2_with fail
        refine (r1power_any w F b r HR.out).mono ?_
        rintro e w1 ⟨rfl, hR1, hk⟩
        rw [HO.out]
        rw [HSAME.out] at hR1
        obtain ⟨G, vi, vc, A, c, B, cb, svs, h, hF, hlt⟩ := hR1
        have k0 := h.blk.cell 0
        have k1 := h.blk.cell 1
        have k2 := h.blk.cell 2
        simp at k0 k1 k2
        obtain ⟨ad, p', rfl, hp', d1, d2⟩ := h.dir.at i hin
        rw [G0.out] at hp'
        cases hp'
        simp only at d2
        obtain ⟨gi, cap, D, cd, rfl, hsv, e1, e2, e3, e4, e5⟩ := h.inode HX.out
        have hroom := h.wf.room
        have hndir := h.wf.ndir
        have H := Lib.hid h
        have HK := Lib.hid hk
        have HF := Lib.hid hF
        have HLT := Lib.hid hlt
        have HD := Lib.hid h.dir
        have HSV := Lib.hid hsv
        have hgb : gi ≠ b := fun e => own_blk_ne h.ino h.blk (by decide) (by rw [e]; rfl)
        have p0 : (0 : Int) ≤ (i : Int) := by omega
        have p1 : (i : Int) < (r.dir.length : Int) := by omega
        have q0 : (0 : Int) ≤ (j : Int) := by omega
        have q1 : (j : Int) < (r.ino.length : Int) := by omega
        rw [← HM.out] at e1 e4 e5
        have HE4 := Lib.hid e4
        have HE5 := Lib.hid e5
        clear h hk hF hlt hsv e3 e4 e5 d1
        go_wp2_with fail
        refine (r1find_is w1 (some ad) _ c r.dir HD.out k G2.out).mono ?_
        rintro e w2 ⟨rfl, hw⟩
        rw [hw]
        clear hw
        go_wp2_with fail
        refine (r1Used_any w1 F b r ⟨G, _, vc, some ad, c, B, cb, svs, H.out, HF.out, HLT.out⟩).mono ?_
        rintro e w2 ⟨rfl, q, hw⟩
        rw [← HU.out]
        have h2 : IsR1 w2 b G r (.slice (some ⟨gi, 0, none⟩) r.ino.length cap) vc (some ad) c B cb svs := by rw [hw]; exact H.out.same (fun _ _ => rfl) (Nat.le_refl _)
        have hk2 : Kept (fun i => i = b) w w2 := by rw [hw]; exact HK.out.drewN q
        have hsz2 : w1.heap.size = w2.heap.size := by rw [hw]; rfl
        have hlt2 : ∀ i, F i → i < w2.heap.size := fun i hi => by rw [← hsz2]; exact HLT.out i hi
        have j0 : w2.cell? ⟨b, 0, none⟩ = some (.int .i64 r.room) := by simpa using h2.blk.cell 0
        have j1 : w2.cell? ⟨b, 1, none⟩ = some (.slice (some ⟨gi, 0, none⟩) r.ino.length cap) := by simpa using h2.blk.cell 1
        have f1 : w2.cell? ⟨gi, j * 2, none⟩ = some (.slice D m cd) := by rw [hw]; exact e1
        have H2 := Lib.hid h2
        have HK2 := Lib.hid hk2
        have HLT2 := Lib.hid hlt2
        clear hw h2 hk2 hsz2 hlt2 H HK HLT HD k0 k1 k2 d2 e1
        go_wp2
        go_ret
        exact R1Left.stay ⟨G, _, vc, some ad, c, B, cb, svs, H2.out, HF.out, HLT2.out⟩ HK2.out
      rw [if_neg hfull]
      have hfz : ¬ ((r.room : Int) - (U : Int) < (nb : Int)) := by omega
      unfold at0
      go_enter Try.func42, Try.ntmps42
      go_wp2_with fail
      refine (r1power_any w F b r HR.out).mono ?_
      rintro e w1 ⟨rfl, hR1, hk⟩
      rw [HO.out]
      rw [HSAME.out] at hR1
      obtain ⟨G, vi, vc, A, c, B, cb, svs, h, hF, hlt⟩ := hR1
      have k0 := h.blk.cell 0
      have k1 := h.blk.cell 1
      have k2 := h.blk.cell 2
      simp at k0 k1 k2
      obtain ⟨ad, p', rfl, hp', d1, d2⟩ := h.dir.at i hin
      rw [G0.out] at hp'
      cases hp'
      simp only at d2
      obtain ⟨gi, cap, D, cd, rfl, hsv, e1, e2, e3, e4, e5⟩ := h.inode HX.out
      have hroom := h.wf.room
      have hndir := h.wf.ndir
      have H := Lib.hid h
      have HK := Lib.hid hk
      have HF := Lib.hid hF
      have HLT := Lib.hid hlt
      have HD := Lib.hid h.dir
      have HSV := Lib.hid hsv
      have hgb : gi ≠ b := fun e => own_blk_ne h.ino h.blk (by decide) (by rw [e]; rfl)
      have p0 : (0 : Int) ≤ (i : Int) := by omega
      have p1 : (i : Int) < (r.dir.length : Int) := by omega
      have q0 : (0 : Int) ≤ (j : Int) := by omega
      have q1 : (j : Int) < (r.ino.length : Int) := by omega
      rw [← HM.out] at e1 e4 e5
      have HE4 := Lib.hid e4
      have HE5 := Lib.hid e5
      clear h hk hF hlt hsv e3 e4 e5 d1
      go_wp2_with fail
      refine (r1find_is w1 (some ad) _ c r.dir HD.out k G2.out).mono ?_
      rintro e w2 ⟨rfl, hw⟩
      rw [hw]
      clear hw
      go_wp2_with fail
      refine (r1Used_any w1 F b r ⟨G, _, vc, some ad, c, B, cb, svs, H.out, HF.out, HLT.out⟩).mono ?_
      rintro e w2 ⟨rfl, q, hw⟩
      rw [← HU.out]
      have h2 : IsR1 w2 b G r (.slice (some ⟨gi, 0, none⟩) r.ino.length cap) vc (some ad) c B cb svs := by rw [hw]; exact H.out.same (fun _ _ => rfl) (Nat.le_refl _)
      have hk2 : Kept (fun i => i = b) w w2 := by rw [hw]; exact HK.out.drewN q
      have hsz2 : w1.heap.size = w2.heap.size := by rw [hw]; rfl
      have hlt2 : ∀ i, F i → i < w2.heap.size := fun i hi => by rw [← hsz2]; exact HLT.out i hi
      have j0 : w2.cell? ⟨b, 0, none⟩ = some (.int .i64 r.room) := by simpa using h2.blk.cell 0
      have j1 : w2.cell? ⟨b, 1, none⟩ = some (.slice (some ⟨gi, 0, none⟩) r.ino.length cap) := by simpa using h2.blk.cell 1
      have f1 : w2.cell? ⟨gi, j * 2, none⟩ = some (.slice D m cd) := by rw [hw]; exact e1
      have H2 := Lib.hid h2
      have HK2 := Lib.hid hk2
      have HLT2 := Lib.hid hlt2
      clear hw h2 hk2 hsz2 hlt2 H HK HLT HD k0 k1 k2 d2 e1
      have hE2 : BytesIn w2 D m x.1 := by
        obtain ⟨gi', cap', D', cd', _, hsv', f1, _, _, f4, _⟩ := H2.out.inode HX.out
        rw [HSV.out] at hsv'
        cases hsv'
        rw [HM.out]
        exact f4
      have HIN0 := Lib.hid hE2
      have HIB := Lib.hid (bytes_keep' HBS.out (fun ad e h0 => HK2.out.block _ (HBS.out.2.2 ad e h0) (fun h => hAb ad e h0 (by rw [show ad.block = b from h]; exact hb))) HK2.out.size)
      have ez := H2.out.ino.frozenAt (j * 2)
      clear hE2
      obtain ⟨i0, hi, hz0, hz1, hz2⟩ := info_parts byteInfo
      go_wp2_with fail
      refine wp_region_held_drew (S := fun w' => w'.cell? ⟨b, 1, none⟩ = some (.slice (some ⟨gi, 0, none⟩) r.ino.length cap)) (by kernel_rfl) j1 (fun hHeld => ?_)
      refine wpAnyH_take (i := 0) (oi := ?oi0) (v := ?v0) ?hi0 (by kernel_rfl) (by kernel_rfl) (by kernel_rfl) ?hQ0 (Or.inl ⟨?hw0, ?hy0⟩) (by assumption) ?rest0
      case hi0 => (first | (simp only [List.getElem?_toArray, List.getElem?_cons_zero, List.getElem?_cons_succ]; rfl) | rfl)
      case hQ0 => exact fun _ _ _ h => h
      case hw0 => rfl
      case hy0 => ((intro w hSw; go_simp); first | done | with_reducible rfl)
      try simp only [Act.put, List.setIfInBounds_toArray, List.set_cons_zero, List.set_cons_succ]
      refine wpAnyH_take (i := 1) (oi := ?oi1) (v := ?v1) ?hi1 (by kernel_rfl) (by kernel_rfl) (by kernel_rfl) ?hQ1 (Or.inl ⟨?hw1, ?hy1⟩) (by assumption) ?rest1
      case hi1 => (first | (simp only [List.getElem?_toArray, List.getElem?_cons_zero, List.getElem?_cons_succ]; rfl) | rfl)
      case hQ1 => exact fun _ _ _ h => h
      case hw1 => rfl
      case hy1 => ((intro w hSw; go_simp); first | done | with_reducible rfl)
      try simp only [Act.put, List.setIfInBounds_toArray, List.set_cons_zero, List.set_cons_succ]
      refine wpAnyH_take (i := 2) (oi := ?oi2) (v := ?v2) ?hi2 (by kernel_rfl) (by kernel_rfl) (by kernel_rfl) ?hQ2 (Or.inl ⟨?hw2, ?hy2⟩) (by assumption) ?rest2
      case hi2 => (first | (simp only [List.getElem?_toArray, List.getElem?_cons_zero, List.getElem?_cons_succ]; rfl) | rfl)
      case hQ2 => exact fun _ _ _ h => h
      case hw2 => rfl
      case hy2 => ((intro w hSw; go_simp); first | done | with_reducible rfl)
      try simp only [Act.put, List.setIfInBounds_toArray, List.set_cons_zero, List.set_cons_succ]
      refine wpAnyH_take (i := 3) (oi := ?oi3) (v := ?v3) ?hi3 (by kernel_rfl) (by kernel_rfl) (by kernel_rfl) ?hQ3 (Or.inl ⟨?hw3, ?hy3⟩) (by assumption) ?rest3
      case hi3 => (first | (simp only [List.getElem?_toArray, List.getElem?_cons_zero, List.getElem?_cons_succ]; rfl) | rfl)
      case hQ3 => exact fun _ _ _ h => h
      case hw3 => rfl
      case hy3 => ((intro w hSw; go_simp); first | done | with_reducible rfl)
      try simp only [Act.put, List.setIfInBounds_toArray, List.set_cons_zero, List.set_cons_succ]
      refine wpAnyH_take (i := 4) (oi := ?oi4) (v := ?v4) ?hi4 (by kernel_rfl) (by kernel_rfl) (by kernel_rfl) ?hQ4 (Or.inl ⟨?hw4, ?hy4⟩) (by assumption) ?rest4
      case hi4 => (first | (simp only [List.getElem?_toArray, List.getElem?_cons_zero, List.getElem?_cons_succ]; rfl) | rfl)
      case hQ4 => exact fun _ _ _ h => h
      case hw4 => rfl
      case hy4 => ((intro w hSw; go_simp); first | done | with_reducible rfl)
      try simp only [Act.put, List.setIfInBounds_toArray, List.set_cons_zero, List.set_cons_succ]
      refine wpAnyH_take (i := 6) (oi := ?oi6) (v := ?v6) ?hi6 (by kernel_rfl) (by kernel_rfl) (by kernel_rfl) ?hQ6 (Or.inl ⟨?hw6, ?hy6⟩) (by assumption) ?rest6
      case hi6 => (first | (simp only [List.getElem?_toArray, List.getElem?_cons_zero, List.getElem?_cons_succ]; rfl) | rfl)
      case hQ6 => exact fun _ _ _ h => h
      case hw6 => rfl
      case hy6 => ((intro w hSw; go_simp); first | done | with_reducible rfl)
      try simp only [Act.put, List.setIfInBounds_toArray, List.set_cons_zero, List.set_cons_succ]
      refine wpAnyH_take (i := 7) (oi := ?oi7) (v := ?v7) ?hi7 (by kernel_rfl) (by kernel_rfl) (by kernel_rfl) ?hQ7 (Or.inl ⟨?hw7, ?hy7⟩) (by assumption) ?rest7
      case hi7 => (first | (simp only [List.getElem?_toArray, List.getElem?_cons_zero, List.getElem?_cons_succ]; rfl) | rfl)
      case hQ7 => exact fun _ _ _ h => h
      case hw7 => rfl
      case hy7 => ((intro w hSw; go_simp); first | done | with_reducible rfl)
      try simp only [Act.put, List.setIfInBounds_toArray, List.set_cons_zero, List.set_cons_succ]
      refine wpAnyH_take (i := 8) (oi := ?oi8) (v := ?v8) ?hi8 (by kernel_rfl) (by kernel_rfl) (by kernel_rfl) ?hQ8 (Or.inl ⟨?hw8, ?hy8⟩) (by assumption) ?rest8
      case hi8 => (first | (simp only [List.getElem?_toArray, List.getElem?_cons_zero, List.getElem?_cons_succ]; rfl) | rfl)
      case hQ8 => exact fun _ _ _ h => h
      case hw8 => rfl
      case hy8 => ((intro w hSw; go_simp); first | done | with_reducible rfl)
      try simp only [Act.put, List.setIfInBounds_toArray, List.set_cons_zero, List.set_cons_succ]
      refine wpAnyH_take (i := 9) (oi := ?oi9) (v := ?v9) ?hi9 (by kernel_rfl) (by kernel_rfl) (by kernel_rfl) ?hQ9 (Or.inl ⟨?hw9, ?hy9⟩) (by assumption) ?rest9
      case hi9 => (first | (simp only [List.getElem?_toArray, List.getElem?_cons_zero, List.getElem?_cons_succ]; rfl) | rfl)
      case hQ9 => exact fun _ _ _ h => h
      case hw9 => rfl
      case hy9 => ((intro w hSw; go_simp); first | done | with_reducible rfl)
      try simp only [Act.put, List.setIfInBounds_toArray, List.set_cons_zero, List.set_cons_succ]
      refine wpAnyH_take (i := 10) (oi := ?oi10) (v := ?v10) ?hi10 (by kernel_rfl) (by kernel_rfl) (by kernel_rfl) ?hQ10 (Or.inl ⟨?hw10, ?hy10⟩) (by assumption) ?rest10
      case hi10 => (first | (simp only [List.getElem?_toArray, List.getElem?_cons_zero, List.getElem?_cons_succ]; rfl) | rfl)
      case hQ10 => exact fun _ _ _ h => h
      case hw10 => rfl
      case hy10 => ((intro w hSw; go_simp); first | done | with_reducible rfl)
      try simp only [Act.put, List.setIfInBounds_toArray, List.set_cons_zero, List.set_cons_succ]
      refine wpAnyH_take (i := 11) (oi := ?oi11) (v := ?v11) ?hi11 (by kernel_rfl) (by kernel_rfl) (by kernel_rfl) ?hQ11 (Or.inl ⟨?hw11, ?hy11⟩) (by assumption) ?rest11
      case hi11 => (first | (simp only [List.getElem?_toArray, List.getElem?_cons_zero, List.getElem?_cons_succ]; rfl) | rfl)
      case hQ11 => exact fun _ _ _ h => h
      case hw11 => rfl
      case hy11 => ((intro w hSw; go_simp); first | done | with_reducible rfl)
      try simp only [Act.put, List.setIfInBounds_toArray, List.set_cons_zero, List.set_cons_succ]
      refine wpAnyH_take (i := 12) (oi := ?oi12) (v := ?v12) ?hi12 (by kernel_rfl) (by kernel_rfl) (by kernel_rfl) ?hQ12 (Or.inl ⟨?hw12, ?hy12⟩) (by assumption) ?rest12
      case hi12 => (first | (simp only [List.getElem?_toArray, List.getElem?_cons_zero, List.getElem?_cons_succ]; rfl) | rfl)
      case hQ12 => exact fun _ _ _ h => h
      case hw12 => rfl
      case hy12 => ((intro w hSw; go_simp); first | done | with_reducible rfl)
      try simp only [Act.put, List.setIfInBounds_toArray, List.set_cons_zero, List.set_cons_succ]
      refine wpAnyH_take (i := 15) (oi := ?oi15) (v := ?v15) ?hi15 (by kernel_rfl) (by kernel_rfl) (by kernel_rfl) ?hQ15 (Or.inl ⟨?hw15, ?hy15⟩) (by assumption) ?rest15
      case hi15 => (first | (simp only [List.getElem?_toArray, List.getElem?_cons_zero, List.getElem?_cons_succ]; rfl) | rfl)
      case hQ15 => exact fun _ _ _ h => h
      case hw15 => rfl
      case hy15 => ((intro w hSw; go_simp); first | done | with_reducible rfl)
      try simp only [Act.put, List.setIfInBounds_toArray, List.set_cons_zero, List.set_cons_succ]
      refine wpAnyH_ready (rs := [5, 13]) (by kernel_rfl) (by simp) ?_
      have hA0 := (Below.refl w2.heap.size w2).alloc (Nat.le_refl _) (.cells #[] 5)
      have HIN := Lib.hid (HIN0.out.below hA0).drew
      have j1b : (w2.alloc (.cells #[] 5)).drew.cell? ⟨b, 1, none⟩ = some (.slice (some ⟨gi, 0, none⟩) r.ino.length cap) := below_cells hA0 j1
      have f1b : (w2.alloc (.cells #[] 5)).drew.cell? ⟨gi, j * 2, none⟩ = some (.slice D m cd) := below_cells hA0 f1
      clear hA0
      refine AllReadyH.cons (o := ?oP) ?hiP ?stepP (AllReadyH.cons (o := ?oQ) ?hiQ ?stepQ AllReadyH.nil)
      case hiP => (simp only [List.getElem?_toArray, List.getElem?_cons_zero, List.getElem?_cons_succ]; rfl)
      case hiQ => (simp only [List.getElem?_toArray, List.getElem?_cons_zero, List.getElem?_cons_succ]; rfl)
      case stepP =>
        intro K hK
        go_simp
        refine hK.out _ _ j1b (fun hHeldA => ?_)
        clear hK K
        try simp only [Act.put, List.setIfInBounds_toArray, List.set_cons_zero, List.set_cons_succ]
        refine wpAnyH_ready (rs := [13]) (by kernel_rfl) (by simp) ?_
        refine AllReadyH.cons (o := ?oPA) ?hiPA ?stepPA AllReadyH.nil
        case hiPA => (simp only [List.getElem?_toArray, List.getElem?_cons_zero, List.getElem?_cons_succ]; rfl)
        intro K hK
        go_simp
        refine hK.out _ _ hHeldA (fun hHeldB => ?_)
        clear hK K
        try simp only [Act.put, List.setIfInBounds_toArray, List.set_cons_zero, List.set_cons_succ]
        refine wpAnyH_ready (rs := [14]) (by kernel_rfl) (by simp) ?_
        refine AllReadyH.cons (o := ?opB) ?hipB ?steppB AllReadyH.nil
        case hipB => (simp only [List.getElem?_toArray, List.getElem?_cons_zero, List.getElem?_cons_succ]; rfl)
        intro K hK
        refine step_append_src _ rfl (.tmp 60) (.tmp 68) 33 rfl w2.heap.size 5 i0 (.int .u8 0) 1 Try.underlying33 hi hz0 hz1 hz2 rfl (.slice (some ⟨w2.heap.size, 0, none⟩) 0 0) 0 [] rfl (World.ownsRow_made w2 #[] 0 (Nat.le_refl _) (Nat.zero_le _) rfl) D m cd (x.1.map byteV) rfl HIN.out.2.1 (u8_one _) (by unfold maxLen; omega) (by omega) (by simp) ?_
        intro v3 w3 hown hgrow hloc
        obtain ⟨A3, c3, rfl⟩ := own_slice hown
        rw [Nat.zero_add, List.nil_append] at hown
        rw [Nat.zero_add]
        have HB3 : Hid (Below w2.heap.size w2 w3) := Lib.hid ((((Below.refl _ w2).alloc (Nat.le_refl _) (.cells #[] 5)).drew).grown hgrow (by simp) (fun k e => by cases e; exact Nat.le_refl _))
        have HO3 := Lib.hid hown
        have HI3 := Lib.hid (HIB.out.below HB3.out)
        clear hown hgrow hloc
        refine hK.out _ _ (below_cells HB3.out j1) (fun hHeldC => ?_)
        clear hK K
        try simp only [Act.put, List.setIfInBounds_toArray, List.set_cons_zero, List.set_cons_succ]
        refine wpAnyH_ready (rs := [16]) (by kernel_rfl) (by simp) ?_
        refine AllReadyH.cons (o := ?opC) ?hipC ?steppC AllReadyH.nil
        case hipC => (simp only [List.getElem?_toArray, List.getElem?_cons_zero, List.getElem?_cons_succ]; rfl)
        intro K hK
        refine step_append_src _ rfl (.tmp 69) (.tmp 70) 33 rfl w2.heap.size 5 i0 (.int .u8 0) 1 Try.underlying33 hi hz0 hz1 hz2 rfl (.slice A3 m c3) m (x.1.map byteV) rfl HO3.out Ab nb cb' (bs.map byteV) rfl HI3.out.2.1 (u8_one _) (by unfold maxLen; omega) (by omega) HB3.out.size ?_
        intro v4 w4 hown hgrow hloc
        obtain ⟨A4, c4, rfl⟩ := own_slice hown
        have HB4 := Lib.hid (HB3.out.grown hgrow HB3.out.size (fun g hg => (HO3.out.lt g hg).1))
        rw [← List.map_append] at hown
        have HO4 := Lib.hid hown
        clear hown hgrow hloc
        refine hK.out _ _ (below_cells HB4.out j1) (fun hHeldD => ?_)
        clear hK K
        try simp only [Act.put, List.setIfInBounds_toArray, List.set_cons_zero, List.set_cons_succ]
        refine wpAnyH_take (i := 17) (oi := ?oip17) (v := ?vp17) ?hip17 (by kernel_rfl) (by kernel_rfl) (by kernel_rfl) ?hQp17 (Or.inl ⟨?hwp17, ?hyp17⟩) (by assumption) ?restp17
        case hip17 => (first | (simp only [List.getElem?_toArray, List.getElem?_cons_zero, List.getElem?_cons_succ]; rfl) | rfl)
        case hQp17 => exact fun _ _ _ h => h
        case hwp17 => rfl
        case hyp17 => ((intro w hSw; go_simp); first | done | with_reducible rfl)
        try simp only [Act.put, List.setIfInBounds_toArray, List.set_cons_zero, List.set_cons_succ]
        refine wpAnyH_take (i := 18) (oi := ?oip18) (v := ?vp18) ?hip18 (by kernel_rfl) (by kernel_rfl) (by kernel_rfl) ?hQp18 (Or.inl ⟨?hwp18, ?hyp18⟩) (by assumption) ?restp18
        case hip18 => (first | (simp only [List.getElem?_toArray, List.getElem?_cons_zero, List.getElem?_cons_succ]; rfl) | rfl)
        case hQp18 => exact fun _ _ _ h => h
        case hwp18 => rfl
        case hyp18 => ((intro w hSw; go_simp); first | done | with_reducible rfl)
        try simp only [Act.put, List.setIfInBounds_toArray, List.set_cons_zero, List.set_cons_succ]
        have o4 := ownsRow_block H2.out.ino fun g hg => HB4.out.block g (H2.out.ino.lt g hg).2
        have n1 := below_cells HB4.out f1
        have n1z := o4.frozenAt (j * 2)
        have HOI := Lib.hid o4
        clear o4
        refine wpAnyH_ready (rs := [19]) (by kernel_rfl) (by simp) ?_
        refine AllReadyH.cons (o := ?opD) ?hipD ?steppD AllReadyH.nil
        case hipD => (simp only [List.getElem?_toArray, List.getElem?_cons_zero, List.getElem?_cons_succ]; rfl)
        intro K hK
        go_simp
        refine hK.out _ _ ((World.cell?_of_block (a := ⟨b, 1, none⟩) (heap_setCell_other w4 ⟨gi, j * 2, none⟩ (.slice A4 (m + nb) c4) (by show b ≠ gi; exact fun e => hgb e.symm))).trans (below_cells HB4.out j1)) (fun hHeldE => ?_)
        clear hK K
        try simp only [Act.put, List.setIfInBounds_toArray, List.set_cons_zero, List.set_cons_succ]
        refine wpAnyH_done (by kernel_rfl) ?_ _
        have hgl : gi < w2.heap.size := (H2.out.ino.lt gi rfl).2
        have hs4 := HB4.out.size
        have hcap4 : m + nb ≤ c4 := by
          obtain ⟨A', c', q1, q2⟩ := own_cap HO4.out
          injection q1 with _ _ q3
          omega
        have hxb : (x.1 ++ bs).length = m + nb := by rw [List.length_append, ← HM.out, HBL.out]
        have hb5 : ∀ i, i ≠ gi → (w4.setCell ⟨gi, j * 2, none⟩ (.slice A4 (m + nb) c4)).heap[i]? = w4.heap[i]? := fun i h1 => heap_setCell_other w4 ⟨gi, j * 2, none⟩ _ h1
        have hin4 : BytesIn (w4.setCell ⟨gi, j * 2, none⟩ (.slice A4 (m + nb) c4)) A4 (m + nb) (x.1 ++ bs) := bytes_keep' (BytesIn.own HO4.out (by unfold maxLen; omega)) (fun ad e h0 => hb5 _ (fun e2 => by have := (HO4.out.lt ad.block (by rw [e]; rfl)).1; omega)) (by simp [World.setCell])
        have hI4 := H2.out.inos (w' := w4.setCell ⟨gi, j * 2, none⟩ (.slice A4 (m + nb) c4)) (by simp [World.setCell]; omega) (fun i _ h2 h3 => (hb5 i (fun e => h2 (by rw [e]; rfl))).trans (HB4.out.block i h3)) (ino' := r.ino.set j (x.1 ++ bs, x.2)) (vi' := .slice (some ⟨gi, 0, none⟩) r.ino.length cap) (svs' := svs.set j (.slice A4 (m + nb) c4)) (fun i => ∃ ad, A4 = some ad ∧ 0 < m + nb ∧ i = ad.block)
          ((hb5 b (fun e => hgb e.symm)).trans ((HB4.out.block b H2.out.blk.lt).trans H2.out.blk))
          (by
            have h1 := (HOI.out.stored (j * 2) (.slice A4 (m + nb) c4)).1
            rw [inoCells_dat _ (x.1 ++ bs) r.ino svs j x H2.out.isl.symm HX.out] at h1
            rw [List.length_set]
            exact h1)
          (by rw [List.length_set, List.length_set]; exact H2.out.isl)
          (fun i sv y f1 f2 => by
            by_cases hij : i = j
            · subst hij
              rw [List.getElem?_set_self (by omega)] at f2
              rw [List.getElem?_set_self (by rw [H2.out.isl]; omega)] at f1
              cases f1
              cases f2
              refine .inr ⟨A4, c4, by rw [hxb], by rw [hxb]; exact hcap4, by rw [hxb]; exact hin4, fun ad e h0 => ⟨ad, e, by rw [hxb] at h0; exact h0, rfl⟩⟩
            · rw [List.getElem?_set_ne (fun e => hij e.symm)] at f1 f2
              exact .inl ⟨y, f1, f2, rfl⟩)
          (fun i ⟨ad, q1, q2, q3⟩ => by
            have h1 := HO4.out.lt ad.block (by rw [q1]; rfl)
            rw [q3]
            refine ⟨h1.1, by simpa [World.setCell] using h1.2, fun e => ?_⟩
            have : gi = ad.block := by simpa [Value.ownBlock] using e
            omega)
          (.inl rfl)
          { H2.out.wf with
            nino := by rw [List.length_set]; exact H2.out.wf.nino
            fdir := fun p hp => by rw [List.length_set]; exact H2.out.wf.fdir p hp
            fold := fun p hp => by rw [List.length_set]; exact H2.out.wf.fold p hp
            fchs := fun c hc => by rw [List.length_set]; exact H2.out.wf.fchs c hc
            fit := fun y hy => by
              rcases List.mem_or_eq_of_mem_set hy with h1 | h1
              · exact H2.out.wf.fit y h1
              · have h3 := (H2.out.wf.fit x (List.mem_of_getElem? HX.out)).1
                rw [h1]
                refine ⟨?_, ?_⟩
                · show x.2 ≤ (x.1 ++ bs).length
                  rw [hxb]
                  have := HM.out
                  omega
                · show (x.1 ++ bs).length ≤ _
                  rw [hxb]
                  omega }
        have hR4 := hI4.inosAt (r := r) (svs := svs) (w := w2) HF.out HLT2.out (by simp [World.setCell]; omega) (fun i ⟨ad, q1, q2, q3⟩ => by
            have h1 := HO4.out.lt ad.block (by rw [q1]; rfl)
            rw [q3]
            exact ⟨h1.1, by simpa [World.setCell] using h1.2⟩) (.inl rfl)
        have hk4 : Kept F w2 (w4.setCell ⟨gi, j * 2, none⟩ (.slice A4 (m + nb) c4)) := (Kept.below (F := F) HB4.out).setCell (.inl (HF.out gi (.inr (.inl rfl)))) _
        have HR4 := Lib.hid hR4
        have HK4 := Lib.hid hk4
        clear hI4 hR4 hk4 hin4 hb5
        go_wp2_with fail
        refine (r1did_any _ _ b _ HR4.out hdn HON.out).mono ?_
        rintro e w5 ⟨rfl, hR5, hK5⟩
        have HL5 := Lib.hid (R1Left.later (R1Left.after (R1Left.stay (n := 0) hR5 hK5) HK4.out) hb HK2.out)
        clear hR5 hK5
        go_wp2
        go_ret
        exact HL5.out
      case stepQ =>
        intro K hK
        go_simp
        refine hK.out _ _ hHeld (fun hHeldA => ?_)
        clear hK K
        try simp only [Act.put, List.setIfInBounds_toArray, List.set_cons_zero, List.set_cons_succ]
        refine wpAnyH_ready (rs := [5]) (by kernel_rfl) (by simp) ?_
        refine AllReadyH.cons (o := ?oQA) ?hiQA ?stepQA AllReadyH.nil
        case hiQA => (simp only [List.getElem?_toArray, List.getElem?_cons_zero, List.getElem?_cons_succ]; rfl)
        intro K hK
        go_simp
        refine hK.out _ _ j1b (fun hHeldB => ?_)
        clear hK K
        try simp only [Act.put, List.setIfInBounds_toArray, List.set_cons_zero, List.set_cons_succ]
        refine wpAnyH_ready (rs := [14]) (by kernel_rfl) (by simp) ?_
        refine AllReadyH.cons (o := ?oqB) ?hiqB ?stepqB AllReadyH.nil
        case hiqB => (simp only [List.getElem?_toArray, List.getElem?_cons_zero, List.getElem?_cons_succ]; rfl)
        intro K hK
        refine step_append_src _ rfl (.tmp 60) (.tmp 68) 33 rfl w2.heap.size 5 i0 (.int .u8 0) 1 Try.underlying33 hi hz0 hz1 hz2 rfl (.slice (some ⟨w2.heap.size, 0, none⟩) 0 0) 0 [] rfl (World.ownsRow_made w2 #[] 0 (Nat.le_refl _) (Nat.zero_le _) rfl) D m cd (x.1.map byteV) rfl HIN.out.2.1 (u8_one _) (by unfold maxLen; omega) (by omega) (by simp) ?_
        intro v3 w3 hown hgrow hloc
        obtain ⟨A3, c3, rfl⟩ := own_slice hown
        rw [Nat.zero_add, List.nil_append] at hown
        rw [Nat.zero_add]
        have HB3 : Hid (Below w2.heap.size w2 w3) := Lib.hid ((((Below.refl _ w2).alloc (Nat.le_refl _) (.cells #[] 5)).drew).grown hgrow (by simp) (fun k e => by cases e; exact Nat.le_refl _))
        have HO3 := Lib.hid hown
        have HI3 := Lib.hid (HIB.out.below HB3.out)
        clear hown hgrow hloc
        refine hK.out _ _ (below_cells HB3.out j1) (fun hHeldC => ?_)
        clear hK K
        try simp only [Act.put, List.setIfInBounds_toArray, List.set_cons_zero, List.set_cons_succ]
        refine wpAnyH_ready (rs := [16]) (by kernel_rfl) (by simp) ?_
        refine AllReadyH.cons (o := ?oqC) ?hiqC ?stepqC AllReadyH.nil
        case hiqC => (simp only [List.getElem?_toArray, List.getElem?_cons_zero, List.getElem?_cons_succ]; rfl)
        intro K hK
        refine step_append_src _ rfl (.tmp 69) (.tmp 70) 33 rfl w2.heap.size 5 i0 (.int .u8 0) 1 Try.underlying33 hi hz0 hz1 hz2 rfl (.slice A3 m c3) m (x.1.map byteV) rfl HO3.out Ab nb cb' (bs.map byteV) rfl HI3.out.2.1 (u8_one _) (by unfold maxLen; omega) (by omega) HB3.out.size ?_
        intro v4 w4 hown hgrow hloc
        obtain ⟨A4, c4, rfl⟩ := own_slice hown
        have HB4 := Lib.hid (HB3.out.grown hgrow HB3.out.size (fun g hg => (HO3.out.lt g hg).1))
        rw [← List.map_append] at hown
        have HO4 := Lib.hid hown
        clear hown hgrow hloc
        refine hK.out _ _ (below_cells HB4.out j1) (fun hHeldD => ?_)
        clear hK K
        try simp only [Act.put, List.setIfInBounds_toArray, List.set_cons_zero, List.set_cons_succ]
        refine wpAnyH_take (i := 17) (oi := ?oiq17) (v := ?vq17) ?hiq17 (by kernel_rfl) (by kernel_rfl) (by kernel_rfl) ?hQq17 (Or.inl ⟨?hwq17, ?hyq17⟩) (by assumption) ?restq17
        case hiq17 => (first | (simp only [List.getElem?_toArray, List.getElem?_cons_zero, List.getElem?_cons_succ]; rfl) | rfl)
        case hQq17 => exact fun _ _ _ h => h
        case hwq17 => rfl
        case hyq17 => ((intro w hSw; go_simp); first | done | with_reducible rfl)
        try simp only [Act.put, List.setIfInBounds_toArray, List.set_cons_zero, List.set_cons_succ]
        refine wpAnyH_take (i := 18) (oi := ?oiq18) (v := ?vq18) ?hiq18 (by kernel_rfl) (by kernel_rfl) (by kernel_rfl) ?hQq18 (Or.inl ⟨?hwq18, ?hyq18⟩) (by assumption) ?restq18
        case hiq18 => (first | (simp only [List.getElem?_toArray, List.getElem?_cons_zero, List.getElem?_cons_succ]; rfl) | rfl)
        case hQq18 => exact fun _ _ _ h => h
        case hwq18 => rfl
        case hyq18 => ((intro w hSw; go_simp); first | done | with_reducible rfl)
        try simp only [Act.put, List.setIfInBounds_toArray, List.set_cons_zero, List.set_cons_succ]
        have o4 := ownsRow_block H2.out.ino fun g hg => HB4.out.block g (H2.out.ino.lt g hg).2
        have n1 := below_cells HB4.out f1
        have n1z := o4.frozenAt (j * 2)
        have HOI := Lib.hid o4
        clear o4
        refine wpAnyH_ready (rs := [19]) (by kernel_rfl) (by simp) ?_
        refine AllReadyH.cons (o := ?oqD) ?hiqD ?stepqD AllReadyH.nil
        case hiqD => (simp only [List.getElem?_toArray, List.getElem?_cons_zero, List.getElem?_cons_succ]; rfl)
        intro K hK
        go_simp
        refine hK.out _ _ ((World.cell?_of_block (a := ⟨b, 1, none⟩) (heap_setCell_other w4 ⟨gi, j * 2, none⟩ (.slice A4 (m + nb) c4) (by show b ≠ gi; exact fun e => hgb e.symm))).trans (below_cells HB4.out j1)) (fun hHeldE => ?_)
        clear hK K
        try simp only [Act.put, List.setIfInBounds_toArray, List.set_cons_zero, List.set_cons_succ]
        refine wpAnyH_done (by kernel_rfl) ?_ _
        have hgl : gi < w2.heap.size := (H2.out.ino.lt gi rfl).2
        have hs4 := HB4.out.size
        have hcap4 : m + nb ≤ c4 := by
          obtain ⟨A', c', q1, q2⟩ := own_cap HO4.out
          injection q1 with _ _ q3
          omega
        have hxb : (x.1 ++ bs).length = m + nb := by rw [List.length_append, ← HM.out, HBL.out]
        have hb5 : ∀ i, i ≠ gi → (w4.setCell ⟨gi, j * 2, none⟩ (.slice A4 (m + nb) c4)).heap[i]? = w4.heap[i]? := fun i h1 => heap_setCell_other w4 ⟨gi, j * 2, none⟩ _ h1
        have hin4 : BytesIn (w4.setCell ⟨gi, j * 2, none⟩ (.slice A4 (m + nb) c4)) A4 (m + nb) (x.1 ++ bs) := bytes_keep' (BytesIn.own HO4.out (by unfold maxLen; omega)) (fun ad e h0 => hb5 _ (fun e2 => by have := (HO4.out.lt ad.block (by rw [e]; rfl)).1; omega)) (by simp [World.setCell])
        have hI4 := H2.out.inos (w' := w4.setCell ⟨gi, j * 2, none⟩ (.slice A4 (m + nb) c4)) (by simp [World.setCell]; omega) (fun i _ h2 h3 => (hb5 i (fun e => h2 (by rw [e]; rfl))).trans (HB4.out.block i h3)) (ino' := r.ino.set j (x.1 ++ bs, x.2)) (vi' := .slice (some ⟨gi, 0, none⟩) r.ino.length cap) (svs' := svs.set j (.slice A4 (m + nb) c4)) (fun i => ∃ ad, A4 = some ad ∧ 0 < m + nb ∧ i = ad.block)
          ((hb5 b (fun e => hgb e.symm)).trans ((HB4.out.block b H2.out.blk.lt).trans H2.out.blk))
          (by
            have h1 := (HOI.out.stored (j * 2) (.slice A4 (m + nb) c4)).1
            rw [inoCells_dat _ (x.1 ++ bs) r.ino svs j x H2.out.isl.symm HX.out] at h1
            rw [List.length_set]
            exact h1)
          (by rw [List.length_set, List.length_set]; exact H2.out.isl)
          (fun i sv y f1 f2 => by
            by_cases hij : i = j
            · subst hij
              rw [List.getElem?_set_self (by omega)] at f2
              rw [List.getElem?_set_self (by rw [H2.out.isl]; omega)] at f1
              cases f1
              cases f2
              refine .inr ⟨A4, c4, by rw [hxb], by rw [hxb]; exact hcap4, by rw [hxb]; exact hin4, fun ad e h0 => ⟨ad, e, by rw [hxb] at h0; exact h0, rfl⟩⟩
            · rw [List.getElem?_set_ne (fun e => hij e.symm)] at f1 f2
              exact .inl ⟨y, f1, f2, rfl⟩)
          (fun i ⟨ad, q1, q2, q3⟩ => by
            have h1 := HO4.out.lt ad.block (by rw [q1]; rfl)
            rw [q3]
            refine ⟨h1.1, by simpa [World.setCell] using h1.2, fun e => ?_⟩
            have : gi = ad.block := by simpa [Value.ownBlock] using e
            omega)
          (.inl rfl)
          { H2.out.wf with
            nino := by rw [List.length_set]; exact H2.out.wf.nino
            fdir := fun p hp => by rw [List.length_set]; exact H2.out.wf.fdir p hp
            fold := fun p hp => by rw [List.length_set]; exact H2.out.wf.fold p hp
            fchs := fun c hc => by rw [List.length_set]; exact H2.out.wf.fchs c hc
            fit := fun y hy => by
              rcases List.mem_or_eq_of_mem_set hy with h1 | h1
              · exact H2.out.wf.fit y h1
              · have h3 := (H2.out.wf.fit x (List.mem_of_getElem? HX.out)).1
                rw [h1]
                refine ⟨?_, ?_⟩
                · show x.2 ≤ (x.1 ++ bs).length
                  rw [hxb]
                  have := HM.out
                  omega
                · show (x.1 ++ bs).length ≤ _
                  rw [hxb]
                  omega }
        have hR4 := hI4.inosAt (r := r) (svs := svs) (w := w2) HF.out HLT2.out (by simp [World.setCell]; omega) (fun i ⟨ad, q1, q2, q3⟩ => by
            have h1 := HO4.out.lt ad.block (by rw [q1]; rfl)
            rw [q3]
            exact ⟨h1.1, by simpa [World.setCell] using h1.2⟩) (.inl rfl)
        have hk4 : Kept F w2 (w4.setCell ⟨gi, j * 2, none⟩ (.slice A4 (m + nb) c4)) := (Kept.below (F := F) HB4.out).setCell (.inl (HF.out gi (.inr (.inl rfl)))) _
        have HR4 := Lib.hid hR4
        have HK4 := Lib.hid hk4
        clear hI4 hR4 hk4 hin4 hb5
        go_wp2_with fail
        refine (r1did_any _ _ b _ HR4.out hdn HON.out).mono ?_
        rintro e w5 ⟨rfl, hR5, hK5⟩
        have HL5 := Lib.hid (R1Left.later (R1Left.after (R1Left.stay (n := 0) hR5 hK5) HK4.out) hb HK2.out)
        clear hR5 hK5
        go_wp2
        go_ret
        exact HL5.out
end Go.Proofs.Ytblpppeppgfbpaa
