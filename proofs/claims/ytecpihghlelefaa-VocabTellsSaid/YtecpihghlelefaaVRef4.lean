/- The document's Get. -/
import Derived.Test.YtecpihghlelefaaVGet0
import Derived.Test.YtecpihghlelefaaVRef3
import Derived.StillTailTactics
namespace Go.Proofs.Ytecpihghlelefaa
open Go.RowKit Go.Maps Go.WideMaps
set_option linter.unusedSimpArgs false

theorem readM_bad {s : Rd} (h : s.e ≠ 0) : (readM s).2 = s := by
  unfold readM
  rw [rInt_bad h]
  exact readMer_bad _ _ _ h

set_option maxHeartbeats 16000000 in
set_option maxRecDepth 100000 in
theorem r5Get_any (w : World) (A : Option Addr) (n c : Nat) (l : Nm) (hl : BytesIn w A n l) (hn : n ≤ 1099511627776) :
    Calls Try.prog 17 #[.slice A n c] w (RVOut w (getV l)) := by
  obtain ⟨i0, hi, hz0, hz1, hz2⟩ := info_parts rowInfo
  obtain ⟨j0, hj0, hy0, hy1, hy2⟩ := info_parts mergeInfo
  obtain ⟨R, hR⟩ : ∃ R, R = getV l := ⟨_, rfl⟩
  rw [← hR]
  obtain ⟨T, hT⟩ : ∃ T, T = readT ⟨l, 0, 0⟩ := ⟨_, rfl⟩
  obtain ⟨M, hM⟩ : ∃ M, M = readM T.2 := ⟨_, rfl⟩
  have hR1 : R = if M.2.e ≠ 0 then (⟨[], []⟩, M.2.e) else if 0 < rLeft M.2 then (⟨[], []⟩, 3) else if checkV ⟨T.1, M.1⟩ ≠ 0 then (⟨[], []⟩, checkV ⟨T.1, M.1⟩) else (⟨T.1, M.1⟩, 0) := by
    rw [hR]; unfold getV; simp only [← hT, ← hM]
  obtain ⟨cn, s1, hq, hcn⟩ := rInt_512 ⟨l, 0, 0⟩ (m := 512) (by omega)
  have hq' : rInt ⟨l, 0, 0⟩ 512 = ((cn : Int), s1) := hq
  have hT1 : readTok cn s1 [] = T := by rw [hT]; unfold readT; rw [hq']; rfl
  have hln : l.length = n := by have := hl.2.1.len; simpa using this
  have HLN := Lib.hid hln
  have HR1 := Lib.hid hR1
  have HT1 := Lib.hid hT1
  have HM := Lib.hid hM
  have HQ := Lib.hid hq'
  have hcz : (0 : Int) ≤ (cn : Int) := by omega
  have hb1 := (Below.refl w.heap.size w).alloc (Nat.le_refl _) (.cells #[.slice none 0 0, .slice none 0 0] 33)
  obtain ⟨W1, hW1⟩ : ∃ W1, W1 = w.alloc (.cells #[.slice none 0 0, .slice none 0 0] 33) := ⟨_, rfl⟩
  have hv0 : Blk W1 w.heap.size 33 #[.slice none 0 0, .slice none 0 0] := by rw [hW1]; exact Blk.new _ _ _
  have hs1 : W1.heap.size = w.heap.size + 1 := by rw [hW1]; simp
  rw [← hW1] at hb1
  have HV1 := Lib.hid hv0
  have HB1 := Lib.hid hb1
  have HL := Lib.hid (hl.below hb1)
  have HW1 := Lib.hid hW1
  have HS1 := Lib.hid hs1
  clear hR hR1 hT hM hT1 hq hq' hb1 hv0 hW1 hl hs1 hln
  go_enter Try.func17, Try.ntmps17
  go_wp2_with fail
  rw [← HW1.out]
  refine (r3New_any W1 A n c l HL.out hn).mono ?_
  rintro e w2 ⟨rb, A', c', rfl, hrb, hR2, hb2, hA2⟩
  have hrl : rb < w2.heap.size := hR2.blk.lt
  have HRL := Lib.hid hrl
  have HRB := Lib.hid (show w.heap.size + 1 ≤ rb from by have := HS1.out; omega)
  have HAL := Lib.hid (show ∀ ad, A' = some ad → 0 < l.length → w.heap.size + 1 ≤ ad.block ∧ ad.block < w2.heap.size from fun ad e h0 => ⟨by have h1 := hA2 ad e (by have := HLN.out; omega); have := HS1.out; omega, hR2.bytes.2.2 ad e h0⟩)
  have HV2 := Lib.hid (HV1.out.below hb2 HV1.out.lt)
  have HB2 := Lib.hid (below_then HB1.out hb2 HB1.out.size)
  have b3 := (Below.refl w2.heap.size w2).alloc (Nat.le_refl _) (.cells #[.slice none 0 0, .slice none 0 0] 33)
  obtain ⟨W3, hW3⟩ : ∃ W3, W3 = w2.alloc (.cells #[.slice none 0 0, .slice none 0 0] 33) := ⟨_, rfl⟩
  have hv3 : Blk W3 w2.heap.size 33 #[.slice none 0 0, .slice none 0 0] := by rw [hW3]; exact Blk.new _ _ _
  have hs3 : W3.heap.size = w2.heap.size + 1 := by rw [hW3]; simp
  rw [← hW3] at b3
  have hvw : w.heap.size + 1 ≤ w2.heap.size := by have h1 := HV2.out.lt; omega
  have HR3 := Lib.hid (hR2.same (Kept.below (F := fun _ => False) b3) (fun h => h) (fun _ _ _ h => h))
  have HB3 := Lib.hid (below_then HB2.out b3 HB2.out.size)
  have HV3 := Lib.hid (HV2.out.below b3 HV2.out.lt)
  have HW3 := Lib.hid hW3
  obtain ⟨vb, hvb⟩ : ∃ vb, vb = w2.heap.size := ⟨_, rfl⟩
  rw [← hvb] at hv3 hs3 hvw HRL HAL
  have hrv : IsRV W3 (fun i => i = vb) vb ⟨[], []⟩ (.slice none 0 0) (.slice none 0 0) [] := {
    blk := hv3
    trow := World.ownsRow_nil _ _ _ _
    toks := fun i sv x h1 _ => by simp at h1
    mrow := World.ownsRow_nil _ _ _ _
    fits := fun m h => by simp at h
    fb := rfl
    fv := fun g h => by simp [Value.ownBlock] at h
    fm := fun g h => by simp [Value.ownBlock] at h
    lt := fun i hi => by rw [hi]; exact hv3.lt }
  have HRV := Lib.hid hrv
  have HSZ := Lib.hid hs3
  have HVB := Lib.hid hvb
  have HVW := Lib.hid hvw
  clear hrl hrb hR2 hb2 hA2 b3 hv3 hs3 hW3 hrv hvb hvw
  unfold at0
  go_wp2_with fail
  rw [← HW3.out]
  refine (r3Int_any W3 rb ⟨l, 0, 0⟩ A' c' HR3.out 512 (by omega) (by omega)).mono ?_
  rintro e w4 ⟨rfl, hR4, hk4⟩
  rw [HQ.out] at hR4
  rw [HQ.out]
  simp only at hR4 ⊢
  have hbs4 : s1.bs = l := by
    have h1 := (rInt_ok (s := ⟨l, 0, 0⟩) ⟨Nat.zero_le _⟩ 512).2
    rw [HQ.out] at h1
    exact h1
  have HR4 := Lib.hid hR4
  have HBS4 := Lib.hid hbs4
  have HG4 := Lib.hid (HRV.out.far hk4 (fun e => by have := HRL.out; omega) HR3.out.notB)
  have HK4 := Lib.hid (hk4.mono (F' := fun i => i = rb ∨ i = vb) (fun i h => .inl h))
  clear hR4 hk4 hbs4 HR3 HRV
  rw [← HVB.out]
  go_wp2_with fail
  have c4 := HR4.out.blk.cell 2
  simp only [List.getElem?_toArray, List.getElem?_cons_zero, List.getElem?_cons_succ] at c4
  go_loopw [7] (fun i wr => ∃ (k : Nat) (F : Nat → Prop) (tv : Value) (svs : List Value) (acc : List Nm) (sk : Rd), k ≤ cn ∧ i = .int .i64 k ∧ readTok (cn - k) sk acc = T ∧ acc.length = k ∧ sk.bs = l ∧ IsRV wr F vb ⟨acc, []⟩ tv (.slice none 0 0) svs ∧ (∀ i, F i → vb ≤ i) ∧ IsR3 wr rb sk A' c' ∧ Kept (fun i => i = rb ∨ i = vb) W3 wr) (fun i _ => cn - (intOf i).toNat)
  case atStart => exact ⟨0, _, _, _, [], s1, by omega, rfl, HT1.out, rfl, HBS4.out, HG4.out, fun i hi => Nat.le_of_eq hi.symm, HR4.out, HK4.out⟩
  case round =>
    clear HR4 HG4 HK4 HT1 HBS4 c4
    obtain ⟨k, F, tv, svs, acc, sk, hk, rfl, hrt, hlen, hbs, hG, hF, hR, hK⟩ := hrel
    have HG := Lib.hid hG
    have HF := Lib.hid hF
    have HR := Lib.hid hR
    have HK := Lib.hid hK
    have HRT := Lib.hid hrt
    have HLEN := Lib.hid hlen
    have HBS := Lib.hid hbs
    obtain ⟨At, ct, rfl⟩ := own_slice hG.trow
    rw [show (Voc.tok ⟨acc, []⟩) = acc from rfl, hlen] at HG
    have hc2 := hR.blk.cell 2
    simp only [List.getElem?_toArray, List.getElem?_cons_zero, List.getElem?_cons_succ] at hc2
    obtain ⟨er, her⟩ : ∃ k, k = sk.e := ⟨_, rfl⟩
    rw [← her] at hc2
    have HER := Lib.hid her
    have HNF := Lib.hid (show ¬ F rb from fun h => by have h1 := HF.out rb h; have h2 := HRL.out; omega)
    clear hG hF hR hK hrt hlen hbs her
    rcases Nat.lt_or_ge k cn with hlt | hge
    · have hlt' : (k : Int) < (cn : Int) := by omega
      by_cases h0 : er = 0
      · subst h0
        obtain ⟨x, s', hx, hx16⟩ := rText_16 sk
        have HX := Lib.hid hx
        have HBSX := Lib.hid (show s'.bs = l from by
          have h1 := (rText_ok HR.out.ok 16).2
          rw [hx] at h1
          exact h1.trans HBS.out)
        have HNA := Lib.hid (show ∀ ad, A' = some ad → 0 < s'.bs.length → ¬ F ad.block from fun ad e h0 hf => by have h1 := HF.out _ hf; have h2 := HAL.out ad e (by rw [← HBSX.out]; exact h0); omega)
        clear hx
        go_wp2_with fail
        refine wp_region_held_drew (S := fun _ => True) (by kernel_rfl) trivial (fun hHeld => ?_)
        obtain ⟨u0, hu0⟩ : ∃ z, z = wr.drew := ⟨_, rfl⟩
        rw [← hu0]
        have hb0 : Below wr.heap.size wr u0 := by rw [hu0]; exact (Below.refl _ wr).drew
        have HG0 := Lib.hid (HG.out.kept hb0)
        have HR0 := Lib.hid ((HR.out).same (Kept.below (F := fun _ => False) (hb0)) (fun h => h) (fun _ _ _ h => h))
        have HK0 := Lib.hid (HK.out.trans (Kept.below (F := fun _ => False) hb0) (fun i _ e => e.elim))
        clear hu0 hb0
        refine wpAnyH_take (i := 0) (oi := ?oit10) (v := ?vt10) ?hit10 (by kernel_rfl) (by kernel_rfl) (by kernel_rfl) ?hQt10 (Or.inl ⟨?hwt10, ?hyt10⟩) (by assumption) ?restt10
        case hit10 => (first | (simp only [List.getElem?_toArray, List.getElem?_cons_zero, List.getElem?_cons_succ]; rfl) | rfl)
        case hQt10 => exact fun _ _ _ h => h
        case hwt10 => rfl
        case hyt10 => ((intro w hSw; go_simp); first | done | with_reducible rfl)
        try simp only [Act.put, List.setIfInBounds_toArray, List.set_cons_zero, List.set_cons_succ]
        refine wpAnyH_take (i := 2) (oi := ?oit22) (v := ?vt22) ?hit22 (by kernel_rfl) (by kernel_rfl) (by kernel_rfl) ?hQt22 (Or.inl ⟨?hwt22, ?hyt22⟩) (by assumption) ?restt22
        case hit22 => (first | (simp only [List.getElem?_toArray, List.getElem?_cons_zero, List.getElem?_cons_succ]; rfl) | rfl)
        case hQt22 => exact fun _ _ _ h => h
        case hwt22 => rfl
        case hyt22 => ((intro w hSw; go_simp); first | done | with_reducible rfl)
        try simp only [Act.put, List.setIfInBounds_toArray, List.set_cons_zero, List.set_cons_succ]
        refine wpAnyH_ready (rs := [1, 3]) (by kernel_rfl) (by simp) ?_
        refine AllReadyH.cons (o := ?ot3) ?ht3 ?st3 (AllReadyH.cons (o := ?ot4) ?ht4 ?st4 AllReadyH.nil)
        case ht3 => (simp only [List.getElem?_toArray, List.getElem?_cons_zero, List.getElem?_cons_succ]; rfl)
        case ht4 => (simp only [List.getElem?_toArray, List.getElem?_cons_zero, List.getElem?_cons_succ]; rfl)
        case st3 =>
          intro K hK
          have yq1 := HG0.out.blk.cell 0
          simp only [List.getElem?_toArray, List.getElem?_cons_zero] at yq1
          go_simp
          clear yq1
          refine hK.out _ _ trivial (fun ht5 => ?_)
          clear hK K
          try simp only [Act.put, List.setIfInBounds_toArray, List.set_cons_zero, List.set_cons_succ]
          refine wpAnyH_ready (rs := [3]) (by kernel_rfl) (by simp) ?_
          refine AllReadyH.cons (o := ?ot6) ?ht6 ?st6 AllReadyH.nil
          case ht6 => (simp only [List.getElem?_toArray, List.getElem?_cons_zero, List.getElem?_cons_succ]; rfl)
          case st6 =>
            intro K hK
            go_simp
            have hq12 := r3Text_any u0 rb sk A' c' HR0.out 16 (by omega) (by omega)
            rw [HX.out] at hq12
            refine hq12.mono ?_
            rintro eq13 uq2 ⟨v, rfl, hoq9, hrq10, hkq11⟩
            clear hq12
            simp only at hoq9 hrq10
            obtain ⟨Aq7, cq8, rfl, Tq6⟩ := text_tok (fun i hi => HG0.out.lt i hi) hoq9 hx16
            have Gq3 := Lib.hid (HG0.out.far hkq11 HNF.out (HR0.out.notB))
            have Kq5 := Lib.hid (HK0.out.trans hkq11 (fun i _ e => .inl e))
            have Rq4 := Lib.hid hrq10
            have HTq6 := Lib.hid Tq6
            clear hoq9 hrq10 hkq11 Tq6
            go_wp2_with fail
            refine hK.out _ _ trivial (fun ht7 => ?_)
            clear hK K
            try simp only [Act.put, List.setIfInBounds_toArray, List.set_cons_zero, List.set_cons_succ]
            refine wpAnyH_ready (rs := [4]) (by kernel_rfl) (by simp) ?_
            refine AllReadyH.cons (o := ?ot8) ?ht8 ?st8 AllReadyH.nil
            case ht8 => (simp only [List.getElem?_toArray, List.getElem?_cons_zero, List.getElem?_cons_succ]; rfl)
            case st8 =>
              intro K hK
              go_simp
              obtain ⟨uq14, huq20⟩ : ∃ z, z = uq2.alloc (.cells #[.slice Aq7 x.length cq8] 23) := ⟨_, rfl⟩
              have Nq19 : Hid (Blk uq14 uq2.heap.size 23 #[.slice Aq7 x.length cq8]) := Lib.hid (by rw [huq20]; exact Blk.new _ _ _)
              rw [← huq20]
              have hbq21 : Below uq2.heap.size uq2 uq14 := by rw [huq20]; exact (Below.refl _ uq2).alloc (Nat.le_refl _) _
              have Gq15 := Lib.hid (Gq3.out.kept hbq21)
              have Rq16 := Lib.hid ((Rq4.out).same (Kept.below (F := fun _ => False) (hbq21)) (fun h => h) (fun _ _ _ h => h))
              have Kq17 := Lib.hid (Kq5.out.trans (Kept.below (F := fun _ => False) hbq21) (fun i _ e => e.elim))
              have Tq18 := Lib.hid (HTq6.out.mono (G := fun _ => False) (Kept.below hbq21) (fun _ => False.elim) (fun _ hf => .inl hf))
              clear huq20 hbq21
              refine hK.out _ _ trivial (fun ht9 => ?_)
              clear hK K
              try simp only [Act.put, List.setIfInBounds_toArray, List.set_cons_zero, List.set_cons_succ]
              refine wpAnyH_ready (rs := [5]) (by kernel_rfl) (by simp) ?_
              refine AllReadyH.cons (o := ?ot10) ?ht10 ?st10 AllReadyH.nil
              case ht10 => (simp only [List.getElem?_toArray, List.getElem?_cons_zero, List.getElem?_cons_succ]; rfl)
              case st10 =>
                intro K hK
                have trq31 := Gq15.out.trow
                rw [show (Voc.tok ⟨acc, []⟩) = acc from rfl, HLEN.out] at trq31
                have nbq30 := own_blk_ne trq31 Gq15.out.blk (by decide)
                refine step_append_srcN _ rfl (.tmp 28) (.tmp 31) 30 rfl 0 23 i0 (.slice none 0 0) 1 24 Try.underlying30 hi hz0 hz1 hz2 rfl (by omega) _ k svs rfl trq31 (some ⟨uq2.heap.size, 0, none⟩) 1 1 [.slice Aq7 x.length cq8] rfl ⟨rfl, fun ad e j u hu => by cases e; rw [addr_add, Nq19.out.cell]; simpa using hu, fun e => by cases e⟩ (by simp [Value.oneCell']) (by unfold maxLen; omega) (by omega) (Nat.zero_le _) ?_
                intro vq28 uq22 hwq23 hgq24 hlq25
                obtain ⟨Aq26, cq27, rfl⟩ := own_slice hwq23
                have Bq29 := Lib.hid (Gq15.out.blk.grown hgq24 (fun e => nbq30 e.symm))
                have Hhwq23 := Lib.hid hwq23
                have Hhgq24 := Lib.hid hgq24
                have Hhlq25 := Lib.hid hlq25
                clear trq31 nbq30 hwq23 hgq24 hlq25
                refine hK.out _ _ trivial (fun ht11 => ?_)
                clear hK K
                try simp only [Act.put, List.setIfInBounds_toArray, List.set_cons_zero, List.set_cons_succ]
                refine wpAnyH_take (i := 6) (oi := ?oit126) (v := ?vt126) ?hit126 (by kernel_rfl) (by kernel_rfl) (by kernel_rfl) ?hQt126 (Or.inl ⟨?hwt126, ?hyt126⟩) (by assumption) ?restt126
                case hit126 => (first | (simp only [List.getElem?_toArray, List.getElem?_cons_zero, List.getElem?_cons_succ]; rfl) | rfl)
                case hQt126 => exact fun _ _ _ h => h
                case hwt126 => rfl
                case hyt126 => ((intro w hSw; go_simp); first | done | with_reducible rfl)
                try simp only [Act.put, List.setIfInBounds_toArray, List.set_cons_zero, List.set_cons_succ]
                refine wpAnyH_ready (rs := [7]) (by kernel_rfl) (by simp) ?_
                refine AllReadyH.cons (o := ?ot13) ?ht13 ?st13 AllReadyH.nil
                case ht13 => (simp only [List.getElem?_toArray, List.getElem?_cons_zero, List.getElem?_cons_succ]; rfl)
                case st13 =>
                  intro K hK
                  have yq32 := Bq29.out.cell 0
                  have zq33 := Bq29.out.frozen 0
                  simp only [List.getElem?_toArray, List.getElem?_cons_zero] at yq32
                  go_simp
                  clear yq32 zq33
                  obtain ⟨hq34, kq35⟩ := Gq15.out.addTok (w2 := uq22) Tq18.out (by rw [show (Voc.tok ⟨acc, []⟩) = acc from rfl, HLEN.out]; exact Hhwq23.out) Hhgq24.out Hhlq25.out
                  have szq40 := Kq17.out.size
                  have Gq36 := Lib.hid hq34
                  have Rq37 := Lib.hid (Rq16.out.same kq35 HNF.out HNA.out)
                  have Kq38 := Lib.hid (Kq17.out.trans kq35 (fun i hi e => .inr (by have h1 := HF.out i e; have h2 := HSZ.out; omega)))
                  have Fq39 := Lib.hid (show ∀ i, Own F uq14 (uq22.setCell ⟨vb, 0, none⟩ (.slice Aq26 (k + 1) cq27)) i → vb ≤ i from fun i hi => by
                    rcases hi with hi | hi
                    · exact HF.out i hi
                    · have h1 := hi.1
                      have h2 := HSZ.out
                      omega)
                  clear hq34 kq35 szq40
                  refine hK.out _ _ trivial (fun ht14 => ?_)
                  clear hK K
                  try simp only [Act.put, List.setIfInBounds_toArray, List.set_cons_zero, List.set_cons_succ]
                  refine wpAnyH_done (by kernel_rfl) ?_ _
                  go_wp2_with fail
                  go_roundw
                  case rel =>
                    refine ⟨k + 1, _, _, _, _, s', by omega, by go_num, ?_, ?_, HBSX.out, Gq36.out, Fq39.out, Rq37.out, Kq38.out⟩
                    · rw [← HRT.out, show cn - k = (cn - (k + 1)) + 1 from by omega, readTok, HX.out]
                    · rw [List.length_append, HLEN.out, List.length_singleton]
                  case measure => simp [intOf]; omega
        case st4 =>
          intro K hK
          go_simp
          have hq51 := r3Text_any u0 rb sk A' c' HR0.out 16 (by omega) (by omega)
          rw [HX.out] at hq51
          refine hq51.mono ?_
          rintro eq52 uq41 ⟨v, rfl, hoq48, hrq49, hkq50⟩
          clear hq51
          simp only at hoq48 hrq49
          obtain ⟨Aq46, cq47, rfl, Tq45⟩ := text_tok (fun i hi => HG0.out.lt i hi) hoq48 hx16
          have Gq42 := Lib.hid (HG0.out.far hkq50 HNF.out (HR0.out.notB))
          have Kq44 := Lib.hid (HK0.out.trans hkq50 (fun i _ e => .inl e))
          have Rq43 := Lib.hid hrq49
          have HTq45 := Lib.hid Tq45
          clear hoq48 hrq49 hkq50 Tq45
          go_wp2_with fail
          refine hK.out _ _ trivial (fun ht15 => ?_)
          clear hK K
          try simp only [Act.put, List.setIfInBounds_toArray, List.set_cons_zero, List.set_cons_succ]
          refine wpAnyH_ready (rs := [1, 4]) (by kernel_rfl) (by simp) ?_
          refine AllReadyH.cons (o := ?ot16) ?ht16 ?st16 (AllReadyH.cons (o := ?ot17) ?ht17 ?st17 AllReadyH.nil)
          case ht16 => (simp only [List.getElem?_toArray, List.getElem?_cons_zero, List.getElem?_cons_succ]; rfl)
          case ht17 => (simp only [List.getElem?_toArray, List.getElem?_cons_zero, List.getElem?_cons_succ]; rfl)
          case st16 =>
            intro K hK
            have yq53 := Gq42.out.blk.cell 0
            simp only [List.getElem?_toArray, List.getElem?_cons_zero] at yq53
            go_simp
            clear yq53
            refine hK.out _ _ trivial (fun ht18 => ?_)
            clear hK K
            try simp only [Act.put, List.setIfInBounds_toArray, List.set_cons_zero, List.set_cons_succ]
            refine wpAnyH_ready (rs := [4]) (by kernel_rfl) (by simp) ?_
            refine AllReadyH.cons (o := ?ot19) ?ht19 ?st19 AllReadyH.nil
            case ht19 => (simp only [List.getElem?_toArray, List.getElem?_cons_zero, List.getElem?_cons_succ]; rfl)
            case st19 =>
              intro K hK
              go_simp
              obtain ⟨uq54, huq60⟩ : ∃ z, z = uq41.alloc (.cells #[.slice Aq46 x.length cq47] 23) := ⟨_, rfl⟩
              have Nq59 : Hid (Blk uq54 uq41.heap.size 23 #[.slice Aq46 x.length cq47]) := Lib.hid (by rw [huq60]; exact Blk.new _ _ _)
              rw [← huq60]
              have hbq61 : Below uq41.heap.size uq41 uq54 := by rw [huq60]; exact (Below.refl _ uq41).alloc (Nat.le_refl _) _
              have Gq55 := Lib.hid (Gq42.out.kept hbq61)
              have Rq56 := Lib.hid ((Rq43.out).same (Kept.below (F := fun _ => False) (hbq61)) (fun h => h) (fun _ _ _ h => h))
              have Kq57 := Lib.hid (Kq44.out.trans (Kept.below (F := fun _ => False) hbq61) (fun i _ e => e.elim))
              have Tq58 := Lib.hid (HTq45.out.mono (G := fun _ => False) (Kept.below hbq61) (fun _ => False.elim) (fun _ hf => .inl hf))
              clear huq60 hbq61
              refine hK.out _ _ trivial (fun ht20 => ?_)
              clear hK K
              try simp only [Act.put, List.setIfInBounds_toArray, List.set_cons_zero, List.set_cons_succ]
              refine wpAnyH_ready (rs := [5]) (by kernel_rfl) (by simp) ?_
              refine AllReadyH.cons (o := ?ot21) ?ht21 ?st21 AllReadyH.nil
              case ht21 => (simp only [List.getElem?_toArray, List.getElem?_cons_zero, List.getElem?_cons_succ]; rfl)
              case st21 =>
                intro K hK
                have trq71 := Gq55.out.trow
                rw [show (Voc.tok ⟨acc, []⟩) = acc from rfl, HLEN.out] at trq71
                have nbq70 := own_blk_ne trq71 Gq55.out.blk (by decide)
                refine step_append_srcN _ rfl (.tmp 28) (.tmp 31) 30 rfl 0 23 i0 (.slice none 0 0) 1 24 Try.underlying30 hi hz0 hz1 hz2 rfl (by omega) _ k svs rfl trq71 (some ⟨uq41.heap.size, 0, none⟩) 1 1 [.slice Aq46 x.length cq47] rfl ⟨rfl, fun ad e j u hu => by cases e; rw [addr_add, Nq59.out.cell]; simpa using hu, fun e => by cases e⟩ (by simp [Value.oneCell']) (by unfold maxLen; omega) (by omega) (Nat.zero_le _) ?_
                intro vq68 uq62 hwq63 hgq64 hlq65
                obtain ⟨Aq66, cq67, rfl⟩ := own_slice hwq63
                have Bq69 := Lib.hid (Gq55.out.blk.grown hgq64 (fun e => nbq70 e.symm))
                have Hhwq63 := Lib.hid hwq63
                have Hhgq64 := Lib.hid hgq64
                have Hhlq65 := Lib.hid hlq65
                clear trq71 nbq70 hwq63 hgq64 hlq65
                refine hK.out _ _ trivial (fun ht22 => ?_)
                clear hK K
                try simp only [Act.put, List.setIfInBounds_toArray, List.set_cons_zero, List.set_cons_succ]
                refine wpAnyH_take (i := 6) (oi := ?oit236) (v := ?vt236) ?hit236 (by kernel_rfl) (by kernel_rfl) (by kernel_rfl) ?hQt236 (Or.inl ⟨?hwt236, ?hyt236⟩) (by assumption) ?restt236
                case hit236 => (first | (simp only [List.getElem?_toArray, List.getElem?_cons_zero, List.getElem?_cons_succ]; rfl) | rfl)
                case hQt236 => exact fun _ _ _ h => h
                case hwt236 => rfl
                case hyt236 => ((intro w hSw; go_simp); first | done | with_reducible rfl)
                try simp only [Act.put, List.setIfInBounds_toArray, List.set_cons_zero, List.set_cons_succ]
                refine wpAnyH_ready (rs := [7]) (by kernel_rfl) (by simp) ?_
                refine AllReadyH.cons (o := ?ot24) ?ht24 ?st24 AllReadyH.nil
                case ht24 => (simp only [List.getElem?_toArray, List.getElem?_cons_zero, List.getElem?_cons_succ]; rfl)
                case st24 =>
                  intro K hK
                  have yq72 := Bq69.out.cell 0
                  have zq73 := Bq69.out.frozen 0
                  simp only [List.getElem?_toArray, List.getElem?_cons_zero] at yq72
                  go_simp
                  clear yq72 zq73
                  obtain ⟨hq74, kq75⟩ := Gq55.out.addTok (w2 := uq62) Tq58.out (by rw [show (Voc.tok ⟨acc, []⟩) = acc from rfl, HLEN.out]; exact Hhwq63.out) Hhgq64.out Hhlq65.out
                  have szq80 := Kq57.out.size
                  have Gq76 := Lib.hid hq74
                  have Rq77 := Lib.hid (Rq56.out.same kq75 HNF.out HNA.out)
                  have Kq78 := Lib.hid (Kq57.out.trans kq75 (fun i hi e => .inr (by have h1 := HF.out i e; have h2 := HSZ.out; omega)))
                  have Fq79 := Lib.hid (show ∀ i, Own F uq54 (uq62.setCell ⟨vb, 0, none⟩ (.slice Aq66 (k + 1) cq67)) i → vb ≤ i from fun i hi => by
                    rcases hi with hi | hi
                    · exact HF.out i hi
                    · have h1 := hi.1
                      have h2 := HSZ.out
                      omega)
                  clear hq74 kq75 szq80
                  refine hK.out _ _ trivial (fun ht25 => ?_)
                  clear hK K
                  try simp only [Act.put, List.setIfInBounds_toArray, List.set_cons_zero, List.set_cons_succ]
                  refine wpAnyH_done (by kernel_rfl) ?_ _
                  go_wp2_with fail
                  go_roundw
                  case rel =>
                    refine ⟨k + 1, _, _, _, _, s', by omega, by go_num, ?_, ?_, HBSX.out, Gq76.out, Fq79.out, Rq77.out, Kq78.out⟩
                    · rw [← HRT.out, show cn - k = (cn - (k + 1)) + 1 from by omega, readTok, HX.out]
                    · rw [List.length_append, HLEN.out, List.length_singleton]
                  case measure => simp [intOf]; omega
          case st17 =>
            intro K hK
            go_simp
            obtain ⟨uq81, huq87⟩ : ∃ z, z = uq41.alloc (.cells #[.slice Aq46 x.length cq47] 23) := ⟨_, rfl⟩
            have Nq86 : Hid (Blk uq81 uq41.heap.size 23 #[.slice Aq46 x.length cq47]) := Lib.hid (by rw [huq87]; exact Blk.new _ _ _)
            rw [← huq87]
            have hbq88 : Below uq41.heap.size uq41 uq81 := by rw [huq87]; exact (Below.refl _ uq41).alloc (Nat.le_refl _) _
            have Gq82 := Lib.hid (Gq42.out.kept hbq88)
            have Rq83 := Lib.hid ((Rq43.out).same (Kept.below (F := fun _ => False) (hbq88)) (fun h => h) (fun _ _ _ h => h))
            have Kq84 := Lib.hid (Kq44.out.trans (Kept.below (F := fun _ => False) hbq88) (fun i _ e => e.elim))
            have Tq85 := Lib.hid (HTq45.out.mono (G := fun _ => False) (Kept.below hbq88) (fun _ => False.elim) (fun _ hf => .inl hf))
            clear huq87 hbq88
            refine hK.out _ _ trivial (fun ht26 => ?_)
            clear hK K
            try simp only [Act.put, List.setIfInBounds_toArray, List.set_cons_zero, List.set_cons_succ]
            refine wpAnyH_ready (rs := [1]) (by kernel_rfl) (by simp) ?_
            refine AllReadyH.cons (o := ?ot27) ?ht27 ?st27 AllReadyH.nil
            case ht27 => (simp only [List.getElem?_toArray, List.getElem?_cons_zero, List.getElem?_cons_succ]; rfl)
            case st27 =>
              intro K hK
              have yq89 := Gq82.out.blk.cell 0
              simp only [List.getElem?_toArray, List.getElem?_cons_zero] at yq89
              go_simp
              clear yq89
              refine hK.out _ _ trivial (fun ht28 => ?_)
              clear hK K
              try simp only [Act.put, List.setIfInBounds_toArray, List.set_cons_zero, List.set_cons_succ]
              refine wpAnyH_ready (rs := [5]) (by kernel_rfl) (by simp) ?_
              refine AllReadyH.cons (o := ?ot29) ?ht29 ?st29 AllReadyH.nil
              case ht29 => (simp only [List.getElem?_toArray, List.getElem?_cons_zero, List.getElem?_cons_succ]; rfl)
              case st29 =>
                intro K hK
                have trq99 := Gq82.out.trow
                rw [show (Voc.tok ⟨acc, []⟩) = acc from rfl, HLEN.out] at trq99
                have nbq98 := own_blk_ne trq99 Gq82.out.blk (by decide)
                refine step_append_srcN _ rfl (.tmp 28) (.tmp 31) 30 rfl 0 23 i0 (.slice none 0 0) 1 24 Try.underlying30 hi hz0 hz1 hz2 rfl (by omega) _ k svs rfl trq99 (some ⟨uq41.heap.size, 0, none⟩) 1 1 [.slice Aq46 x.length cq47] rfl ⟨rfl, fun ad e j u hu => by cases e; rw [addr_add, Nq86.out.cell]; simpa using hu, fun e => by cases e⟩ (by simp [Value.oneCell']) (by unfold maxLen; omega) (by omega) (Nat.zero_le _) ?_
                intro vq96 uq90 hwq91 hgq92 hlq93
                obtain ⟨Aq94, cq95, rfl⟩ := own_slice hwq91
                have Bq97 := Lib.hid (Gq82.out.blk.grown hgq92 (fun e => nbq98 e.symm))
                have Hhwq91 := Lib.hid hwq91
                have Hhgq92 := Lib.hid hgq92
                have Hhlq93 := Lib.hid hlq93
                clear trq99 nbq98 hwq91 hgq92 hlq93
                refine hK.out _ _ trivial (fun ht30 => ?_)
                clear hK K
                try simp only [Act.put, List.setIfInBounds_toArray, List.set_cons_zero, List.set_cons_succ]
                refine wpAnyH_take (i := 6) (oi := ?oit316) (v := ?vt316) ?hit316 (by kernel_rfl) (by kernel_rfl) (by kernel_rfl) ?hQt316 (Or.inl ⟨?hwt316, ?hyt316⟩) (by assumption) ?restt316
                case hit316 => (first | (simp only [List.getElem?_toArray, List.getElem?_cons_zero, List.getElem?_cons_succ]; rfl) | rfl)
                case hQt316 => exact fun _ _ _ h => h
                case hwt316 => rfl
                case hyt316 => ((intro w hSw; go_simp); first | done | with_reducible rfl)
                try simp only [Act.put, List.setIfInBounds_toArray, List.set_cons_zero, List.set_cons_succ]
                refine wpAnyH_ready (rs := [7]) (by kernel_rfl) (by simp) ?_
                refine AllReadyH.cons (o := ?ot32) ?ht32 ?st32 AllReadyH.nil
                case ht32 => (simp only [List.getElem?_toArray, List.getElem?_cons_zero, List.getElem?_cons_succ]; rfl)
                case st32 =>
                  intro K hK
                  have yq100 := Bq97.out.cell 0
                  have zq101 := Bq97.out.frozen 0
                  simp only [List.getElem?_toArray, List.getElem?_cons_zero] at yq100
                  go_simp
                  clear yq100 zq101
                  obtain ⟨hq102, kq103⟩ := Gq82.out.addTok (w2 := uq90) Tq85.out (by rw [show (Voc.tok ⟨acc, []⟩) = acc from rfl, HLEN.out]; exact Hhwq91.out) Hhgq92.out Hhlq93.out
                  have szq108 := Kq84.out.size
                  have Gq104 := Lib.hid hq102
                  have Rq105 := Lib.hid (Rq83.out.same kq103 HNF.out HNA.out)
                  have Kq106 := Lib.hid (Kq84.out.trans kq103 (fun i hi e => .inr (by have h1 := HF.out i e; have h2 := HSZ.out; omega)))
                  have Fq107 := Lib.hid (show ∀ i, Own F uq81 (uq90.setCell ⟨vb, 0, none⟩ (.slice Aq94 (k + 1) cq95)) i → vb ≤ i from fun i hi => by
                    rcases hi with hi | hi
                    · exact HF.out i hi
                    · have h1 := hi.1
                      have h2 := HSZ.out
                      omega)
                  clear hq102 kq103 szq108
                  refine hK.out _ _ trivial (fun ht33 => ?_)
                  clear hK K
                  try simp only [Act.put, List.setIfInBounds_toArray, List.set_cons_zero, List.set_cons_succ]
                  refine wpAnyH_done (by kernel_rfl) ?_ _
                  go_wp2_with fail
                  go_roundw
                  case rel =>
                    refine ⟨k + 1, _, _, _, _, s', by omega, by go_num, ?_, ?_, HBSX.out, Gq104.out, Fq107.out, Rq105.out, Kq106.out⟩
                    · rw [← HRT.out, show cn - k = (cn - (k + 1)) + 1 from by omega, readTok, HX.out]
                    · rw [List.length_append, HLEN.out, List.length_singleton]
                  case measure => simp [intOf]; omega
      · have d1 : (er == 0) = false := by simpa using h0
        have HTT := Lib.hid (show T.2 = sk from by rw [← HRT.out]; exact readTok_bad _ _ _ (by rw [← HER.out]; exact h0))
        have HTL := Lib.hid (show sk.e = 0 → T.1 = acc from fun e => absurd (HER.out.trans e) h0)
        have hk5 : k ≤ 512 := by omega
        clear h0 HRT
        obtain ⟨m, s2, hq, hm⟩ := rInt_512 sk (m := 512) (by omega)
        have hq' : rInt sk 512 = ((m : Int), s2) := hq
        have hM1 : readMer m s2 [] = M := by rw [HM.out, HTT.out]; unfold readM; rw [hq']; rfl
        have hbs2 : s2.bs = l := by
          have h1 := (rInt_ok HR.out.ok 512).2
          rw [hq'] at h1
          exact h1.trans HBS.out
        have HQ2 := Lib.hid hq'
        have HM1 := Lib.hid hM1
        have HBS2 := Lib.hid hbs2
        have hmz : (0 : Int) ≤ (m : Int) := by omega
        clear hq hq' hM1 hbs2
        go_wp2_with fail
        refine (r3Int_any wr rb sk A' c' HR.out 512 (by omega) (by omega)).mono ?_
        rintro e w5 ⟨rfl, hR5, hk5'⟩
        rw [HQ2.out] at hR5
        rw [HQ2.out]
        simp only at hR5 ⊢
        have HR5 := Lib.hid hR5
        have HG5 := Lib.hid (HG.out.far hk5' HNF.out HR.out.notB)
        have HK5 := Lib.hid (HK.out.trans hk5' (fun i _ e => .inl e))
        have c5 := hR5.blk.cell 2
        simp only [List.getElem?_toArray, List.getElem?_cons_zero, List.getElem?_cons_succ] at c5
        clear hR5 hk5' HR HG HK HNF hc2
        go_wp2_with fail
        go_loopw [8] (fun i wr => ∃ (j : Nat) (F : Nat → Prop) (mv : Value) (macc : List Mg) (sm : Rd), j ≤ m ∧ i = .int .i64 j ∧ readMer (m - j) sm macc = M ∧ macc.length = j ∧ sm.bs = l ∧ IsRV wr F vb ⟨acc, macc⟩ (.slice At k ct) mv svs ∧ (∀ i, F i → vb ≤ i) ∧ IsR3 wr rb sm A' c' ∧ Kept (fun i => i = rb ∨ i = vb) W3 wr) (fun i _ => m - (intOf i).toNat)
        case atStart => exact ⟨0, F, _, [], s2, by omega, rfl, HM1.out, rfl, HBS2.out, HG5.out, HF.out, HR5.out, HK5.out⟩
        case round =>
          clear HR5 HG5 HK5 HM1 HF F HBS2 c5
          obtain ⟨j, F, mv, macc, sm, hj, rfl, hrt, hml, hbs, hG, hF, hR, hK⟩ := hrel
          have HG := Lib.hid hG
          have HF := Lib.hid hF
          have HR := Lib.hid hR
          have HK := Lib.hid hK
          have HRT2 := Lib.hid hrt
          have HML := Lib.hid hml
          have HBM := Lib.hid hbs
          obtain ⟨Bm, cm, rfl⟩ := own_slice hG.mrow
          rw [show (Voc.mer ⟨acc, macc⟩) = macc from rfl, hml] at HG
          have hc2 := hR.blk.cell 2
          simp only [List.getElem?_toArray, List.getElem?_cons_zero, List.getElem?_cons_succ] at hc2
          obtain ⟨e2, her2⟩ : ∃ k, k = sm.e := ⟨_, rfl⟩
          rw [← her2] at hc2
          have HER2 := Lib.hid her2
          have HNF := Lib.hid (show ¬ F rb from fun h => by have h1 := HF.out rb h; have h2 := HRL.out; omega)
          clear hG hF hR hK hrt hml hbs her2
          rcases Nat.lt_or_ge j m with hlt | hge
          · have hlt' : (j : Int) < (m : Int) := by omega
            by_cases h0 : e2 = 0
            · subst h0
              obtain ⟨a, q1, ha, ha5⟩ := rInt_512 sm (m := 512) (by omega)
              obtain ⟨b, q2, hb, hb5⟩ := rInt_512 q1 (m := 512) (by omega)
              obtain ⟨t, q3, ht, ht5⟩ := rInt_512 q2 (m := 512) (by omega)
              have ha' : rInt sm 512 = ((a : Int), q1) := ha
              have hb' : rInt q1 512 = ((b : Int), q2) := hb
              have ht' : rInt q2 512 = ((t : Int), q3) := ht
              have hrm : rMer sm = (⟨a, b, t⟩, q3) := by unfold rMer; rw [ha']; simp only; rw [hb']; simp only; rw [ht']
              have hok1 := rInt_ok HR.out.ok 512
              rw [ha'] at hok1
              have hok2 := rInt_ok hok1.1 512
              simp only at hok2
              rw [hb'] at hok2
              have hok3 := rInt_ok hok2.1 512
              simp only at hok3
              rw [ht'] at hok3
              have HQ1 := Lib.hid (show q1.bs = l from hok1.2.trans HBM.out)
              have HQB := Lib.hid (show q2.bs = l from hok2.2.trans HQ1.out)
              have HQC := Lib.hid (show q3.bs = l from hok3.2.trans HQB.out)
              have HA := Lib.hid ha'
              have HBq := Lib.hid hb'
              have HTq := Lib.hid ht'
              have HRM := Lib.hid hrm
              have HNA := Lib.hid (show ∀ ad, A' = some ad → 0 < q3.bs.length → ¬ F ad.block from fun ad e h0 hf => by have h1 := HF.out _ hf; have h2 := HAL.out ad e (by rw [← HQC.out]; exact h0); omega)
              have bA := (Below.refl wr.heap.size wr).alloc (Nat.le_refl _) (.cells #[.int .i64 0, .int .i64 0, .int .i64 0] 25)
              obtain ⟨W6, hW6⟩ : ∃ z, z = wr.alloc (.cells #[.int .i64 0, .int .i64 0, .int .i64 0] 25) := ⟨_, rfl⟩
              obtain ⟨mb, hmb⟩ : ∃ z, z = wr.heap.size := ⟨_, rfl⟩
              have hn6 : Blk W6 mb 25 #[.int .i64 0, .int .i64 0, .int .i64 0] := by rw [hW6, hmb]; exact Blk.new _ _ _
              rw [← hW6] at bA
              have hw3 := HK.out.size
              have hmv : vb < mb := by have := HSZ.out; omega
              have HMV := Lib.hid hmv
              have HNM := Lib.hid (show ¬ F mb from fun h => by have h1 := HG.out.lt _ h; omega)
              have HG6 := Lib.hid (HG.out.kept bA)
              have HR6 := Lib.hid (HR.out.same (Kept.below (F := fun _ => False) bA) (fun h => h) (fun _ _ _ h => h))
              have HK6 := Lib.hid (HK.out.trans (Kept.below (F := fun _ => False) bA) (fun i _ e => e.elim))
              have HN6 := Lib.hid hn6
              have HW6 := Lib.hid hW6
              have HMB := Lib.hid hmb
              have HMS := Lib.hid (show W3.heap.size ≤ mb from by omega)
              clear ha hb ht ha' hb' ht' hrm hok1 hok2 hok3 bA hW6 hn6 hmb hw3 hmv
              go_wp2_with fail
              rw [← HW6.out]
              refine (r3Int_any W6 rb sm A' c' HR6.out 512 (by omega) (by omega)).mono ?_
              rintro e w7 ⟨rfl, hR7, hk7⟩
              rw [HA.out] at hR7
              rw [HA.out]
              simp only at hR7 ⊢
              have hn7 := HN6.out.kept hk7 (fun e => by have h1 := HRL.out; have h2 := HMV.out; omega)
              have hG7 := HG6.out.far hk7 HNF.out HR6.out.notB
              have hK7 := HK6.out.trans hk7 (fun i _ e => .inl e)
              have y7 := hn7.cell 0
              have z7 := hn7.frozen 0
              simp only [List.getElem?_toArray, List.getElem?_cons_zero, List.getElem?_cons_succ] at y7
              obtain ⟨X7, hX7⟩ : ∃ z, z = w7.setCell ⟨mb, 0, none⟩ (.int .i64 a) := ⟨_, rfl⟩
              have kX7 : Kept (fun i => i = mb) w7 X7 := by rw [hX7]; exact (Kept.refl (fun i => i = mb) w7).setCell (p := ⟨mb, 0, none⟩) (.inl rfl) _
              have HN7 : Hid (Blk X7 mb 25 #[.int .i64 a, .int .i64 0, .int .i64 0]) := Lib.hid (by rw [hX7]; have := hn7.set_ 0 (.int .i64 a); simpa using this)
              have HG7 := Lib.hid (hG7.far kX7 HNM.out (fun A0 x hx => not_bytes hn7 (fun i c => by
                match i with
                | 0 => simp [byteV]
                | 1 => simp [byteV]
                | 2 => simp [byteV]
                | i + 3 => simp) A0 x hx))
              have HR7 := Lib.hid (hR7.same kX7 (fun e => by have h1 := HRL.out; have h2 := HMV.out; omega) (fun ad e h0 hf => by have h1 := HAL.out ad e (by rw [← HQ1.out]; exact h0); have h2 := HMV.out; omega))
              have HK7 := Lib.hid (hK7.trans kX7 (fun i hi e => by have h2 := HMS.out; exact absurd hi (by rw [e]; omega)))
              have HX7 := Lib.hid hX7
              clear hR7 hk7 hn7 hG7 hK7 hX7 kX7
              try rw [← HMB.out]
              go_wp2_with fail
              rw [← HX7.out]
              clear y7 z7
              refine (r3Int_any X7 rb q1 A' c' HR7.out 512 (by omega) (by omega)).mono ?_
              rintro e w8 ⟨rfl, hR8, hk8⟩
              rw [HBq.out] at hR8
              rw [HBq.out]
              simp only at hR8 ⊢
              have hn8 := HN7.out.kept hk8 (fun e => by have h1 := HRL.out; have h2 := HMV.out; omega)
              have hG8 := HG7.out.far hk8 HNF.out HR7.out.notB
              have hK8 := HK7.out.trans hk8 (fun i _ e => .inl e)
              have y8 := hn8.cell 1
              have z8 := hn8.frozen 1
              simp only [List.getElem?_toArray, List.getElem?_cons_zero, List.getElem?_cons_succ] at y8
              obtain ⟨X8, hX8⟩ : ∃ z, z = w8.setCell ⟨mb, 1, none⟩ (.int .i64 b) := ⟨_, rfl⟩
              have kX8 : Kept (fun i => i = mb) w8 X8 := by rw [hX8]; exact (Kept.refl (fun i => i = mb) w8).setCell (p := ⟨mb, 1, none⟩) (.inl rfl) _
              have HN8 : Hid (Blk X8 mb 25 #[.int .i64 a, .int .i64 b, .int .i64 0]) := Lib.hid (by rw [hX8]; have := hn8.set_ 1 (.int .i64 b); simpa using this)
              have HG8 := Lib.hid (hG8.far kX8 HNM.out (fun A0 x hx => not_bytes hn8 (fun i c => by
                match i with
                | 0 => simp [byteV]
                | 1 => simp [byteV]
                | 2 => simp [byteV]
                | i + 3 => simp) A0 x hx))
              have HR8 := Lib.hid (hR8.same kX8 (fun e => by have h1 := HRL.out; have h2 := HMV.out; omega) (fun ad e h0 hf => by have h1 := HAL.out ad e (by rw [← HQB.out]; exact h0); have h2 := HMV.out; omega))
              have HK8 := Lib.hid (hK8.trans kX8 (fun i hi e => by have h2 := HMS.out; exact absurd hi (by rw [e]; omega)))
              have HX8 := Lib.hid hX8
              clear hR8 hk8 hn8 hG8 hK8 hX8 kX8
              try rw [← HMB.out]
              go_wp2_with fail
              rw [← HX8.out]
              clear y8 z8
              refine (r3Int_any X8 rb q2 A' c' HR8.out 512 (by omega) (by omega)).mono ?_
              rintro e w9 ⟨rfl, hR9, hk9⟩
              rw [HTq.out] at hR9
              rw [HTq.out]
              simp only at hR9 ⊢
              have hn9 := HN8.out.kept hk9 (fun e => by have h1 := HRL.out; have h2 := HMV.out; omega)
              have hG9 := HG8.out.far hk9 HNF.out HR8.out.notB
              have hK9 := HK8.out.trans hk9 (fun i _ e => .inl e)
              have y9 := hn9.cell 2
              have z9 := hn9.frozen 2
              simp only [List.getElem?_toArray, List.getElem?_cons_zero, List.getElem?_cons_succ] at y9
              obtain ⟨X9, hX9⟩ : ∃ z, z = w9.setCell ⟨mb, 2, none⟩ (.int .i64 t) := ⟨_, rfl⟩
              have kX9 : Kept (fun i => i = mb) w9 X9 := by rw [hX9]; exact (Kept.refl (fun i => i = mb) w9).setCell (p := ⟨mb, 2, none⟩) (.inl rfl) _
              have hN9 : Blk X9 mb 25 #[.int .i64 a, .int .i64 b, .int .i64 t] := by rw [hX9]; have := hn9.set_ 2 (.int .i64 t); simpa using this
              have hGX := hG9.far kX9 HNM.out (fun A0 x hx => not_bytes hn9 (fun i c => by
                match i with
                | 0 => simp [byteV]
                | 1 => simp [byteV]
                | 2 => simp [byteV]
                | i + 3 => simp) A0 x hx)
              have hRX := hR9.same kX9 (fun e => by have h1 := HRL.out; have h2 := HMV.out; omega) (fun ad e h0 hf => by have h1 := HAL.out ad e (by rw [← HQC.out]; exact h0); have h2 := HMV.out; omega)
              have hKX := hK9.trans kX9 (fun i hi e => by have h2 := HMS.out; exact absurd hi (by rw [e]; omega))
              have v0 := hN9.cell 0
              have v1 := hN9.cell 1
              have v2 := hN9.cell 2
              have t1 := hGX.blk.cell 1
              simp only [List.getElem?_toArray, List.getElem?_cons_zero, List.getElem?_cons_succ] at v0 v1 v2 t1
              have bB := (Below.refl X9.heap.size X9).alloc (Nat.le_refl _) (.cells #[.int .i64 a, .int .i64 b, .int .i64 t] 25)
              obtain ⟨u4, hu4⟩ : ∃ z, z = X9.alloc (.cells #[.int .i64 a, .int .i64 b, .int .i64 t] 25) := ⟨_, rfl⟩
              have hn4 : Blk u4 X9.heap.size 25 #[.int .i64 a, .int .i64 b, .int .i64 t] := by rw [hu4]; exact Blk.new _ _ _
              rw [← hu4] at bB
              have hg8 := hGX.kept bB
              have hr8 := hg8.mrow
              rw [show (Voc.mer ⟨acc, macc⟩) = macc from rfl, HML.out] at hr8
              have HG8 := Lib.hid hg8
              have HR8 := Lib.hid (hRX.same (Kept.below (F := fun _ => False) bB) (fun h => h) (fun _ _ _ h => h))
              have HK8 := Lib.hid (hKX.trans (Kept.below (F := fun _ => False) bB) (fun i _ e => e.elim))
              have HM8 := Lib.hid hr8
              have HNB := Lib.hid (own_blk_ne hr8 hg8.blk (by decide))
              have HBK := Lib.hid hg8.blk
              have HU4 := Lib.hid hu4
              have HN4 := Lib.hid hn4
              have HX9 := Lib.hid hX9
              clear hR9 hk9 hn9 hG9 hK9 kX9 hN9 hGX hRX hKX bB hu4 hn4 hg8 hr8 hX9
              try rw [← HMB.out]
              go_wp2_with (first
                | (at_builtin; rw [← HU4.out]; refine wpList_append_own_at _ rfl _ _ 31 rfl 0 25 j0 _ 3 24 Try.underlying31 hj0 hy0 hy1 hy2 rfl (by decide) _ j (macc.flatMap mgCells) rfl HM8.out ⟨X9.heap.size, 0, none⟩ 1 1 (mgCells ⟨a, b, t⟩) rfl rfl (fun j u hu => by rw [addr_add, HN4.out.cell]; simpa [mgCells] using hu) (by simp [mgCells, Value.oneCell']) (by unfold maxLen; omega) (by omega) (Nat.zero_le _) ?_; intro v' w8 hown' hg3 hnil hloc; clear hnil; obtain ⟨A8, c8, hv⟩ := own_slice hown'; rw [hv] at hown' hloc ⊢; clear hv; have HB8 := Lib.hid (HBK.out.grown hg3 (fun e => HNB.out e.symm)); have z8 := HB8.out.frozen 1; have y8 := HB8.out.cell 1; simp at y8; have HOWN8 := Lib.hid hown'; have HG9 := Lib.hid hg3; have HLOC8 := Lib.hid hloc; clear hown' hg3 hloc)
                | rw [← HX9.out])
              obtain ⟨h9, k9⟩ := HG8.out.addMer (mv' := .slice A8 (j + 1) c8) (m := ⟨a, b, t⟩) (w2 := w8) (mgFits_512 ha5 hb5 ht5) (by rw [show (Voc.mer ⟨acc, macc⟩) = macc from rfl, HML.out]; exact HOWN8.out) HG9.out HLOC8.out
              have sz := HK8.out.size
              have H9 := Lib.hid h9
              have HR9 := Lib.hid (HR8.out.same k9 HNF.out HNA.out)
              have HK9 := Lib.hid (HK8.out.trans k9 (fun i hi e => .inr (by have h1 := HF.out i e; have h2 := HSZ.out; omega)))
              have HF9 := Lib.hid (show ∀ i, Own F u4 (w8.setCell ⟨vb, 1, none⟩ (.slice A8 (j + 1) c8)) i → vb ≤ i from fun i hi => by
                rcases hi with hi | hi
                · exact HF.out i hi
                · have h1 := hi.1
                  have h2 := HSZ.out
                  omega)
              clear h9 k9 z8 y8 y9 z9 v0 v1 v2 t1 sz
              go_roundw
              case rel =>
                refine ⟨j + 1, _, _, _, q3, by omega, by go_num, ?_, ?_, HQC.out, H9.out, HF9.out, HR9.out, HK9.out⟩
                · rw [← HRT2.out, show m - j = (m - (j + 1)) + 1 from by omega, readMer, HRM.out]
                · rw [List.length_append, HML.out, List.length_singleton]
              case measure => simp [intOf]; omega
            · have d2 : (e2 == 0) = false := by simpa using h0
              have HMM := Lib.hid (show M.2 = sm from by rw [← HRT2.out]; exact readMer_bad _ _ _ (by rw [← HER2.out]; exact h0))
              have HMN := Lib.hid (show sm.e = 0 → M.1 = macc from fun e => absurd (HER2.out.trans e) h0)
              have hj5 : j ≤ 512 := by omega
              clear HRT2
              have HVw := Lib.hid ((HV3.out.kept HK.out (fun e => by have h1 := HRB.out; have h2 := HVW.out; omega)))
              have HBw := Lib.hid (HB3.out.trans (Kept.toBelow (B := w.heap.size) HK.out HB3.out.size (fun i e => by have h1 := HRB.out; have h2 := HVW.out; rcases e with e | e <;> omega)))
              have d3 : (e2 != 0) = true := by simpa using h0
              have HNE := Lib.hid h0
              have HME := Lib.hid (show M.2.e = e2 from by rw [HMM.out, ← HER2.out])
              clear h0
              go_wp2_with fail
              refine wp_region_held_drew (S := fun w' => w'.cell? ⟨rb, 2, none⟩ = some (.int .i64 e2)) (by kernel_rfl) hc2 (fun hHeld => ?_)
              obtain ⟨u0, hu0⟩ : ∃ z, z = wr.drew := ⟨_, rfl⟩
              rw [← hu0] at hHeld ⊢
              have hb0 : Below wr.heap.size wr u0 := by rw [hu0]; exact (Below.refl _ wr).drew
              have HVu := Lib.hid (HVw.out.below hb0 HVw.out.lt)
              have HBu := Lib.hid (below_then HBw.out hb0 HBw.out.size)
              have hbk := HR.out.blk
              rw [← HER2.out] at hbk
              have HBk := Lib.hid (hbk.below hb0 hbk.lt)
              clear hu0 hb0 hbk hc2
              refine wpAnyH_take (i := 0) (oi := ?oiae1_10) (v := ?vae1_10) ?hiae1_10 (by kernel_rfl) (by kernel_rfl) (by kernel_rfl) ?hQae1_10 (Or.inl ⟨?hwae1_10, ?hyae1_10⟩) (by assumption) ?restae1_10
              case hiae1_10 => (first | (simp only [List.getElem?_toArray, List.getElem?_cons_zero, List.getElem?_cons_succ]; rfl) | rfl)
              case hQae1_10 => exact fun _ _ _ h => h
              case hwae1_10 => rfl
              case hyae1_10 => ((intro w hSw; go_simp); first | done | with_reducible rfl)
              try simp only [Act.put, List.setIfInBounds_toArray, List.set_cons_zero, List.set_cons_succ]
              refine wpAnyH_take (i := 1) (oi := ?oiae1_21) (v := ?vae1_21) ?hiae1_21 (by kernel_rfl) (by kernel_rfl) (by kernel_rfl) ?hQae1_21 (Or.inl ⟨?hwae1_21, ?hyae1_21⟩) (by assumption) ?restae1_21
              case hiae1_21 => (first | (simp only [List.getElem?_toArray, List.getElem?_cons_zero, List.getElem?_cons_succ]; rfl) | rfl)
              case hQae1_21 => exact fun _ _ _ h => h
              case hwae1_21 => rfl
              case hyae1_21 => ((intro w hSw; go_simp); first | done | with_reducible rfl)
              try simp only [Act.put, List.setIfInBounds_toArray, List.set_cons_zero, List.set_cons_succ]
              refine wpAnyH_take (i := 2) (oi := ?oiae1_32) (v := ?vae1_32) ?hiae1_32 (by kernel_rfl) (by kernel_rfl) (by kernel_rfl) ?hQae1_32 (Or.inl ⟨?hwae1_32, ?hyae1_32⟩) (by assumption) ?restae1_32
              case hiae1_32 => (first | (simp only [List.getElem?_toArray, List.getElem?_cons_zero, List.getElem?_cons_succ]; rfl) | rfl)
              case hQae1_32 => exact fun _ _ _ h => h
              case hwae1_32 => rfl
              case hyae1_32 => ((intro w hSw; go_simp); first | done | with_reducible rfl)
              try simp only [Act.put, List.setIfInBounds_toArray, List.set_cons_zero, List.set_cons_succ]
              refine wpAnyH_take (i := 3) (oi := ?oiae1_43) (v := ?vae1_43) ?hiae1_43 (by kernel_rfl) (by kernel_rfl) (by kernel_rfl) ?hQae1_43 (Or.inl ⟨?hwae1_43, ?hyae1_43⟩) (by assumption) ?restae1_43
              case hiae1_43 => (first | (simp only [List.getElem?_toArray, List.getElem?_cons_zero, List.getElem?_cons_succ]; rfl) | rfl)
              case hQae1_43 => exact fun _ _ _ h => h
              case hwae1_43 => rfl
              case hyae1_43 => ((intro w hSw; go_simp); first | done | with_reducible rfl)
              try simp only [Act.put, List.setIfInBounds_toArray, List.set_cons_zero, List.set_cons_succ]
              refine wpAnyH_take (i := 4) (oi := ?oiae1_54) (v := ?vae1_54) ?hiae1_54 (by kernel_rfl) (by kernel_rfl) (by kernel_rfl) ?hQae1_54 (Or.inl ⟨?hwae1_54, ?hyae1_54⟩) (by assumption) ?restae1_54
              case hiae1_54 => (first | (simp only [List.getElem?_toArray, List.getElem?_cons_zero, List.getElem?_cons_succ]; rfl) | rfl)
              case hQae1_54 => exact fun _ _ _ h => h
              case hwae1_54 => rfl
              case hyae1_54 => ((intro w hSw; go_simp); first | done | with_reducible rfl)
              try simp only [Act.put, List.setIfInBounds_toArray, List.set_cons_zero, List.set_cons_succ]
              refine wpAnyH_ready (rs := [5]) (by kernel_rfl) (by simp) ?_
              refine AllReadyH.cons (o := ?oae1_6) ?hae1_6 ?sae1_6 AllReadyH.nil
              case hae1_6 => (simp only [List.getElem?_toArray, List.getElem?_cons_zero, List.getElem?_cons_succ]; rfl)
              case sae1_6 =>
                intro K hK
                have y0 := HVu.out.cell 0
                have y1 := HVu.out.cell 1
                have z0 := HVu.out.frozen 0
                have z1 := HVu.out.frozen 1
                simp only [List.getElem?_toArray, List.getElem?_cons_zero, List.getElem?_cons_succ] at y0 y1
                go_simp
                clear y0 y1 z0 z1
                have kp : Kept (fun i => i = w.heap.size) u0 ((u0.setCell ⟨w.heap.size, 0, none⟩ (.slice none 0 0)).setCell ⟨w.heap.size, 1, none⟩ (.slice none 0 0)) := ((Kept.refl (fun i => i = w.heap.size) u0).setCell (p := ⟨w.heap.size, 0, none⟩) (.inl rfl) _).setCell (p := ⟨w.heap.size, 1, none⟩) (.inl rfl) _
                have hc9 := (HBk.out.kept kp (fun e => by have h1 := HRB.out; omega)).cell 2
                simp only [List.getElem?_toArray, List.getElem?_cons_zero, List.getElem?_cons_succ] at hc9
                clear kp
                refine hK.out _ _ hc9 (fun hae1_7 => ?_)
                clear hK K
                try simp only [Act.put, List.setIfInBounds_toArray, List.set_cons_zero, List.set_cons_succ]
                refine wpAnyH_take (i := 6) (oi := ?oiae1_86) (v := ?vae1_86) ?hiae1_86 (by kernel_rfl) (by kernel_rfl) (by kernel_rfl) ?hQae1_86 (Or.inl ⟨?hwae1_86, ?hyae1_86⟩) (by assumption) ?restae1_86
                case hiae1_86 => (first | (simp only [List.getElem?_toArray, List.getElem?_cons_zero, List.getElem?_cons_succ]; rfl) | rfl)
                case hQae1_86 => exact fun _ _ _ h => h
                case hwae1_86 => rfl
                case hyae1_86 => ((intro w hSw; go_simp); first | done | with_reducible rfl)
                try simp only [Act.put, List.setIfInBounds_toArray, List.set_cons_zero, List.set_cons_succ]
                refine wpAnyH_done (by kernel_rfl) ?_ _
                go_wp2
                refine bodyPost_ret (results_cell_row_tmp rfl _ _ w.heap.size 33 #[.slice none 0 0, .slice none 0 0] (0, 0) _ rfl ?_ Try.underlying33 rfl vocabCells) rfl ?_
                · have := (HVu.out.set_ 0 (.slice none 0 0)).set_ 1 (.slice none 0 0)
                  simpa [Blk] using this
                · unfold RVOut
                  rw [HR1.out, HME.out, if_pos HNE.out]
                  exact ⟨.slice none 0 0, .slice none 0 0, [], fun _ => False, 0, rfl, (HBu.out.setCell (Nat.le_refl _) _).setCell (Nat.le_refl _) _, fun h => absurd h HNE.out, fun _ => ⟨rfl, rfl⟩⟩
          · have hkc : j = m := by omega
            have hjz : ¬ ((j : Int) < (m : Int)) := by omega
            have HMM := Lib.hid (show M.2 = sm from by rw [← HRT2.out, hkc, Nat.sub_self]; rfl)
            have HMN := Lib.hid (show sm.e = 0 → M.1 = macc from fun _ => by rw [← HRT2.out, hkc, Nat.sub_self]; rfl)
            have hj5 : j ≤ 512 := by omega
            clear hkc HRT2
            by_cases h0 : e2 ≠ 0
            · have d2 : (e2 == 0) = false := by simpa using h0
              have HVw := Lib.hid ((HV3.out.kept HK.out (fun e => by have h1 := HRB.out; have h2 := HVW.out; omega)))
              have HBw := Lib.hid (HB3.out.trans (Kept.toBelow (B := w.heap.size) HK.out HB3.out.size (fun i e => by have h1 := HRB.out; have h2 := HVW.out; rcases e with e | e <;> omega)))
              have d3 : (e2 != 0) = true := by simpa using h0
              have HNE := Lib.hid h0
              have HME := Lib.hid (show M.2.e = e2 from by rw [HMM.out, ← HER2.out])
              clear h0
              go_wp2_with fail
              refine wp_region_held_drew (S := fun w' => w'.cell? ⟨rb, 2, none⟩ = some (.int .i64 e2)) (by kernel_rfl) hc2 (fun hHeld => ?_)
              obtain ⟨u0, hu0⟩ : ∃ z, z = wr.drew := ⟨_, rfl⟩
              rw [← hu0] at hHeld ⊢
              have hb0 : Below wr.heap.size wr u0 := by rw [hu0]; exact (Below.refl _ wr).drew
              have HVu := Lib.hid (HVw.out.below hb0 HVw.out.lt)
              have HBu := Lib.hid (below_then HBw.out hb0 HBw.out.size)
              have hbk := HR.out.blk
              rw [← HER2.out] at hbk
              have HBk := Lib.hid (hbk.below hb0 hbk.lt)
              clear hu0 hb0 hbk hc2
              refine wpAnyH_take (i := 0) (oi := ?oiae2_10) (v := ?vae2_10) ?hiae2_10 (by kernel_rfl) (by kernel_rfl) (by kernel_rfl) ?hQae2_10 (Or.inl ⟨?hwae2_10, ?hyae2_10⟩) (by assumption) ?restae2_10
              case hiae2_10 => (first | (simp only [List.getElem?_toArray, List.getElem?_cons_zero, List.getElem?_cons_succ]; rfl) | rfl)
              case hQae2_10 => exact fun _ _ _ h => h
              case hwae2_10 => rfl
              case hyae2_10 => ((intro w hSw; go_simp); first | done | with_reducible rfl)
              try simp only [Act.put, List.setIfInBounds_toArray, List.set_cons_zero, List.set_cons_succ]
              refine wpAnyH_take (i := 1) (oi := ?oiae2_21) (v := ?vae2_21) ?hiae2_21 (by kernel_rfl) (by kernel_rfl) (by kernel_rfl) ?hQae2_21 (Or.inl ⟨?hwae2_21, ?hyae2_21⟩) (by assumption) ?restae2_21
              case hiae2_21 => (first | (simp only [List.getElem?_toArray, List.getElem?_cons_zero, List.getElem?_cons_succ]; rfl) | rfl)
              case hQae2_21 => exact fun _ _ _ h => h
              case hwae2_21 => rfl
              case hyae2_21 => ((intro w hSw; go_simp); first | done | with_reducible rfl)
              try simp only [Act.put, List.setIfInBounds_toArray, List.set_cons_zero, List.set_cons_succ]
              refine wpAnyH_take (i := 2) (oi := ?oiae2_32) (v := ?vae2_32) ?hiae2_32 (by kernel_rfl) (by kernel_rfl) (by kernel_rfl) ?hQae2_32 (Or.inl ⟨?hwae2_32, ?hyae2_32⟩) (by assumption) ?restae2_32
              case hiae2_32 => (first | (simp only [List.getElem?_toArray, List.getElem?_cons_zero, List.getElem?_cons_succ]; rfl) | rfl)
              case hQae2_32 => exact fun _ _ _ h => h
              case hwae2_32 => rfl
              case hyae2_32 => ((intro w hSw; go_simp); first | done | with_reducible rfl)
              try simp only [Act.put, List.setIfInBounds_toArray, List.set_cons_zero, List.set_cons_succ]
              refine wpAnyH_take (i := 3) (oi := ?oiae2_43) (v := ?vae2_43) ?hiae2_43 (by kernel_rfl) (by kernel_rfl) (by kernel_rfl) ?hQae2_43 (Or.inl ⟨?hwae2_43, ?hyae2_43⟩) (by assumption) ?restae2_43
              case hiae2_43 => (first | (simp only [List.getElem?_toArray, List.getElem?_cons_zero, List.getElem?_cons_succ]; rfl) | rfl)
              case hQae2_43 => exact fun _ _ _ h => h
              case hwae2_43 => rfl
              case hyae2_43 => ((intro w hSw; go_simp); first | done | with_reducible rfl)
              try simp only [Act.put, List.setIfInBounds_toArray, List.set_cons_zero, List.set_cons_succ]
              refine wpAnyH_take (i := 4) (oi := ?oiae2_54) (v := ?vae2_54) ?hiae2_54 (by kernel_rfl) (by kernel_rfl) (by kernel_rfl) ?hQae2_54 (Or.inl ⟨?hwae2_54, ?hyae2_54⟩) (by assumption) ?restae2_54
              case hiae2_54 => (first | (simp only [List.getElem?_toArray, List.getElem?_cons_zero, List.getElem?_cons_succ]; rfl) | rfl)
              case hQae2_54 => exact fun _ _ _ h => h
              case hwae2_54 => rfl
              case hyae2_54 => ((intro w hSw; go_simp); first | done | with_reducible rfl)
              try simp only [Act.put, List.setIfInBounds_toArray, List.set_cons_zero, List.set_cons_succ]
              refine wpAnyH_ready (rs := [5]) (by kernel_rfl) (by simp) ?_
              refine AllReadyH.cons (o := ?oae2_6) ?hae2_6 ?sae2_6 AllReadyH.nil
              case hae2_6 => (simp only [List.getElem?_toArray, List.getElem?_cons_zero, List.getElem?_cons_succ]; rfl)
              case sae2_6 =>
                intro K hK
                have y0 := HVu.out.cell 0
                have y1 := HVu.out.cell 1
                have z0 := HVu.out.frozen 0
                have z1 := HVu.out.frozen 1
                simp only [List.getElem?_toArray, List.getElem?_cons_zero, List.getElem?_cons_succ] at y0 y1
                go_simp
                clear y0 y1 z0 z1
                have kp : Kept (fun i => i = w.heap.size) u0 ((u0.setCell ⟨w.heap.size, 0, none⟩ (.slice none 0 0)).setCell ⟨w.heap.size, 1, none⟩ (.slice none 0 0)) := ((Kept.refl (fun i => i = w.heap.size) u0).setCell (p := ⟨w.heap.size, 0, none⟩) (.inl rfl) _).setCell (p := ⟨w.heap.size, 1, none⟩) (.inl rfl) _
                have hc9 := (HBk.out.kept kp (fun e => by have h1 := HRB.out; omega)).cell 2
                simp only [List.getElem?_toArray, List.getElem?_cons_zero, List.getElem?_cons_succ] at hc9
                clear kp
                refine hK.out _ _ hc9 (fun hae2_7 => ?_)
                clear hK K
                try simp only [Act.put, List.setIfInBounds_toArray, List.set_cons_zero, List.set_cons_succ]
                refine wpAnyH_take (i := 6) (oi := ?oiae2_86) (v := ?vae2_86) ?hiae2_86 (by kernel_rfl) (by kernel_rfl) (by kernel_rfl) ?hQae2_86 (Or.inl ⟨?hwae2_86, ?hyae2_86⟩) (by assumption) ?restae2_86
                case hiae2_86 => (first | (simp only [List.getElem?_toArray, List.getElem?_cons_zero, List.getElem?_cons_succ]; rfl) | rfl)
                case hQae2_86 => exact fun _ _ _ h => h
                case hwae2_86 => rfl
                case hyae2_86 => ((intro w hSw; go_simp); first | done | with_reducible rfl)
                try simp only [Act.put, List.setIfInBounds_toArray, List.set_cons_zero, List.set_cons_succ]
                refine wpAnyH_done (by kernel_rfl) ?_ _
                go_wp2
                refine bodyPost_ret (results_cell_row_tmp rfl _ _ w.heap.size 33 #[.slice none 0 0, .slice none 0 0] (0, 0) _ rfl ?_ Try.underlying33 rfl vocabCells) rfl ?_
                · have := (HVu.out.set_ 0 (.slice none 0 0)).set_ 1 (.slice none 0 0)
                  simpa [Blk] using this
                · unfold RVOut
                  rw [HR1.out, HME.out, if_pos HNE.out]
                  exact ⟨.slice none 0 0, .slice none 0 0, [], fun _ => False, 0, rfl, (HBu.out.setCell (Nat.le_refl _) _).setCell (Nat.le_refl _) _, fun h => absurd h HNE.out, fun _ => ⟨rfl, rfl⟩⟩
            have he0 : e2 = 0 := by simpa using h0
            subst he0
            clear h0
            have HVw := Lib.hid ((HV3.out.kept HK.out (fun e => by have h1 := HRB.out; have h2 := HVW.out; omega)))
            have HBw := Lib.hid (HB3.out.trans (Kept.toBelow (B := w.heap.size) HK.out HB3.out.size (fun i e => by have h1 := HRB.out; have h2 := HVW.out; rcases e with e | e <;> omega)))
            have HSK := Lib.hid (show sk.e = 0 from Classical.byContradiction fun h => h (by
              have h1 := readM_bad h
              rw [← HTT.out, ← HM.out, HMM.out, HTT.out] at h1
              rw [← h1]; exact HER2.out.symm))
            have HTA := Lib.hid (HTL.out HSK.out)
            have HMA := Lib.hid (HMN.out HER2.out.symm)
            obtain ⟨lf, hlf⟩ : ∃ k, k = rLeft sm := ⟨_, rfl⟩
            have HLF := Lib.hid hlf
            obtain ⟨E, hE⟩ : ∃ E, E = checkV ⟨acc, macc⟩ := ⟨_, rfl⟩
            have HE := Lib.hid hE
            have hR2 : R = if 0 < lf then (⟨[], []⟩, 3) else if E ≠ 0 then (⟨[], []⟩, E) else (⟨acc, macc⟩, 0) := by
              rw [HR1.out, HMM.out, if_neg (by rw [← HER2.out]; simp), HTA.out, HMA.out, ← hlf, ← hE]
            have HR2 := Lib.hid hR2
            clear hlf hE hR2
            go_wp2_with fail
            have h := r3Left_any wr rb sm A' c' HR.out
            rw [← HLF.out] at h
            refine h.mono ?_
            rintro e w5 ⟨rfl, q, hw⟩
            have b5 : Below wr.heap.size wr w5 := by rw [hw]; exact below_drewN (Below.refl _ _) q
            have HV5 := Lib.hid (HVw.out.below b5 HVw.out.lt)
            have HB5 := Lib.hid (below_then HBw.out b5 HBw.out.size)
            have HG5 := Lib.hid (HG.out.kept b5)
            clear hw h b5 hc2 q
            by_cases hleft : 0 < lf
            · have d3 : (0 : Int) < (lf : Int) := by omega
              have HLP := Lib.hid hleft
              have HNE : Hid ((3 : Int) ≠ 0) := Lib.hid (by omega)
              clear hleft
              have y0 := HV5.out.cell 0
              have y1 := HV5.out.cell 1
              have z0 := HV5.out.frozen 0
              have z1 := HV5.out.frozen 1
              simp only [List.getElem?_toArray, List.getElem?_cons_zero, List.getElem?_cons_succ] at y0 y1
              go_wp2
              refine bodyPost_ret (results_cell_row_tmp rfl _ _ w.heap.size 33 #[.slice none 0 0, .slice none 0 0] (0, 0) _ rfl ?_ Try.underlying33 rfl vocabCells) rfl ?_
              · have := (HV5.out.set_ 0 (.slice none 0 0)).set_ 1 (.slice none 0 0)
                simpa [Blk] using this
              · unfold RVOut
                rw [HR2.out, if_pos HLP.out]
                exact ⟨.slice none 0 0, .slice none 0 0, [], fun _ => False, 0, rfl, (HB5.out.setCell (Nat.le_refl _) _).setCell (Nat.le_refl _) _, fun h => absurd h HNE.out, fun _ => ⟨rfl, rfl⟩⟩
            have d3 : ¬ (0 : Int) < (lf : Int) := by omega
            have HLP := Lib.hid hleft
            clear hleft
            obtain ⟨A1, B1, q1, q2, hh1, hh2, hsee⟩ := HG5.out.see (by simp only; rw [HLEN.out]; omega) (by simp only; rw [HML.out]; omega)
            rw [show (Voc.tok ⟨acc, macc⟩) = acc from rfl, HLEN.out] at hh1 hsee
            rw [show (Voc.mer ⟨acc, macc⟩) = macc from rfl, HML.out] at hh2 hsee
            cases hh1
            cases hh2
            have HSEE := Lib.hid hsee
            have x0 := HG5.out.blk.cell 0
            have x1 := HG5.out.blk.cell 1
            simp only [List.getElem?_toArray, List.getElem?_cons_zero, List.getElem?_cons_succ] at x0 x1
            clear hsee
            go_wp2_with fail
            have h := r5Check_any w5 At Bm k j ct cm ⟨acc, macc⟩ HSEE.out
            rw [← HE.out] at h
            unfold vocV at h
            refine h.mono ?_
            rintro e w6 ⟨rfl, hb6⟩
            have HB6 := Lib.hid (below_then HB5.out hb6 HB5.out.size)
            have HV6 := Lib.hid (HV5.out.below hb6 HV5.out.lt)
            have HG6 := Lib.hid (HG5.out.kept hb6)
            clear hb6 h x0 x1 d3
            by_cases hbad : E ≠ 0
            · have d4 : (E != 0) = true := by simpa using hbad
              have HNE := Lib.hid hbad
              clear hbad
              have y0 := HV6.out.cell 0
              have y1 := HV6.out.cell 1
              have z0 := HV6.out.frozen 0
              have z1 := HV6.out.frozen 1
              simp only [List.getElem?_toArray, List.getElem?_cons_zero, List.getElem?_cons_succ] at y0 y1
              go_wp2
              refine bodyPost_ret (results_cell_row_tmp rfl _ _ w.heap.size 33 #[.slice none 0 0, .slice none 0 0] (0, 0) _ rfl ?_ Try.underlying33 rfl vocabCells) rfl ?_
              · have := (HV6.out.set_ 0 (.slice none 0 0)).set_ 1 (.slice none 0 0)
                simpa [Blk] using this
              · unfold RVOut
                rw [HR2.out, if_neg HLP.out, if_pos HNE.out]
                exact ⟨.slice none 0 0, .slice none 0 0, [], fun _ => False, 0, rfl, (HB6.out.setCell (Nat.le_refl _) _).setCell (Nat.le_refl _) _, fun h => absurd h HNE.out, fun _ => ⟨rfl, rfl⟩⟩
            have hE0 : E = 0 := by simpa using hbad
            subst hE0
            clear hbad
            have x0 := HG6.out.blk.cell 0
            have x1 := HG6.out.blk.cell 1
            have y0 := HV6.out.cell 0
            have y1 := HV6.out.cell 1
            have z0 := HV6.out.frozen 0
            have z1 := HV6.out.frozen 1
            simp only [List.getElem?_toArray, List.getElem?_cons_zero, List.getElem?_cons_succ] at x0 x1 y0 y1
            go_wp2
            have hnF : ¬ F w.heap.size := fun hf => by have h1 := HF.out _ hf; have h2 := HVW.out; omega
            have hk1 : Kept (fun i => i = w.heap.size) w6 (w6.setCell ⟨w.heap.size, 0, none⟩ (.slice At k ct)) := (Kept.refl (fun i => i = w.heap.size) w6).setCell (p := ⟨w.heap.size, 0, none⟩) (.inl rfl) _
            have hk2 : Kept (fun i => i = w.heap.size) w6 ((w6.setCell ⟨w.heap.size, 0, none⟩ (.slice At k ct)).setCell ⟨w.heap.size, 1, none⟩ (.slice Bm j cm)) := hk1.setCell (p := ⟨w.heap.size, 1, none⟩) (.inl rfl) _
            have h4 := HG6.out.far hk2 hnF (fun A0 x hx => not_bytes HV6.out (fun i c => by
              match i with
              | 0 => simp [byteV]
              | 1 => simp [byteV]
              | i + 2 => simp) A0 x hx)
            refine bodyPost_ret (results_cell_row_tmp rfl _ _ w.heap.size 33 #[.slice At k ct, .slice Bm j cm] (0, 0) _ rfl ?_ Try.underlying33 rfl vocabCells) rfl ?_
            · have := (HV6.out.set_ 0 (.slice At k ct)).set_ 1 (.slice Bm j cm)
              simpa [Blk] using this
            · unfold RVOut
              rw [HR2.out, if_neg HLP.out, if_neg (by simp)]
              exact ⟨.slice At k ct, .slice Bm j cm, svs, F, vb, rfl, (HB6.out.setCell (Nat.le_refl _) _).setCell (Nat.le_refl _) _, fun _ => ⟨h4, fun i hi => by have h1 := HF.out i hi; have h2 := HVW.out; omega⟩, fun h => absurd rfl h⟩
    · have hkc : k = cn := by omega
      have hkz : ¬ ((k : Int) < (cn : Int)) := by omega
      have HTT := Lib.hid (show T.2 = sk from by rw [← HRT.out, hkc, Nat.sub_self]; rfl)
      have HTL := Lib.hid (show sk.e = 0 → T.1 = acc from fun _ => by rw [← HRT.out, hkc, Nat.sub_self]; rfl)
      have hk5 : k ≤ 512 := by omega
      clear hkc HRT
      obtain ⟨m, s2, hq, hm⟩ := rInt_512 sk (m := 512) (by omega)
      have hq' : rInt sk 512 = ((m : Int), s2) := hq
      have hM1 : readMer m s2 [] = M := by rw [HM.out, HTT.out]; unfold readM; rw [hq']; rfl
      have hbs2 : s2.bs = l := by
        have h1 := (rInt_ok HR.out.ok 512).2
        rw [hq'] at h1
        exact h1.trans HBS.out
      have HQ2 := Lib.hid hq'
      have HM1 := Lib.hid hM1
      have HBS2 := Lib.hid hbs2
      have hmz : (0 : Int) ≤ (m : Int) := by omega
      clear hq hq' hM1 hbs2
      go_wp2_with fail
      refine (r3Int_any wr rb sk A' c' HR.out 512 (by omega) (by omega)).mono ?_
      rintro e w5 ⟨rfl, hR5, hk5'⟩
      rw [HQ2.out] at hR5
      rw [HQ2.out]
      simp only at hR5 ⊢
      have HR5 := Lib.hid hR5
      have HG5 := Lib.hid (HG.out.far hk5' HNF.out HR.out.notB)
      have HK5 := Lib.hid (HK.out.trans hk5' (fun i _ e => .inl e))
      have c5 := hR5.blk.cell 2
      simp only [List.getElem?_toArray, List.getElem?_cons_zero, List.getElem?_cons_succ] at c5
      clear hR5 hk5' HR HG HK HNF hc2
      go_wp2_with fail
      go_loopw [8] (fun i wr => ∃ (j : Nat) (F : Nat → Prop) (mv : Value) (macc : List Mg) (sm : Rd), j ≤ m ∧ i = .int .i64 j ∧ readMer (m - j) sm macc = M ∧ macc.length = j ∧ sm.bs = l ∧ IsRV wr F vb ⟨acc, macc⟩ (.slice At k ct) mv svs ∧ (∀ i, F i → vb ≤ i) ∧ IsR3 wr rb sm A' c' ∧ Kept (fun i => i = rb ∨ i = vb) W3 wr) (fun i _ => m - (intOf i).toNat)
      case atStart => exact ⟨0, F, _, [], s2, by omega, rfl, HM1.out, rfl, HBS2.out, HG5.out, HF.out, HR5.out, HK5.out⟩
      case round =>
        clear HR5 HG5 HK5 HM1 HF F HBS2 c5
        obtain ⟨j, F, mv, macc, sm, hj, rfl, hrt, hml, hbs, hG, hF, hR, hK⟩ := hrel
        have HG := Lib.hid hG
        have HF := Lib.hid hF
        have HR := Lib.hid hR
        have HK := Lib.hid hK
        have HRT2 := Lib.hid hrt
        have HML := Lib.hid hml
        have HBM := Lib.hid hbs
        obtain ⟨Bm, cm, rfl⟩ := own_slice hG.mrow
        rw [show (Voc.mer ⟨acc, macc⟩) = macc from rfl, hml] at HG
        have hc2 := hR.blk.cell 2
        simp only [List.getElem?_toArray, List.getElem?_cons_zero, List.getElem?_cons_succ] at hc2
        obtain ⟨e2, her2⟩ : ∃ k, k = sm.e := ⟨_, rfl⟩
        rw [← her2] at hc2
        have HER2 := Lib.hid her2
        have HNF := Lib.hid (show ¬ F rb from fun h => by have h1 := HF.out rb h; have h2 := HRL.out; omega)
        clear hG hF hR hK hrt hml hbs her2
        rcases Nat.lt_or_ge j m with hlt | hge
        · have hlt' : (j : Int) < (m : Int) := by omega
          by_cases h0 : e2 = 0
          · subst h0
            obtain ⟨a, q1, ha, ha5⟩ := rInt_512 sm (m := 512) (by omega)
            obtain ⟨b, q2, hb, hb5⟩ := rInt_512 q1 (m := 512) (by omega)
            obtain ⟨t, q3, ht, ht5⟩ := rInt_512 q2 (m := 512) (by omega)
            have ha' : rInt sm 512 = ((a : Int), q1) := ha
            have hb' : rInt q1 512 = ((b : Int), q2) := hb
            have ht' : rInt q2 512 = ((t : Int), q3) := ht
            have hrm : rMer sm = (⟨a, b, t⟩, q3) := by unfold rMer; rw [ha']; simp only; rw [hb']; simp only; rw [ht']
            have hok1 := rInt_ok HR.out.ok 512
            rw [ha'] at hok1
            have hok2 := rInt_ok hok1.1 512
            simp only at hok2
            rw [hb'] at hok2
            have hok3 := rInt_ok hok2.1 512
            simp only at hok3
            rw [ht'] at hok3
            have HQ1 := Lib.hid (show q1.bs = l from hok1.2.trans HBM.out)
            have HQB := Lib.hid (show q2.bs = l from hok2.2.trans HQ1.out)
            have HQC := Lib.hid (show q3.bs = l from hok3.2.trans HQB.out)
            have HA := Lib.hid ha'
            have HBq := Lib.hid hb'
            have HTq := Lib.hid ht'
            have HRM := Lib.hid hrm
            have HNA := Lib.hid (show ∀ ad, A' = some ad → 0 < q3.bs.length → ¬ F ad.block from fun ad e h0 hf => by have h1 := HF.out _ hf; have h2 := HAL.out ad e (by rw [← HQC.out]; exact h0); omega)
            have bA := (Below.refl wr.heap.size wr).alloc (Nat.le_refl _) (.cells #[.int .i64 0, .int .i64 0, .int .i64 0] 25)
            obtain ⟨W6, hW6⟩ : ∃ z, z = wr.alloc (.cells #[.int .i64 0, .int .i64 0, .int .i64 0] 25) := ⟨_, rfl⟩
            obtain ⟨mb, hmb⟩ : ∃ z, z = wr.heap.size := ⟨_, rfl⟩
            have hn6 : Blk W6 mb 25 #[.int .i64 0, .int .i64 0, .int .i64 0] := by rw [hW6, hmb]; exact Blk.new _ _ _
            rw [← hW6] at bA
            have hw3 := HK.out.size
            have hmv : vb < mb := by have := HSZ.out; omega
            have HMV := Lib.hid hmv
            have HNM := Lib.hid (show ¬ F mb from fun h => by have h1 := HG.out.lt _ h; omega)
            have HG6 := Lib.hid (HG.out.kept bA)
            have HR6 := Lib.hid (HR.out.same (Kept.below (F := fun _ => False) bA) (fun h => h) (fun _ _ _ h => h))
            have HK6 := Lib.hid (HK.out.trans (Kept.below (F := fun _ => False) bA) (fun i _ e => e.elim))
            have HN6 := Lib.hid hn6
            have HW6 := Lib.hid hW6
            have HMB := Lib.hid hmb
            have HMS := Lib.hid (show W3.heap.size ≤ mb from by omega)
            clear ha hb ht ha' hb' ht' hrm hok1 hok2 hok3 bA hW6 hn6 hmb hw3 hmv
            go_wp2_with fail
            rw [← HW6.out]
            refine (r3Int_any W6 rb sm A' c' HR6.out 512 (by omega) (by omega)).mono ?_
            rintro e w7 ⟨rfl, hR7, hk7⟩
            rw [HA.out] at hR7
            rw [HA.out]
            simp only at hR7 ⊢
            have hn7 := HN6.out.kept hk7 (fun e => by have h1 := HRL.out; have h2 := HMV.out; omega)
            have hG7 := HG6.out.far hk7 HNF.out HR6.out.notB
            have hK7 := HK6.out.trans hk7 (fun i _ e => .inl e)
            have y7 := hn7.cell 0
            have z7 := hn7.frozen 0
            simp only [List.getElem?_toArray, List.getElem?_cons_zero, List.getElem?_cons_succ] at y7
            obtain ⟨X7, hX7⟩ : ∃ z, z = w7.setCell ⟨mb, 0, none⟩ (.int .i64 a) := ⟨_, rfl⟩
            have kX7 : Kept (fun i => i = mb) w7 X7 := by rw [hX7]; exact (Kept.refl (fun i => i = mb) w7).setCell (p := ⟨mb, 0, none⟩) (.inl rfl) _
            have HN7 : Hid (Blk X7 mb 25 #[.int .i64 a, .int .i64 0, .int .i64 0]) := Lib.hid (by rw [hX7]; have := hn7.set_ 0 (.int .i64 a); simpa using this)
            have HG7 := Lib.hid (hG7.far kX7 HNM.out (fun A0 x hx => not_bytes hn7 (fun i c => by
              match i with
              | 0 => simp [byteV]
              | 1 => simp [byteV]
              | 2 => simp [byteV]
              | i + 3 => simp) A0 x hx))
            have HR7 := Lib.hid (hR7.same kX7 (fun e => by have h1 := HRL.out; have h2 := HMV.out; omega) (fun ad e h0 hf => by have h1 := HAL.out ad e (by rw [← HQ1.out]; exact h0); have h2 := HMV.out; omega))
            have HK7 := Lib.hid (hK7.trans kX7 (fun i hi e => by have h2 := HMS.out; exact absurd hi (by rw [e]; omega)))
            have HX7 := Lib.hid hX7
            clear hR7 hk7 hn7 hG7 hK7 hX7 kX7
            try rw [← HMB.out]
            go_wp2_with fail
            rw [← HX7.out]
            clear y7 z7
            refine (r3Int_any X7 rb q1 A' c' HR7.out 512 (by omega) (by omega)).mono ?_
            rintro e w8 ⟨rfl, hR8, hk8⟩
            rw [HBq.out] at hR8
            rw [HBq.out]
            simp only at hR8 ⊢
            have hn8 := HN7.out.kept hk8 (fun e => by have h1 := HRL.out; have h2 := HMV.out; omega)
            have hG8 := HG7.out.far hk8 HNF.out HR7.out.notB
            have hK8 := HK7.out.trans hk8 (fun i _ e => .inl e)
            have y8 := hn8.cell 1
            have z8 := hn8.frozen 1
            simp only [List.getElem?_toArray, List.getElem?_cons_zero, List.getElem?_cons_succ] at y8
            obtain ⟨X8, hX8⟩ : ∃ z, z = w8.setCell ⟨mb, 1, none⟩ (.int .i64 b) := ⟨_, rfl⟩
            have kX8 : Kept (fun i => i = mb) w8 X8 := by rw [hX8]; exact (Kept.refl (fun i => i = mb) w8).setCell (p := ⟨mb, 1, none⟩) (.inl rfl) _
            have HN8 : Hid (Blk X8 mb 25 #[.int .i64 a, .int .i64 b, .int .i64 0]) := Lib.hid (by rw [hX8]; have := hn8.set_ 1 (.int .i64 b); simpa using this)
            have HG8 := Lib.hid (hG8.far kX8 HNM.out (fun A0 x hx => not_bytes hn8 (fun i c => by
              match i with
              | 0 => simp [byteV]
              | 1 => simp [byteV]
              | 2 => simp [byteV]
              | i + 3 => simp) A0 x hx))
            have HR8 := Lib.hid (hR8.same kX8 (fun e => by have h1 := HRL.out; have h2 := HMV.out; omega) (fun ad e h0 hf => by have h1 := HAL.out ad e (by rw [← HQB.out]; exact h0); have h2 := HMV.out; omega))
            have HK8 := Lib.hid (hK8.trans kX8 (fun i hi e => by have h2 := HMS.out; exact absurd hi (by rw [e]; omega)))
            have HX8 := Lib.hid hX8
            clear hR8 hk8 hn8 hG8 hK8 hX8 kX8
            try rw [← HMB.out]
            go_wp2_with fail
            rw [← HX8.out]
            clear y8 z8
            refine (r3Int_any X8 rb q2 A' c' HR8.out 512 (by omega) (by omega)).mono ?_
            rintro e w9 ⟨rfl, hR9, hk9⟩
            rw [HTq.out] at hR9
            rw [HTq.out]
            simp only at hR9 ⊢
            have hn9 := HN8.out.kept hk9 (fun e => by have h1 := HRL.out; have h2 := HMV.out; omega)
            have hG9 := HG8.out.far hk9 HNF.out HR8.out.notB
            have hK9 := HK8.out.trans hk9 (fun i _ e => .inl e)
            have y9 := hn9.cell 2
            have z9 := hn9.frozen 2
            simp only [List.getElem?_toArray, List.getElem?_cons_zero, List.getElem?_cons_succ] at y9
            obtain ⟨X9, hX9⟩ : ∃ z, z = w9.setCell ⟨mb, 2, none⟩ (.int .i64 t) := ⟨_, rfl⟩
            have kX9 : Kept (fun i => i = mb) w9 X9 := by rw [hX9]; exact (Kept.refl (fun i => i = mb) w9).setCell (p := ⟨mb, 2, none⟩) (.inl rfl) _
            have hN9 : Blk X9 mb 25 #[.int .i64 a, .int .i64 b, .int .i64 t] := by rw [hX9]; have := hn9.set_ 2 (.int .i64 t); simpa using this
            have hGX := hG9.far kX9 HNM.out (fun A0 x hx => not_bytes hn9 (fun i c => by
              match i with
              | 0 => simp [byteV]
              | 1 => simp [byteV]
              | 2 => simp [byteV]
              | i + 3 => simp) A0 x hx)
            have hRX := hR9.same kX9 (fun e => by have h1 := HRL.out; have h2 := HMV.out; omega) (fun ad e h0 hf => by have h1 := HAL.out ad e (by rw [← HQC.out]; exact h0); have h2 := HMV.out; omega)
            have hKX := hK9.trans kX9 (fun i hi e => by have h2 := HMS.out; exact absurd hi (by rw [e]; omega))
            have v0 := hN9.cell 0
            have v1 := hN9.cell 1
            have v2 := hN9.cell 2
            have t1 := hGX.blk.cell 1
            simp only [List.getElem?_toArray, List.getElem?_cons_zero, List.getElem?_cons_succ] at v0 v1 v2 t1
            have bB := (Below.refl X9.heap.size X9).alloc (Nat.le_refl _) (.cells #[.int .i64 a, .int .i64 b, .int .i64 t] 25)
            obtain ⟨u4, hu4⟩ : ∃ z, z = X9.alloc (.cells #[.int .i64 a, .int .i64 b, .int .i64 t] 25) := ⟨_, rfl⟩
            have hn4 : Blk u4 X9.heap.size 25 #[.int .i64 a, .int .i64 b, .int .i64 t] := by rw [hu4]; exact Blk.new _ _ _
            rw [← hu4] at bB
            have hg8 := hGX.kept bB
            have hr8 := hg8.mrow
            rw [show (Voc.mer ⟨acc, macc⟩) = macc from rfl, HML.out] at hr8
            have HG8 := Lib.hid hg8
            have HR8 := Lib.hid (hRX.same (Kept.below (F := fun _ => False) bB) (fun h => h) (fun _ _ _ h => h))
            have HK8 := Lib.hid (hKX.trans (Kept.below (F := fun _ => False) bB) (fun i _ e => e.elim))
            have HM8 := Lib.hid hr8
            have HNB := Lib.hid (own_blk_ne hr8 hg8.blk (by decide))
            have HBK := Lib.hid hg8.blk
            have HU4 := Lib.hid hu4
            have HN4 := Lib.hid hn4
            have HX9 := Lib.hid hX9
            clear hR9 hk9 hn9 hG9 hK9 kX9 hN9 hGX hRX hKX bB hu4 hn4 hg8 hr8 hX9
            try rw [← HMB.out]
            go_wp2_with (first
              | (at_builtin; rw [← HU4.out]; refine wpList_append_own_at _ rfl _ _ 31 rfl 0 25 j0 _ 3 24 Try.underlying31 hj0 hy0 hy1 hy2 rfl (by decide) _ j (macc.flatMap mgCells) rfl HM8.out ⟨X9.heap.size, 0, none⟩ 1 1 (mgCells ⟨a, b, t⟩) rfl rfl (fun j u hu => by rw [addr_add, HN4.out.cell]; simpa [mgCells] using hu) (by simp [mgCells, Value.oneCell']) (by unfold maxLen; omega) (by omega) (Nat.zero_le _) ?_; intro v' w8 hown' hg3 hnil hloc; clear hnil; obtain ⟨A8, c8, hv⟩ := own_slice hown'; rw [hv] at hown' hloc ⊢; clear hv; have HB8 := Lib.hid (HBK.out.grown hg3 (fun e => HNB.out e.symm)); have z8 := HB8.out.frozen 1; have y8 := HB8.out.cell 1; simp at y8; have HOWN8 := Lib.hid hown'; have HG9 := Lib.hid hg3; have HLOC8 := Lib.hid hloc; clear hown' hg3 hloc)
              | rw [← HX9.out])
            obtain ⟨h9, k9⟩ := HG8.out.addMer (mv' := .slice A8 (j + 1) c8) (m := ⟨a, b, t⟩) (w2 := w8) (mgFits_512 ha5 hb5 ht5) (by rw [show (Voc.mer ⟨acc, macc⟩) = macc from rfl, HML.out]; exact HOWN8.out) HG9.out HLOC8.out
            have sz := HK8.out.size
            have H9 := Lib.hid h9
            have HR9 := Lib.hid (HR8.out.same k9 HNF.out HNA.out)
            have HK9 := Lib.hid (HK8.out.trans k9 (fun i hi e => .inr (by have h1 := HF.out i e; have h2 := HSZ.out; omega)))
            have HF9 := Lib.hid (show ∀ i, Own F u4 (w8.setCell ⟨vb, 1, none⟩ (.slice A8 (j + 1) c8)) i → vb ≤ i from fun i hi => by
              rcases hi with hi | hi
              · exact HF.out i hi
              · have h1 := hi.1
                have h2 := HSZ.out
                omega)
            clear h9 k9 z8 y8 y9 z9 v0 v1 v2 t1 sz
            go_roundw
            case rel =>
              refine ⟨j + 1, _, _, _, q3, by omega, by go_num, ?_, ?_, HQC.out, H9.out, HF9.out, HR9.out, HK9.out⟩
              · rw [← HRT2.out, show m - j = (m - (j + 1)) + 1 from by omega, readMer, HRM.out]
              · rw [List.length_append, HML.out, List.length_singleton]
            case measure => simp [intOf]; omega
          · have d2 : (e2 == 0) = false := by simpa using h0
            have HMM := Lib.hid (show M.2 = sm from by rw [← HRT2.out]; exact readMer_bad _ _ _ (by rw [← HER2.out]; exact h0))
            have HMN := Lib.hid (show sm.e = 0 → M.1 = macc from fun e => absurd (HER2.out.trans e) h0)
            have hj5 : j ≤ 512 := by omega
            clear HRT2
            have HVw := Lib.hid ((HV3.out.kept HK.out (fun e => by have h1 := HRB.out; have h2 := HVW.out; omega)))
            have HBw := Lib.hid (HB3.out.trans (Kept.toBelow (B := w.heap.size) HK.out HB3.out.size (fun i e => by have h1 := HRB.out; have h2 := HVW.out; rcases e with e | e <;> omega)))
            have d3 : (e2 != 0) = true := by simpa using h0
            have HNE := Lib.hid h0
            have HME := Lib.hid (show M.2.e = e2 from by rw [HMM.out, ← HER2.out])
            clear h0
            go_wp2_with fail
            refine wp_region_held_drew (S := fun w' => w'.cell? ⟨rb, 2, none⟩ = some (.int .i64 e2)) (by kernel_rfl) hc2 (fun hHeld => ?_)
            obtain ⟨u0, hu0⟩ : ∃ z, z = wr.drew := ⟨_, rfl⟩
            rw [← hu0] at hHeld ⊢
            have hb0 : Below wr.heap.size wr u0 := by rw [hu0]; exact (Below.refl _ wr).drew
            have HVu := Lib.hid (HVw.out.below hb0 HVw.out.lt)
            have HBu := Lib.hid (below_then HBw.out hb0 HBw.out.size)
            have hbk := HR.out.blk
            rw [← HER2.out] at hbk
            have HBk := Lib.hid (hbk.below hb0 hbk.lt)
            clear hu0 hb0 hbk hc2
            refine wpAnyH_take (i := 0) (oi := ?oibe1_10) (v := ?vbe1_10) ?hibe1_10 (by kernel_rfl) (by kernel_rfl) (by kernel_rfl) ?hQbe1_10 (Or.inl ⟨?hwbe1_10, ?hybe1_10⟩) (by assumption) ?restbe1_10
            case hibe1_10 => (first | (simp only [List.getElem?_toArray, List.getElem?_cons_zero, List.getElem?_cons_succ]; rfl) | rfl)
            case hQbe1_10 => exact fun _ _ _ h => h
            case hwbe1_10 => rfl
            case hybe1_10 => ((intro w hSw; go_simp); first | done | with_reducible rfl)
            try simp only [Act.put, List.setIfInBounds_toArray, List.set_cons_zero, List.set_cons_succ]
            refine wpAnyH_take (i := 1) (oi := ?oibe1_21) (v := ?vbe1_21) ?hibe1_21 (by kernel_rfl) (by kernel_rfl) (by kernel_rfl) ?hQbe1_21 (Or.inl ⟨?hwbe1_21, ?hybe1_21⟩) (by assumption) ?restbe1_21
            case hibe1_21 => (first | (simp only [List.getElem?_toArray, List.getElem?_cons_zero, List.getElem?_cons_succ]; rfl) | rfl)
            case hQbe1_21 => exact fun _ _ _ h => h
            case hwbe1_21 => rfl
            case hybe1_21 => ((intro w hSw; go_simp); first | done | with_reducible rfl)
            try simp only [Act.put, List.setIfInBounds_toArray, List.set_cons_zero, List.set_cons_succ]
            refine wpAnyH_take (i := 2) (oi := ?oibe1_32) (v := ?vbe1_32) ?hibe1_32 (by kernel_rfl) (by kernel_rfl) (by kernel_rfl) ?hQbe1_32 (Or.inl ⟨?hwbe1_32, ?hybe1_32⟩) (by assumption) ?restbe1_32
            case hibe1_32 => (first | (simp only [List.getElem?_toArray, List.getElem?_cons_zero, List.getElem?_cons_succ]; rfl) | rfl)
            case hQbe1_32 => exact fun _ _ _ h => h
            case hwbe1_32 => rfl
            case hybe1_32 => ((intro w hSw; go_simp); first | done | with_reducible rfl)
            try simp only [Act.put, List.setIfInBounds_toArray, List.set_cons_zero, List.set_cons_succ]
            refine wpAnyH_take (i := 3) (oi := ?oibe1_43) (v := ?vbe1_43) ?hibe1_43 (by kernel_rfl) (by kernel_rfl) (by kernel_rfl) ?hQbe1_43 (Or.inl ⟨?hwbe1_43, ?hybe1_43⟩) (by assumption) ?restbe1_43
            case hibe1_43 => (first | (simp only [List.getElem?_toArray, List.getElem?_cons_zero, List.getElem?_cons_succ]; rfl) | rfl)
            case hQbe1_43 => exact fun _ _ _ h => h
            case hwbe1_43 => rfl
            case hybe1_43 => ((intro w hSw; go_simp); first | done | with_reducible rfl)
            try simp only [Act.put, List.setIfInBounds_toArray, List.set_cons_zero, List.set_cons_succ]
            refine wpAnyH_take (i := 4) (oi := ?oibe1_54) (v := ?vbe1_54) ?hibe1_54 (by kernel_rfl) (by kernel_rfl) (by kernel_rfl) ?hQbe1_54 (Or.inl ⟨?hwbe1_54, ?hybe1_54⟩) (by assumption) ?restbe1_54
            case hibe1_54 => (first | (simp only [List.getElem?_toArray, List.getElem?_cons_zero, List.getElem?_cons_succ]; rfl) | rfl)
            case hQbe1_54 => exact fun _ _ _ h => h
            case hwbe1_54 => rfl
            case hybe1_54 => ((intro w hSw; go_simp); first | done | with_reducible rfl)
            try simp only [Act.put, List.setIfInBounds_toArray, List.set_cons_zero, List.set_cons_succ]
            refine wpAnyH_ready (rs := [5]) (by kernel_rfl) (by simp) ?_
            refine AllReadyH.cons (o := ?obe1_6) ?hbe1_6 ?sbe1_6 AllReadyH.nil
            case hbe1_6 => (simp only [List.getElem?_toArray, List.getElem?_cons_zero, List.getElem?_cons_succ]; rfl)
            case sbe1_6 =>
              intro K hK
              have y0 := HVu.out.cell 0
              have y1 := HVu.out.cell 1
              have z0 := HVu.out.frozen 0
              have z1 := HVu.out.frozen 1
              simp only [List.getElem?_toArray, List.getElem?_cons_zero, List.getElem?_cons_succ] at y0 y1
              go_simp
              clear y0 y1 z0 z1
              have kp : Kept (fun i => i = w.heap.size) u0 ((u0.setCell ⟨w.heap.size, 0, none⟩ (.slice none 0 0)).setCell ⟨w.heap.size, 1, none⟩ (.slice none 0 0)) := ((Kept.refl (fun i => i = w.heap.size) u0).setCell (p := ⟨w.heap.size, 0, none⟩) (.inl rfl) _).setCell (p := ⟨w.heap.size, 1, none⟩) (.inl rfl) _
              have hc9 := (HBk.out.kept kp (fun e => by have h1 := HRB.out; omega)).cell 2
              simp only [List.getElem?_toArray, List.getElem?_cons_zero, List.getElem?_cons_succ] at hc9
              clear kp
              refine hK.out _ _ hc9 (fun hbe1_7 => ?_)
              clear hK K
              try simp only [Act.put, List.setIfInBounds_toArray, List.set_cons_zero, List.set_cons_succ]
              refine wpAnyH_take (i := 6) (oi := ?oibe1_86) (v := ?vbe1_86) ?hibe1_86 (by kernel_rfl) (by kernel_rfl) (by kernel_rfl) ?hQbe1_86 (Or.inl ⟨?hwbe1_86, ?hybe1_86⟩) (by assumption) ?restbe1_86
              case hibe1_86 => (first | (simp only [List.getElem?_toArray, List.getElem?_cons_zero, List.getElem?_cons_succ]; rfl) | rfl)
              case hQbe1_86 => exact fun _ _ _ h => h
              case hwbe1_86 => rfl
              case hybe1_86 => ((intro w hSw; go_simp); first | done | with_reducible rfl)
              try simp only [Act.put, List.setIfInBounds_toArray, List.set_cons_zero, List.set_cons_succ]
              refine wpAnyH_done (by kernel_rfl) ?_ _
              go_wp2
              refine bodyPost_ret (results_cell_row_tmp rfl _ _ w.heap.size 33 #[.slice none 0 0, .slice none 0 0] (0, 0) _ rfl ?_ Try.underlying33 rfl vocabCells) rfl ?_
              · have := (HVu.out.set_ 0 (.slice none 0 0)).set_ 1 (.slice none 0 0)
                simpa [Blk] using this
              · unfold RVOut
                rw [HR1.out, HME.out, if_pos HNE.out]
                exact ⟨.slice none 0 0, .slice none 0 0, [], fun _ => False, 0, rfl, (HBu.out.setCell (Nat.le_refl _) _).setCell (Nat.le_refl _) _, fun h => absurd h HNE.out, fun _ => ⟨rfl, rfl⟩⟩
        · have hkc : j = m := by omega
          have hjz : ¬ ((j : Int) < (m : Int)) := by omega
          have HMM := Lib.hid (show M.2 = sm from by rw [← HRT2.out, hkc, Nat.sub_self]; rfl)
          have HMN := Lib.hid (show sm.e = 0 → M.1 = macc from fun _ => by rw [← HRT2.out, hkc, Nat.sub_self]; rfl)
          have hj5 : j ≤ 512 := by omega
          clear hkc HRT2
          by_cases h0 : e2 ≠ 0
          · have d2 : (e2 == 0) = false := by simpa using h0
            have HVw := Lib.hid ((HV3.out.kept HK.out (fun e => by have h1 := HRB.out; have h2 := HVW.out; omega)))
            have HBw := Lib.hid (HB3.out.trans (Kept.toBelow (B := w.heap.size) HK.out HB3.out.size (fun i e => by have h1 := HRB.out; have h2 := HVW.out; rcases e with e | e <;> omega)))
            have d3 : (e2 != 0) = true := by simpa using h0
            have HNE := Lib.hid h0
            have HME := Lib.hid (show M.2.e = e2 from by rw [HMM.out, ← HER2.out])
            clear h0
            go_wp2_with fail
            refine wp_region_held_drew (S := fun w' => w'.cell? ⟨rb, 2, none⟩ = some (.int .i64 e2)) (by kernel_rfl) hc2 (fun hHeld => ?_)
            obtain ⟨u0, hu0⟩ : ∃ z, z = wr.drew := ⟨_, rfl⟩
            rw [← hu0] at hHeld ⊢
            have hb0 : Below wr.heap.size wr u0 := by rw [hu0]; exact (Below.refl _ wr).drew
            have HVu := Lib.hid (HVw.out.below hb0 HVw.out.lt)
            have HBu := Lib.hid (below_then HBw.out hb0 HBw.out.size)
            have hbk := HR.out.blk
            rw [← HER2.out] at hbk
            have HBk := Lib.hid (hbk.below hb0 hbk.lt)
            clear hu0 hb0 hbk hc2
            refine wpAnyH_take (i := 0) (oi := ?oibe2_10) (v := ?vbe2_10) ?hibe2_10 (by kernel_rfl) (by kernel_rfl) (by kernel_rfl) ?hQbe2_10 (Or.inl ⟨?hwbe2_10, ?hybe2_10⟩) (by assumption) ?restbe2_10
            case hibe2_10 => (first | (simp only [List.getElem?_toArray, List.getElem?_cons_zero, List.getElem?_cons_succ]; rfl) | rfl)
            case hQbe2_10 => exact fun _ _ _ h => h
            case hwbe2_10 => rfl
            case hybe2_10 => ((intro w hSw; go_simp); first | done | with_reducible rfl)
            try simp only [Act.put, List.setIfInBounds_toArray, List.set_cons_zero, List.set_cons_succ]
            refine wpAnyH_take (i := 1) (oi := ?oibe2_21) (v := ?vbe2_21) ?hibe2_21 (by kernel_rfl) (by kernel_rfl) (by kernel_rfl) ?hQbe2_21 (Or.inl ⟨?hwbe2_21, ?hybe2_21⟩) (by assumption) ?restbe2_21
            case hibe2_21 => (first | (simp only [List.getElem?_toArray, List.getElem?_cons_zero, List.getElem?_cons_succ]; rfl) | rfl)
            case hQbe2_21 => exact fun _ _ _ h => h
            case hwbe2_21 => rfl
            case hybe2_21 => ((intro w hSw; go_simp); first | done | with_reducible rfl)
            try simp only [Act.put, List.setIfInBounds_toArray, List.set_cons_zero, List.set_cons_succ]
            refine wpAnyH_take (i := 2) (oi := ?oibe2_32) (v := ?vbe2_32) ?hibe2_32 (by kernel_rfl) (by kernel_rfl) (by kernel_rfl) ?hQbe2_32 (Or.inl ⟨?hwbe2_32, ?hybe2_32⟩) (by assumption) ?restbe2_32
            case hibe2_32 => (first | (simp only [List.getElem?_toArray, List.getElem?_cons_zero, List.getElem?_cons_succ]; rfl) | rfl)
            case hQbe2_32 => exact fun _ _ _ h => h
            case hwbe2_32 => rfl
            case hybe2_32 => ((intro w hSw; go_simp); first | done | with_reducible rfl)
            try simp only [Act.put, List.setIfInBounds_toArray, List.set_cons_zero, List.set_cons_succ]
            refine wpAnyH_take (i := 3) (oi := ?oibe2_43) (v := ?vbe2_43) ?hibe2_43 (by kernel_rfl) (by kernel_rfl) (by kernel_rfl) ?hQbe2_43 (Or.inl ⟨?hwbe2_43, ?hybe2_43⟩) (by assumption) ?restbe2_43
            case hibe2_43 => (first | (simp only [List.getElem?_toArray, List.getElem?_cons_zero, List.getElem?_cons_succ]; rfl) | rfl)
            case hQbe2_43 => exact fun _ _ _ h => h
            case hwbe2_43 => rfl
            case hybe2_43 => ((intro w hSw; go_simp); first | done | with_reducible rfl)
            try simp only [Act.put, List.setIfInBounds_toArray, List.set_cons_zero, List.set_cons_succ]
            refine wpAnyH_take (i := 4) (oi := ?oibe2_54) (v := ?vbe2_54) ?hibe2_54 (by kernel_rfl) (by kernel_rfl) (by kernel_rfl) ?hQbe2_54 (Or.inl ⟨?hwbe2_54, ?hybe2_54⟩) (by assumption) ?restbe2_54
            case hibe2_54 => (first | (simp only [List.getElem?_toArray, List.getElem?_cons_zero, List.getElem?_cons_succ]; rfl) | rfl)
            case hQbe2_54 => exact fun _ _ _ h => h
            case hwbe2_54 => rfl
            case hybe2_54 => ((intro w hSw; go_simp); first | done | with_reducible rfl)
            try simp only [Act.put, List.setIfInBounds_toArray, List.set_cons_zero, List.set_cons_succ]
            refine wpAnyH_ready (rs := [5]) (by kernel_rfl) (by simp) ?_
            refine AllReadyH.cons (o := ?obe2_6) ?hbe2_6 ?sbe2_6 AllReadyH.nil
            case hbe2_6 => (simp only [List.getElem?_toArray, List.getElem?_cons_zero, List.getElem?_cons_succ]; rfl)
            case sbe2_6 =>
              intro K hK
              have y0 := HVu.out.cell 0
              have y1 := HVu.out.cell 1
              have z0 := HVu.out.frozen 0
              have z1 := HVu.out.frozen 1
              simp only [List.getElem?_toArray, List.getElem?_cons_zero, List.getElem?_cons_succ] at y0 y1
              go_simp
              clear y0 y1 z0 z1
              have kp : Kept (fun i => i = w.heap.size) u0 ((u0.setCell ⟨w.heap.size, 0, none⟩ (.slice none 0 0)).setCell ⟨w.heap.size, 1, none⟩ (.slice none 0 0)) := ((Kept.refl (fun i => i = w.heap.size) u0).setCell (p := ⟨w.heap.size, 0, none⟩) (.inl rfl) _).setCell (p := ⟨w.heap.size, 1, none⟩) (.inl rfl) _
              have hc9 := (HBk.out.kept kp (fun e => by have h1 := HRB.out; omega)).cell 2
              simp only [List.getElem?_toArray, List.getElem?_cons_zero, List.getElem?_cons_succ] at hc9
              clear kp
              refine hK.out _ _ hc9 (fun hbe2_7 => ?_)
              clear hK K
              try simp only [Act.put, List.setIfInBounds_toArray, List.set_cons_zero, List.set_cons_succ]
              refine wpAnyH_take (i := 6) (oi := ?oibe2_86) (v := ?vbe2_86) ?hibe2_86 (by kernel_rfl) (by kernel_rfl) (by kernel_rfl) ?hQbe2_86 (Or.inl ⟨?hwbe2_86, ?hybe2_86⟩) (by assumption) ?restbe2_86
              case hibe2_86 => (first | (simp only [List.getElem?_toArray, List.getElem?_cons_zero, List.getElem?_cons_succ]; rfl) | rfl)
              case hQbe2_86 => exact fun _ _ _ h => h
              case hwbe2_86 => rfl
              case hybe2_86 => ((intro w hSw; go_simp); first | done | with_reducible rfl)
              try simp only [Act.put, List.setIfInBounds_toArray, List.set_cons_zero, List.set_cons_succ]
              refine wpAnyH_done (by kernel_rfl) ?_ _
              go_wp2
              refine bodyPost_ret (results_cell_row_tmp rfl _ _ w.heap.size 33 #[.slice none 0 0, .slice none 0 0] (0, 0) _ rfl ?_ Try.underlying33 rfl vocabCells) rfl ?_
              · have := (HVu.out.set_ 0 (.slice none 0 0)).set_ 1 (.slice none 0 0)
                simpa [Blk] using this
              · unfold RVOut
                rw [HR1.out, HME.out, if_pos HNE.out]
                exact ⟨.slice none 0 0, .slice none 0 0, [], fun _ => False, 0, rfl, (HBu.out.setCell (Nat.le_refl _) _).setCell (Nat.le_refl _) _, fun h => absurd h HNE.out, fun _ => ⟨rfl, rfl⟩⟩
          have he0 : e2 = 0 := by simpa using h0
          subst he0
          clear h0
          have HVw := Lib.hid ((HV3.out.kept HK.out (fun e => by have h1 := HRB.out; have h2 := HVW.out; omega)))
          have HBw := Lib.hid (HB3.out.trans (Kept.toBelow (B := w.heap.size) HK.out HB3.out.size (fun i e => by have h1 := HRB.out; have h2 := HVW.out; rcases e with e | e <;> omega)))
          have HSK := Lib.hid (show sk.e = 0 from Classical.byContradiction fun h => h (by
            have h1 := readM_bad h
            rw [← HTT.out, ← HM.out, HMM.out, HTT.out] at h1
            rw [← h1]; exact HER2.out.symm))
          have HTA := Lib.hid (HTL.out HSK.out)
          have HMA := Lib.hid (HMN.out HER2.out.symm)
          obtain ⟨lf, hlf⟩ : ∃ k, k = rLeft sm := ⟨_, rfl⟩
          have HLF := Lib.hid hlf
          obtain ⟨E, hE⟩ : ∃ E, E = checkV ⟨acc, macc⟩ := ⟨_, rfl⟩
          have HE := Lib.hid hE
          have hR2 : R = if 0 < lf then (⟨[], []⟩, 3) else if E ≠ 0 then (⟨[], []⟩, E) else (⟨acc, macc⟩, 0) := by
            rw [HR1.out, HMM.out, if_neg (by rw [← HER2.out]; simp), HTA.out, HMA.out, ← hlf, ← hE]
          have HR2 := Lib.hid hR2
          clear hlf hE hR2
          go_wp2_with fail
          have h := r3Left_any wr rb sm A' c' HR.out
          rw [← HLF.out] at h
          refine h.mono ?_
          rintro e w5 ⟨rfl, q, hw⟩
          have b5 : Below wr.heap.size wr w5 := by rw [hw]; exact below_drewN (Below.refl _ _) q
          have HV5 := Lib.hid (HVw.out.below b5 HVw.out.lt)
          have HB5 := Lib.hid (below_then HBw.out b5 HBw.out.size)
          have HG5 := Lib.hid (HG.out.kept b5)
          clear hw h b5 hc2 q
          by_cases hleft : 0 < lf
          · have d3 : (0 : Int) < (lf : Int) := by omega
            have HLP := Lib.hid hleft
            have HNE : Hid ((3 : Int) ≠ 0) := Lib.hid (by omega)
            clear hleft
            have y0 := HV5.out.cell 0
            have y1 := HV5.out.cell 1
            have z0 := HV5.out.frozen 0
            have z1 := HV5.out.frozen 1
            simp only [List.getElem?_toArray, List.getElem?_cons_zero, List.getElem?_cons_succ] at y0 y1
            go_wp2
            refine bodyPost_ret (results_cell_row_tmp rfl _ _ w.heap.size 33 #[.slice none 0 0, .slice none 0 0] (0, 0) _ rfl ?_ Try.underlying33 rfl vocabCells) rfl ?_
            · have := (HV5.out.set_ 0 (.slice none 0 0)).set_ 1 (.slice none 0 0)
              simpa [Blk] using this
            · unfold RVOut
              rw [HR2.out, if_pos HLP.out]
              exact ⟨.slice none 0 0, .slice none 0 0, [], fun _ => False, 0, rfl, (HB5.out.setCell (Nat.le_refl _) _).setCell (Nat.le_refl _) _, fun h => absurd h HNE.out, fun _ => ⟨rfl, rfl⟩⟩
          have d3 : ¬ (0 : Int) < (lf : Int) := by omega
          have HLP := Lib.hid hleft
          clear hleft
          obtain ⟨A1, B1, q1, q2, hh1, hh2, hsee⟩ := HG5.out.see (by simp only; rw [HLEN.out]; omega) (by simp only; rw [HML.out]; omega)
          rw [show (Voc.tok ⟨acc, macc⟩) = acc from rfl, HLEN.out] at hh1 hsee
          rw [show (Voc.mer ⟨acc, macc⟩) = macc from rfl, HML.out] at hh2 hsee
          cases hh1
          cases hh2
          have HSEE := Lib.hid hsee
          have x0 := HG5.out.blk.cell 0
          have x1 := HG5.out.blk.cell 1
          simp only [List.getElem?_toArray, List.getElem?_cons_zero, List.getElem?_cons_succ] at x0 x1
          clear hsee
          go_wp2_with fail
          have h := r5Check_any w5 At Bm k j ct cm ⟨acc, macc⟩ HSEE.out
          rw [← HE.out] at h
          unfold vocV at h
          refine h.mono ?_
          rintro e w6 ⟨rfl, hb6⟩
          have HB6 := Lib.hid (below_then HB5.out hb6 HB5.out.size)
          have HV6 := Lib.hid (HV5.out.below hb6 HV5.out.lt)
          have HG6 := Lib.hid (HG5.out.kept hb6)
          clear hb6 h x0 x1 d3
          by_cases hbad : E ≠ 0
          · have d4 : (E != 0) = true := by simpa using hbad
            have HNE := Lib.hid hbad
            clear hbad
            have y0 := HV6.out.cell 0
            have y1 := HV6.out.cell 1
            have z0 := HV6.out.frozen 0
            have z1 := HV6.out.frozen 1
            simp only [List.getElem?_toArray, List.getElem?_cons_zero, List.getElem?_cons_succ] at y0 y1
            go_wp2
            refine bodyPost_ret (results_cell_row_tmp rfl _ _ w.heap.size 33 #[.slice none 0 0, .slice none 0 0] (0, 0) _ rfl ?_ Try.underlying33 rfl vocabCells) rfl ?_
            · have := (HV6.out.set_ 0 (.slice none 0 0)).set_ 1 (.slice none 0 0)
              simpa [Blk] using this
            · unfold RVOut
              rw [HR2.out, if_neg HLP.out, if_pos HNE.out]
              exact ⟨.slice none 0 0, .slice none 0 0, [], fun _ => False, 0, rfl, (HB6.out.setCell (Nat.le_refl _) _).setCell (Nat.le_refl _) _, fun h => absurd h HNE.out, fun _ => ⟨rfl, rfl⟩⟩
          have hE0 : E = 0 := by simpa using hbad
          subst hE0
          clear hbad
          have x0 := HG6.out.blk.cell 0
          have x1 := HG6.out.blk.cell 1
          have y0 := HV6.out.cell 0
          have y1 := HV6.out.cell 1
          have z0 := HV6.out.frozen 0
          have z1 := HV6.out.frozen 1
          simp only [List.getElem?_toArray, List.getElem?_cons_zero, List.getElem?_cons_succ] at x0 x1 y0 y1
          go_wp2
          have hnF : ¬ F w.heap.size := fun hf => by have h1 := HF.out _ hf; have h2 := HVW.out; omega
          have hk1 : Kept (fun i => i = w.heap.size) w6 (w6.setCell ⟨w.heap.size, 0, none⟩ (.slice At k ct)) := (Kept.refl (fun i => i = w.heap.size) w6).setCell (p := ⟨w.heap.size, 0, none⟩) (.inl rfl) _
          have hk2 : Kept (fun i => i = w.heap.size) w6 ((w6.setCell ⟨w.heap.size, 0, none⟩ (.slice At k ct)).setCell ⟨w.heap.size, 1, none⟩ (.slice Bm j cm)) := hk1.setCell (p := ⟨w.heap.size, 1, none⟩) (.inl rfl) _
          have h4 := HG6.out.far hk2 hnF (fun A0 x hx => not_bytes HV6.out (fun i c => by
            match i with
            | 0 => simp [byteV]
            | 1 => simp [byteV]
            | i + 2 => simp) A0 x hx)
          refine bodyPost_ret (results_cell_row_tmp rfl _ _ w.heap.size 33 #[.slice At k ct, .slice Bm j cm] (0, 0) _ rfl ?_ Try.underlying33 rfl vocabCells) rfl ?_
          · have := (HV6.out.set_ 0 (.slice At k ct)).set_ 1 (.slice Bm j cm)
            simpa [Blk] using this
          · unfold RVOut
            rw [HR2.out, if_neg HLP.out, if_neg (by simp)]
            exact ⟨.slice At k ct, .slice Bm j cm, svs, F, vb, rfl, (HB6.out.setCell (Nat.le_refl _) _).setCell (Nat.le_refl _) _, fun _ => ⟨h4, fun i hi => by have h1 := HF.out i hi; have h2 := HVW.out; omega⟩, fun h => absurd rfl h⟩
end Go.Proofs.Ytecpihghlelefaa
