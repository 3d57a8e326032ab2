/- The program's reading of a vocabulary. -/
import Derived.Test.YtecpihghlelefaaVGet0
namespace Go.Proofs.Ytecpihghlelefaa
open Go.RowKit Go.Maps Go.WideMaps
set_option linter.unusedSimpArgs false

def VReadOut (w : World) (rb : Nat) (g : Nat → Prop) (L : List Nm) (r : List Mg × Rd) (e : Ending) (w' : World) : Prop :=
  ∃ tv mv svs F b, e = .returned (.agg #[tv, mv]) ∧ IsRV w' F b ⟨L, r.1⟩ tv mv svs ∧ (∀ i, F i → w.heap.size ≤ i) ∧ IsR w' rb g r.2 ∧ Kept (fun i => i = rb) w w'

set_option maxHeartbeats 8000000 in
set_option maxRecDepth 100000 in
theorem vRead_any (w : World) (rb : Nat) (g : Nat → Prop) (s : Rd) (hR : IsR w rb g s) :
    Calls Try.prog 28 #[at0 rb] w (VReadOut w rb g (readT s).1 (readM (readT s).2)) := by
  obtain ⟨i0, hi, hz0, hz1, hz2⟩ := info_parts rowInfo
  obtain ⟨j0, hj0, hy0, hy1, hy2⟩ := info_parts mergeInfo
  obtain ⟨T, hT⟩ : ∃ T, T = readT s := ⟨_, rfl⟩
  obtain ⟨M, hM⟩ : ∃ M, M = readM T.2 := ⟨_, rfl⟩
  rw [← hT, ← hM]
  obtain ⟨n, s1, hq, hn⟩ := rInt_512 s (m := 512) (by omega)
  have hq' : rInt s 512 = ((n : Int), s1) := hq
  have hT1 : readTok n s1 [] = T := by rw [hT]; unfold readT; rw [hq']; rfl
  have HT1 := Lib.hid hT1
  have HM := Lib.hid hM
  have HQ := Lib.hid hq'
  have hrl : rb < w.heap.size := by obtain ⟨A, c, h1, _⟩ := hR.at_; exact h1.lt
  have HGL := Lib.hid hR.lt
  have hb1 := (Below.refl w.heap.size w).alloc (Nat.le_refl _) (.cells #[.slice none 0 0, .slice none 0 0] 33)
  obtain ⟨W1, hW1⟩ : ∃ W1, W1 = w.alloc (.cells #[.slice none 0 0, .slice none 0 0] 33) := ⟨_, rfl⟩
  have hv0 : Blk W1 w.heap.size 33 #[.slice none 0 0, .slice none 0 0] := by rw [hW1]; exact Blk.new _ _ _
  have hs1 : W1.heap.size = w.heap.size + 1 := by rw [hW1]; simp
  rw [← hW1] at hb1
  have hb2 := (Below.refl W1.heap.size W1).alloc (Nat.le_refl _) (.cells #[.slice none 0 0, .slice none 0 0] 33)
  obtain ⟨W2, hW2⟩ : ∃ W2, W2 = W1.alloc (.cells #[.slice none 0 0, .slice none 0 0] 33) := ⟨_, rfl⟩
  have hv4 : Blk W2 W1.heap.size 33 #[.slice none 0 0, .slice none 0 0] := by rw [hW2]; exact Blk.new _ _ _
  have hs2 : W2.heap.size = w.heap.size + 2 := by rw [hW2]; simp; omega
  rw [← hW2] at hb2
  rw [hs1] at hv4
  have hrv : IsRV W2 (fun i => i = w.heap.size + 1) (w.heap.size + 1) ⟨[], []⟩ (.slice none 0 0) (.slice none 0 0) [] := {
    blk := hv4
    trow := World.ownsRow_nil _ _ _ _
    toks := fun i sv x h1 _ => by simp at h1
    mrow := World.ownsRow_nil _ _ _ _
    fits := fun m h => by simp at h
    fb := rfl
    fv := fun g h => by simp [Value.ownBlock] at h
    fm := fun g h => by simp [Value.ownBlock] at h
    lt := fun i hi => by rw [hi]; exact hv4.lt }
  have hb12 : Below w.heap.size w W2 := hb1.trans (hb2.mono hb1.size)
  have HB2 := Lib.hid hb12
  have HV0 := Lib.hid (hv0.below hb2 hv0.lt)
  have HSZ := Lib.hid hs2
  have HR2 := Lib.hid (hR.kept (Kept.below (F := fun _ => False) hb12) (fun h => h) (fun _ _ h => h))
  have HRV := Lib.hid hrv
  rw [hW1] at hW2
  have HW2 := Lib.hid hW2
  have hnr : ¬ rb = w.heap.size + 1 := by omega
  have HNR := Lib.hid hnr
  have HRL := Lib.hid hrl
  have hcz : (0 : Int) ≤ (n : Int) := by omega
  clear hb1 hW1 hv0 hs1 hb2 hW2 hv4 hs2 hrv hb12 hR hT hM hq hq' hT1 hnr hrl W1
  unfold at0
  go_enter Try.func28, Try.ntmps28
  go_wp2_with fail
  rw [← HW2.out]
  refine (lInt_any W2 rb g s HR2.out 512 (by omega) (by omega)).mono ?_
  rintro e w3 ⟨rfl, hR3, hk3⟩
  rw [HQ.out] at hR3
  rw [HQ.out]
  simp only at hR3 ⊢
  have HR3 := Lib.hid hR3
  have HG3 := Lib.hid (HRV.out.far hk3 (fun e => HNR.out e) HR2.out.notB)
  have HK3 := Lib.hid (hk3.mono (F' := fun i => i = rb ∨ i = w.heap.size + 1) (fun i h => .inl h))
  clear hR3 hk3 HR2 HRV
  go_wp2_with fail
  go_loopw [9] (fun i wr => ∃ (k : Nat) (F : Nat → Prop) (tv : Value) (svs : List Value) (acc : List Nm) (sk : Rd), k ≤ n ∧ i = .int .i64 k ∧ readTok (n - k) sk acc = T ∧ acc.length = k ∧ IsRV wr F (w.heap.size + 1) ⟨acc, []⟩ tv (.slice none 0 0) svs ∧ (∀ i, F i → w.heap.size + 1 ≤ i) ∧ IsR wr rb g sk ∧ Kept (fun i => i = rb ∨ i = w.heap.size + 1) W2 wr) (fun i _ => n - (intOf i).toNat)
  case atStart => exact ⟨0, _, _, _, [], s1, by omega, rfl, HT1.out, rfl, HG3.out, fun i hi => by omega, HR3.out, HK3.out⟩
  case round =>
    clear HR3 HG3 HK3 HT1
    obtain ⟨k, F, tv, svs, acc, sk, hk, rfl, hrt, hlen, hG, hF, hR, hK⟩ := hrel
    have HG := Lib.hid hG
    have HF := Lib.hid hF
    have HR := Lib.hid hR
    have HK := Lib.hid hK
    have HRT := Lib.hid hrt
    have HLEN := Lib.hid hlen
    obtain ⟨At, ct, rfl⟩ := own_slice hG.trow
    rw [show (Voc.tok ⟨acc, []⟩) = acc from rfl, hlen] at HG
    clear hG hF hR hK hrt hlen
    rcases Nat.lt_or_ge k n with hlt | hge
    · have hlt' : (k : Int) < (n : Int) := by omega
      obtain ⟨x, s', hx, hx16⟩ := rText_16 sk
      have HX := Lib.hid hx
      have HNF := Lib.hid (show ¬ F rb from fun h => by have h1 := HF.out rb h; have h2 := HRL.out; omega)
      have HNG := Lib.hid (show ∀ i, g i → ¬ F i from fun i h hf => by have h1 := HF.out i hf; have h2 := HGL.out i h; omega)
      clear hx
      go_wp2_with fail
      refine wp_region_held_drew (S := fun _ => True) (by kernel_rfl) trivial (fun hHeld => ?_)
      obtain ⟨u0, hu0⟩ : ∃ z, z = wr.drew := ⟨_, rfl⟩
      rw [← hu0]
      have hb0 : Below wr.heap.size wr u0 := by rw [hu0]; exact (Below.refl _ wr).drew
      have HG0 := Lib.hid (HG.out.kept hb0)
      have HR0 := Lib.hid ((HR.out).kept (Kept.below (F := fun _ => False) (hb0)) (fun h => h) (fun _ _ h => h))
      have HK0 := Lib.hid (HK.out.trans (Kept.below (F := fun _ => False) hb0) (fun i _ e => e.elim))
      clear hu0 hb0
      refine wpAnyH_take (i := 0) (oi := ?oit10) (v := ?vt10) ?hit10 (by kernel_rfl) (by kernel_rfl) (by kernel_rfl) ?hQt10 (Or.inl ⟨?hwt10, ?hyt10⟩) (by assumption) ?restt10
      case hit10 => (first | (simp only [List.getElem?_toArray, List.getElem?_cons_zero, List.getElem?_cons_succ]; rfl) | rfl)
      case hQt10 => exact fun _ _ _ h => h
      case hwt10 => rfl
      case hyt10 => ((intro w hSw; go_simp); first | done | with_reducible rfl)
      try simp only [Act.put, List.setIfInBounds_toArray, List.set_cons_zero, List.set_cons_succ]
      refine wpAnyH_take (i := 2) (oi := ?oit22) (v := ?vt22) ?hit22 (by kernel_rfl) (by kernel_rfl) (by kernel_rfl) ?hQt22 (Or.inl ⟨?hwt22, ?hyt22⟩) (by assumption) ?restt22
      case hit22 => (first | (simp only [List.getElem?_toArray, List.getElem?_cons_zero, List.getElem?_cons_succ]; rfl) | rfl)
      case hQt22 => exact fun _ _ _ h => h
      case hwt22 => rfl
      case hyt22 => ((intro w hSw; go_simp); first | done | with_reducible rfl)
      try simp only [Act.put, List.setIfInBounds_toArray, List.set_cons_zero, List.set_cons_succ]
      refine wpAnyH_ready (rs := [1, 3]) (by kernel_rfl) (by simp) ?_
      refine AllReadyH.cons (o := ?ot3) ?ht3 ?st3 (AllReadyH.cons (o := ?ot4) ?ht4 ?st4 AllReadyH.nil)
      case ht3 => (simp only [List.getElem?_toArray, List.getElem?_cons_zero, List.getElem?_cons_succ]; rfl)
      case ht4 => (simp only [List.getElem?_toArray, List.getElem?_cons_zero, List.getElem?_cons_succ]; rfl)
      case st3 =>
        intro K hK
        have yq1 := HG0.out.blk.cell 0
        simp only [List.getElem?_toArray, List.getElem?_cons_zero] at yq1
        go_simp
        clear yq1
        refine hK.out _ _ trivial (fun ht5 => ?_)
        clear hK K
        try simp only [Act.put, List.setIfInBounds_toArray, List.set_cons_zero, List.set_cons_succ]
        refine wpAnyH_ready (rs := [3]) (by kernel_rfl) (by simp) ?_
        refine AllReadyH.cons (o := ?ot6) ?ht6 ?st6 AllReadyH.nil
        case ht6 => (simp only [List.getElem?_toArray, List.getElem?_cons_zero, List.getElem?_cons_succ]; rfl)
        case st6 =>
          intro K hK
          go_simp
          have hq12 := lText_any u0 rb g sk HR0.out 16 (by omega) (by omega)
          rw [HX.out] at hq12
          refine hq12.mono ?_
          rintro eq13 uq2 ⟨v, rfl, hoq9, hrq10, hkq11⟩
          clear hq12
          simp only at hoq9 hrq10
          obtain ⟨Aq7, cq8, rfl, Tq6⟩ := text_tok (fun i hi => HG0.out.lt i hi) hoq9 hx16
          have Gq3 := Lib.hid (HG0.out.far hkq11 HNF.out (HR0.out.notB))
          have Kq5 := Lib.hid (HK0.out.trans hkq11 (fun i _ e => .inl e))
          have Rq4 := Lib.hid hrq10
          have HTq6 := Lib.hid Tq6
          clear hoq9 hrq10 hkq11 Tq6
          go_wp2_with fail
          refine hK.out _ _ trivial (fun ht7 => ?_)
          clear hK K
          try simp only [Act.put, List.setIfInBounds_toArray, List.set_cons_zero, List.set_cons_succ]
          refine wpAnyH_ready (rs := [4]) (by kernel_rfl) (by simp) ?_
          refine AllReadyH.cons (o := ?ot8) ?ht8 ?st8 AllReadyH.nil
          case ht8 => (simp only [List.getElem?_toArray, List.getElem?_cons_zero, List.getElem?_cons_succ]; rfl)
          case st8 =>
            intro K hK
            go_simp
            obtain ⟨uq14, huq20⟩ : ∃ z, z = uq2.alloc (.cells #[.slice Aq7 x.length cq8] 23) := ⟨_, rfl⟩
            have Nq19 : Hid (Blk uq14 uq2.heap.size 23 #[.slice Aq7 x.length cq8]) := Lib.hid (by rw [huq20]; exact Blk.new _ _ _)
            rw [← huq20]
            have hbq21 : Below uq2.heap.size uq2 uq14 := by rw [huq20]; exact (Below.refl _ uq2).alloc (Nat.le_refl _) _
            have Gq15 := Lib.hid (Gq3.out.kept hbq21)
            have Rq16 := Lib.hid ((Rq4.out).kept (Kept.below (F := fun _ => False) (hbq21)) (fun h => h) (fun _ _ h => h))
            have Kq17 := Lib.hid (Kq5.out.trans (Kept.below (F := fun _ => False) hbq21) (fun i _ e => e.elim))
            have Tq18 := Lib.hid (HTq6.out.mono (G := fun _ => False) (Kept.below hbq21) (fun _ => False.elim) (fun _ hf => .inl hf))
            clear huq20 hbq21
            refine hK.out _ _ trivial (fun ht9 => ?_)
            clear hK K
            try simp only [Act.put, List.setIfInBounds_toArray, List.set_cons_zero, List.set_cons_succ]
            refine wpAnyH_ready (rs := [5]) (by kernel_rfl) (by simp) ?_
            refine AllReadyH.cons (o := ?ot10) ?ht10 ?st10 AllReadyH.nil
            case ht10 => (simp only [List.getElem?_toArray, List.getElem?_cons_zero, List.getElem?_cons_succ]; rfl)
            case st10 =>
              intro K hK
              have trq31 := Gq15.out.trow
              rw [show (Voc.tok ⟨acc, []⟩) = acc from rfl, HLEN.out] at trq31
              have nbq30 := own_blk_ne trq31 Gq15.out.blk (by decide)
              refine step_append_srcN _ rfl (.tmp 12) (.tmp 15) 30 rfl 0 23 i0 (.slice none 0 0) 1 24 Try.underlying30 hi hz0 hz1 hz2 rfl (by omega) _ k svs rfl trq31 (some ⟨uq2.heap.size, 0, none⟩) 1 1 [.slice Aq7 x.length cq8] rfl ⟨rfl, fun ad e j u hu => by cases e; rw [addr_add, Nq19.out.cell]; simpa using hu, fun e => by cases e⟩ (by simp [Value.oneCell']) (by unfold maxLen; omega) (by omega) (Nat.zero_le _) ?_
              intro vq28 uq22 hwq23 hgq24 hlq25
              obtain ⟨Aq26, cq27, rfl⟩ := own_slice hwq23
              have Bq29 := Lib.hid (Gq15.out.blk.grown hgq24 (fun e => nbq30 e.symm))
              have Hhwq23 := Lib.hid hwq23
              have Hhgq24 := Lib.hid hgq24
              have Hhlq25 := Lib.hid hlq25
              clear trq31 nbq30 hwq23 hgq24 hlq25
              refine hK.out _ _ trivial (fun ht11 => ?_)
              clear hK K
              try simp only [Act.put, List.setIfInBounds_toArray, List.set_cons_zero, List.set_cons_succ]
              refine wpAnyH_take (i := 6) (oi := ?oit126) (v := ?vt126) ?hit126 (by kernel_rfl) (by kernel_rfl) (by kernel_rfl) ?hQt126 (Or.inl ⟨?hwt126, ?hyt126⟩) (by assumption) ?restt126
              case hit126 => (first | (simp only [List.getElem?_toArray, List.getElem?_cons_zero, List.getElem?_cons_succ]; rfl) | rfl)
              case hQt126 => exact fun _ _ _ h => h
              case hwt126 => rfl
              case hyt126 => ((intro w hSw; go_simp); first | done | with_reducible rfl)
              try simp only [Act.put, List.setIfInBounds_toArray, List.set_cons_zero, List.set_cons_succ]
              refine wpAnyH_ready (rs := [7]) (by kernel_rfl) (by simp) ?_
              refine AllReadyH.cons (o := ?ot13) ?ht13 ?st13 AllReadyH.nil
              case ht13 => (simp only [List.getElem?_toArray, List.getElem?_cons_zero, List.getElem?_cons_succ]; rfl)
              case st13 =>
                intro K hK
                have yq32 := Bq29.out.cell 0
                have zq33 := Bq29.out.frozen 0
                simp only [List.getElem?_toArray, List.getElem?_cons_zero] at yq32
                go_simp
                clear yq32 zq33
                obtain ⟨hq34, kq35⟩ := Gq15.out.addTok (w2 := uq22) Tq18.out (by rw [show (Voc.tok ⟨acc, []⟩) = acc from rfl, HLEN.out]; exact Hhwq23.out) Hhgq24.out Hhlq25.out
                have szq40 := Kq17.out.size
                have Gq36 := Lib.hid hq34
                have Rq37 := Lib.hid (Rq16.out.kept kq35 HNF.out HNG.out)
                have Kq38 := Lib.hid (Kq17.out.trans kq35 (fun i hi e => .inr (by have h1 := HF.out i e; have h2 := HSZ.out; omega)))
                have Fq39 := Lib.hid (show ∀ i, Own F uq14 (uq22.setCell ⟨(w.heap.size + 1), 0, none⟩ (.slice Aq26 (k + 1) cq27)) i → w.heap.size + 1 ≤ i from fun i hi => by
                  rcases hi with hi | hi
                  · exact HF.out i hi
                  · have h1 := hi.1
                    have h2 := HSZ.out
                    omega)
                clear hq34 kq35 szq40
                refine hK.out _ _ trivial (fun ht14 => ?_)
                clear hK K
                try simp only [Act.put, List.setIfInBounds_toArray, List.set_cons_zero, List.set_cons_succ]
                refine wpAnyH_done (by kernel_rfl) ?_ _
                go_wp2_with fail
                go_roundw
                case rel =>
                  refine ⟨k + 1, _, _, _, _, s', by omega, by go_num, ?_, ?_, Gq36.out, Fq39.out, Rq37.out, Kq38.out⟩
                  · rw [← HRT.out, show n - k = (n - (k + 1)) + 1 from by omega, readTok, HX.out]
                  · rw [List.length_append, HLEN.out, List.length_singleton]
                case measure => simp [intOf]; omega
      case st4 =>
        intro K hK
        go_simp
        have hq51 := lText_any u0 rb g sk HR0.out 16 (by omega) (by omega)
        rw [HX.out] at hq51
        refine hq51.mono ?_
        rintro eq52 uq41 ⟨v, rfl, hoq48, hrq49, hkq50⟩
        clear hq51
        simp only at hoq48 hrq49
        obtain ⟨Aq46, cq47, rfl, Tq45⟩ := text_tok (fun i hi => HG0.out.lt i hi) hoq48 hx16
        have Gq42 := Lib.hid (HG0.out.far hkq50 HNF.out (HR0.out.notB))
        have Kq44 := Lib.hid (HK0.out.trans hkq50 (fun i _ e => .inl e))
        have Rq43 := Lib.hid hrq49
        have HTq45 := Lib.hid Tq45
        clear hoq48 hrq49 hkq50 Tq45
        go_wp2_with fail
        refine hK.out _ _ trivial (fun ht15 => ?_)
        clear hK K
        try simp only [Act.put, List.setIfInBounds_toArray, List.set_cons_zero, List.set_cons_succ]
        refine wpAnyH_ready (rs := [1, 4]) (by kernel_rfl) (by simp) ?_
        refine AllReadyH.cons (o := ?ot16) ?ht16 ?st16 (AllReadyH.cons (o := ?ot17) ?ht17 ?st17 AllReadyH.nil)
        case ht16 => (simp only [List.getElem?_toArray, List.getElem?_cons_zero, List.getElem?_cons_succ]; rfl)
        case ht17 => (simp only [List.getElem?_toArray, List.getElem?_cons_zero, List.getElem?_cons_succ]; rfl)
        case st16 =>
          intro K hK
          have yq53 := Gq42.out.blk.cell 0
          simp only [List.getElem?_toArray, List.getElem?_cons_zero] at yq53
          go_simp
          clear yq53
          refine hK.out _ _ trivial (fun ht18 => ?_)
          clear hK K
          try simp only [Act.put, List.setIfInBounds_toArray, List.set_cons_zero, List.set_cons_succ]
          refine wpAnyH_ready (rs := [4]) (by kernel_rfl) (by simp) ?_
          refine AllReadyH.cons (o := ?ot19) ?ht19 ?st19 AllReadyH.nil
          case ht19 => (simp only [List.getElem?_toArray, List.getElem?_cons_zero, List.getElem?_cons_succ]; rfl)
          case st19 =>
            intro K hK
            go_simp
            obtain ⟨uq54, huq60⟩ : ∃ z, z = uq41.alloc (.cells #[.slice Aq46 x.length cq47] 23) := ⟨_, rfl⟩
            have Nq59 : Hid (Blk uq54 uq41.heap.size 23 #[.slice Aq46 x.length cq47]) := Lib.hid (by rw [huq60]; exact Blk.new _ _ _)
            rw [← huq60]
            have hbq61 : Below uq41.heap.size uq41 uq54 := by rw [huq60]; exact (Below.refl _ uq41).alloc (Nat.le_refl _) _
            have Gq55 := Lib.hid (Gq42.out.kept hbq61)
            have Rq56 := Lib.hid ((Rq43.out).kept (Kept.below (F := fun _ => False) (hbq61)) (fun h => h) (fun _ _ h => h))
            have Kq57 := Lib.hid (Kq44.out.trans (Kept.below (F := fun _ => False) hbq61) (fun i _ e => e.elim))
            have Tq58 := Lib.hid (HTq45.out.mono (G := fun _ => False) (Kept.below hbq61) (fun _ => False.elim) (fun _ hf => .inl hf))
            clear huq60 hbq61
            refine hK.out _ _ trivial (fun ht20 => ?_)
            clear hK K
            try simp only [Act.put, List.setIfInBounds_toArray, List.set_cons_zero, List.set_cons_succ]
            refine wpAnyH_ready (rs := [5]) (by kernel_rfl) (by simp) ?_
            refine AllReadyH.cons (o := ?ot21) ?ht21 ?st21 AllReadyH.nil
            case ht21 => (simp only [List.getElem?_toArray, List.getElem?_cons_zero, List.getElem?_cons_succ]; rfl)
            case st21 =>
              intro K hK
              have trq71 := Gq55.out.trow
              rw [show (Voc.tok ⟨acc, []⟩) = acc from rfl, HLEN.out] at trq71
              have nbq70 := own_blk_ne trq71 Gq55.out.blk (by decide)
              refine step_append_srcN _ rfl (.tmp 12) (.tmp 15) 30 rfl 0 23 i0 (.slice none 0 0) 1 24 Try.underlying30 hi hz0 hz1 hz2 rfl (by omega) _ k svs rfl trq71 (some ⟨uq41.heap.size, 0, none⟩) 1 1 [.slice Aq46 x.length cq47] rfl ⟨rfl, fun ad e j u hu => by cases e; rw [addr_add, Nq59.out.cell]; simpa using hu, fun e => by cases e⟩ (by simp [Value.oneCell']) (by unfold maxLen; omega) (by omega) (Nat.zero_le _) ?_
              intro vq68 uq62 hwq63 hgq64 hlq65
              obtain ⟨Aq66, cq67, rfl⟩ := own_slice hwq63
              have Bq69 := Lib.hid (Gq55.out.blk.grown hgq64 (fun e => nbq70 e.symm))
              have Hhwq63 := Lib.hid hwq63
              have Hhgq64 := Lib.hid hgq64
              have Hhlq65 := Lib.hid hlq65
              clear trq71 nbq70 hwq63 hgq64 hlq65
              refine hK.out _ _ trivial (fun ht22 => ?_)
              clear hK K
              try simp only [Act.put, List.setIfInBounds_toArray, List.set_cons_zero, List.set_cons_succ]
              refine wpAnyH_take (i := 6) (oi := ?oit236) (v := ?vt236) ?hit236 (by kernel_rfl) (by kernel_rfl) (by kernel_rfl) ?hQt236 (Or.inl ⟨?hwt236, ?hyt236⟩) (by assumption) ?restt236
              case hit236 => (first | (simp only [List.getElem?_toArray, List.getElem?_cons_zero, List.getElem?_cons_succ]; rfl) | rfl)
              case hQt236 => exact fun _ _ _ h => h
              case hwt236 => rfl
              case hyt236 => ((intro w hSw; go_simp); first | done | with_reducible rfl)
              try simp only [Act.put, List.setIfInBounds_toArray, List.set_cons_zero, List.set_cons_succ]
              refine wpAnyH_ready (rs := [7]) (by kernel_rfl) (by simp) ?_
              refine AllReadyH.cons (o := ?ot24) ?ht24 ?st24 AllReadyH.nil
              case ht24 => (simp only [List.getElem?_toArray, List.getElem?_cons_zero, List.getElem?_cons_succ]; rfl)
              case st24 =>
                intro K hK
                have yq72 := Bq69.out.cell 0
                have zq73 := Bq69.out.frozen 0
                simp only [List.getElem?_toArray, List.getElem?_cons_zero] at yq72
                go_simp
                clear yq72 zq73
                obtain ⟨hq74, kq75⟩ := Gq55.out.addTok (w2 := uq62) Tq58.out (by rw [show (Voc.tok ⟨acc, []⟩) = acc from rfl, HLEN.out]; exact Hhwq63.out) Hhgq64.out Hhlq65.out
                have szq80 := Kq57.out.size
                have Gq76 := Lib.hid hq74
                have Rq77 := Lib.hid (Rq56.out.kept kq75 HNF.out HNG.out)
                have Kq78 := Lib.hid (Kq57.out.trans kq75 (fun i hi e => .inr (by have h1 := HF.out i e; have h2 := HSZ.out; omega)))
                have Fq79 := Lib.hid (show ∀ i, Own F uq54 (uq62.setCell ⟨(w.heap.size + 1), 0, none⟩ (.slice Aq66 (k + 1) cq67)) i → w.heap.size + 1 ≤ i from fun i hi => by
                  rcases hi with hi | hi
                  · exact HF.out i hi
                  · have h1 := hi.1
                    have h2 := HSZ.out
                    omega)
                clear hq74 kq75 szq80
                refine hK.out _ _ trivial (fun ht25 => ?_)
                clear hK K
                try simp only [Act.put, List.setIfInBounds_toArray, List.set_cons_zero, List.set_cons_succ]
                refine wpAnyH_done (by kernel_rfl) ?_ _
                go_wp2_with fail
                go_roundw
                case rel =>
                  refine ⟨k + 1, _, _, _, _, s', by omega, by go_num, ?_, ?_, Gq76.out, Fq79.out, Rq77.out, Kq78.out⟩
                  · rw [← HRT.out, show n - k = (n - (k + 1)) + 1 from by omega, readTok, HX.out]
                  · rw [List.length_append, HLEN.out, List.length_singleton]
                case measure => simp [intOf]; omega
        case st17 =>
          intro K hK
          go_simp
          obtain ⟨uq81, huq87⟩ : ∃ z, z = uq41.alloc (.cells #[.slice Aq46 x.length cq47] 23) := ⟨_, rfl⟩
          have Nq86 : Hid (Blk uq81 uq41.heap.size 23 #[.slice Aq46 x.length cq47]) := Lib.hid (by rw [huq87]; exact Blk.new _ _ _)
          rw [← huq87]
          have hbq88 : Below uq41.heap.size uq41 uq81 := by rw [huq87]; exact (Below.refl _ uq41).alloc (Nat.le_refl _) _
          have Gq82 := Lib.hid (Gq42.out.kept hbq88)
          have Rq83 := Lib.hid ((Rq43.out).kept (Kept.below (F := fun _ => False) (hbq88)) (fun h => h) (fun _ _ h => h))
          have Kq84 := Lib.hid (Kq44.out.trans (Kept.below (F := fun _ => False) hbq88) (fun i _ e => e.elim))
          have Tq85 := Lib.hid (HTq45.out.mono (G := fun _ => False) (Kept.below hbq88) (fun _ => False.elim) (fun _ hf => .inl hf))
          clear huq87 hbq88
          refine hK.out _ _ trivial (fun ht26 => ?_)
          clear hK K
          try simp only [Act.put, List.setIfInBounds_toArray, List.set_cons_zero, List.set_cons_succ]
          refine wpAnyH_ready (rs := [1]) (by kernel_rfl) (by simp) ?_
          refine AllReadyH.cons (o := ?ot27) ?ht27 ?st27 AllReadyH.nil
          case ht27 => (simp only [List.getElem?_toArray, List.getElem?_cons_zero, List.getElem?_cons_succ]; rfl)
          case st27 =>
            intro K hK
            have yq89 := Gq82.out.blk.cell 0
            simp only [List.getElem?_toArray, List.getElem?_cons_zero] at yq89
            go_simp
            clear yq89
            refine hK.out _ _ trivial (fun ht28 => ?_)
            clear hK K
            try simp only [Act.put, List.setIfInBounds_toArray, List.set_cons_zero, List.set_cons_succ]
            refine wpAnyH_ready (rs := [5]) (by kernel_rfl) (by simp) ?_
            refine AllReadyH.cons (o := ?ot29) ?ht29 ?st29 AllReadyH.nil
            case ht29 => (simp only [List.getElem?_toArray, List.getElem?_cons_zero, List.getElem?_cons_succ]; rfl)
            case st29 =>
              intro K hK
              have trq99 := Gq82.out.trow
              rw [show (Voc.tok ⟨acc, []⟩) = acc from rfl, HLEN.out] at trq99
              have nbq98 := own_blk_ne trq99 Gq82.out.blk (by decide)
              refine step_append_srcN _ rfl (.tmp 12) (.tmp 15) 30 rfl 0 23 i0 (.slice none 0 0) 1 24 Try.underlying30 hi hz0 hz1 hz2 rfl (by omega) _ k svs rfl trq99 (some ⟨uq41.heap.size, 0, none⟩) 1 1 [.slice Aq46 x.length cq47] rfl ⟨rfl, fun ad e j u hu => by cases e; rw [addr_add, Nq86.out.cell]; simpa using hu, fun e => by cases e⟩ (by simp [Value.oneCell']) (by unfold maxLen; omega) (by omega) (Nat.zero_le _) ?_
              intro vq96 uq90 hwq91 hgq92 hlq93
              obtain ⟨Aq94, cq95, rfl⟩ := own_slice hwq91
              have Bq97 := Lib.hid (Gq82.out.blk.grown hgq92 (fun e => nbq98 e.symm))
              have Hhwq91 := Lib.hid hwq91
              have Hhgq92 := Lib.hid hgq92
              have Hhlq93 := Lib.hid hlq93
              clear trq99 nbq98 hwq91 hgq92 hlq93
              refine hK.out _ _ trivial (fun ht30 => ?_)
              clear hK K
              try simp only [Act.put, List.setIfInBounds_toArray, List.set_cons_zero, List.set_cons_succ]
              refine wpAnyH_take (i := 6) (oi := ?oit316) (v := ?vt316) ?hit316 (by kernel_rfl) (by kernel_rfl) (by kernel_rfl) ?hQt316 (Or.inl ⟨?hwt316, ?hyt316⟩) (by assumption) ?restt316
              case hit316 => (first | (simp only [List.getElem?_toArray, List.getElem?_cons_zero, List.getElem?_cons_succ]; rfl) | rfl)
              case hQt316 => exact fun _ _ _ h => h
              case hwt316 => rfl
              case hyt316 => ((intro w hSw; go_simp); first | done | with_reducible rfl)
              try simp only [Act.put, List.setIfInBounds_toArray, List.set_cons_zero, List.set_cons_succ]
              refine wpAnyH_ready (rs := [7]) (by kernel_rfl) (by simp) ?_
              refine AllReadyH.cons (o := ?ot32) ?ht32 ?st32 AllReadyH.nil
              case ht32 => (simp only [List.getElem?_toArray, List.getElem?_cons_zero, List.getElem?_cons_succ]; rfl)
              case st32 =>
                intro K hK
                have yq100 := Bq97.out.cell 0
                have zq101 := Bq97.out.frozen 0
                simp only [List.getElem?_toArray, List.getElem?_cons_zero] at yq100
                go_simp
                clear yq100 zq101
                obtain ⟨hq102, kq103⟩ := Gq82.out.addTok (w2 := uq90) Tq85.out (by rw [show (Voc.tok ⟨acc, []⟩) = acc from rfl, HLEN.out]; exact Hhwq91.out) Hhgq92.out Hhlq93.out
                have szq108 := Kq84.out.size
                have Gq104 := Lib.hid hq102
                have Rq105 := Lib.hid (Rq83.out.kept kq103 HNF.out HNG.out)
                have Kq106 := Lib.hid (Kq84.out.trans kq103 (fun i hi e => .inr (by have h1 := HF.out i e; have h2 := HSZ.out; omega)))
                have Fq107 := Lib.hid (show ∀ i, Own F uq81 (uq90.setCell ⟨(w.heap.size + 1), 0, none⟩ (.slice Aq94 (k + 1) cq95)) i → w.heap.size + 1 ≤ i from fun i hi => by
                  rcases hi with hi | hi
                  · exact HF.out i hi
                  · have h1 := hi.1
                    have h2 := HSZ.out
                    omega)
                clear hq102 kq103 szq108
                refine hK.out _ _ trivial (fun ht33 => ?_)
                clear hK K
                try simp only [Act.put, List.setIfInBounds_toArray, List.set_cons_zero, List.set_cons_succ]
                refine wpAnyH_done (by kernel_rfl) ?_ _
                go_wp2_with fail
                go_roundw
                case rel =>
                  refine ⟨k + 1, _, _, _, _, s', by omega, by go_num, ?_, ?_, Gq104.out, Fq107.out, Rq105.out, Kq106.out⟩
                  · rw [← HRT.out, show n - k = (n - (k + 1)) + 1 from by omega, readTok, HX.out]
                  · rw [List.length_append, HLEN.out, List.length_singleton]
                case measure => simp [intOf]; omega
    · obtain rfl : k = n := by omega
      have hkz : ¬ ((k : Int) < (k : Int)) := by omega
      have hT2 : T = (acc, sk) := by rw [← HRT.out, Nat.sub_self]; rfl
      subst hT2
      obtain ⟨m, s2, hq, hm⟩ := rInt_512 sk (m := 512) (by omega)
      have hq' : rInt sk 512 = ((m : Int), s2) := hq
      have hM1 : readMer m s2 [] = M := by rw [HM.out]; unfold readM; simp only; rw [hq']; rfl
      have HQ2 := Lib.hid hq'
      have HM1 := Lib.hid hM1
      have hmz : (0 : Int) ≤ (m : Int) := by omega
      have HNF := Lib.hid (show ¬ F rb from fun h => by have h1 := HF.out rb h; have h2 := HRL.out; omega)
      clear hq hq' hM1 HRT HM
      go_wp2_with fail
      refine (lInt_any wr rb g sk HR.out 512 (by omega) (by omega)).mono ?_
      rintro e w4 ⟨rfl, hR4, hk4⟩
      rw [HQ2.out] at hR4
      rw [HQ2.out]
      simp only at hR4 ⊢
      have HR4 := Lib.hid hR4
      have HG4 := Lib.hid (HG.out.far hk4 HNF.out HR.out.notB)
      have HK4 := Lib.hid (HK.out.trans hk4 (fun i _ e => .inl e))
      clear hR4 hk4 HR HG HK HNF
      go_wp2_with fail
      go_loopw [21] (fun i wr => ∃ (j : Nat) (F : Nat → Prop) (mv : Value) (macc : List Mg) (sk : Rd), j ≤ m ∧ i = .int .i64 j ∧ readMer (m - j) sk macc = M ∧ macc.length = j ∧ IsRV wr F (w.heap.size + 1) ⟨acc, macc⟩ (.slice At k ct) mv svs ∧ (∀ i, F i → w.heap.size + 1 ≤ i) ∧ IsR wr rb g sk ∧ Kept (fun i => i = rb ∨ i = w.heap.size + 1) W2 wr) (fun i _ => m - (intOf i).toNat)
      case atStart => exact ⟨0, F, _, [], s2, by omega, rfl, HM1.out, rfl, HG4.out, HF.out, HR4.out, HK4.out⟩
      case round =>
        clear HR4 HG4 HK4 HM1 HF HLEN F
        obtain ⟨j, F, mv, macc, sm, hj, rfl, hrt, hml, hG, hF, hR, hK⟩ := hrel
        have HG := Lib.hid hG
        have HF := Lib.hid hF
        have HR := Lib.hid hR
        have HK := Lib.hid hK
        have HRT := Lib.hid hrt
        have HML := Lib.hid hml
        obtain ⟨Bm, cm, rfl⟩ := own_slice hG.mrow
        rw [show (Voc.mer ⟨acc, macc⟩) = macc from rfl, hml] at HG
        clear hG hF hR hK hrt hml
        rcases Nat.lt_or_ge j m with hlt | hge
        · have hlt' : (j : Int) < (m : Int) := by omega
          obtain ⟨a, q1, ha, ha5⟩ := rInt_512 sm (m := 512) (by omega)
          obtain ⟨b, q2, hb, hb5⟩ := rInt_512 q1 (m := 512) (by omega)
          obtain ⟨t, q3, ht, ht5⟩ := rInt_512 q2 (m := 512) (by omega)
          have ha' : rInt sm 512 = ((a : Int), q1) := ha
          have hb' : rInt q1 512 = ((b : Int), q2) := hb
          have ht' : rInt q2 512 = ((t : Int), q3) := ht
          have hrm : rMer sm = (⟨a, b, t⟩, q3) := by unfold rMer; rw [ha']; simp only; rw [hb']; simp only; rw [ht']
          have HA := Lib.hid ha'
          have HB := Lib.hid hb'
          have HT := Lib.hid ht'
          have HRM := Lib.hid hrm
          have HNF := Lib.hid (show ¬ F rb from fun h => by have h1 := HF.out rb h; have h2 := HRL.out; omega)
          have HNG := Lib.hid (show ∀ i, g i → ¬ F i from fun i h hf => by have h1 := HF.out i hf; have h2 := HGL.out i h; omega)
          clear ha hb ht ha' hb' ht' hrm
          go_wp2_with fail
          refine (lInt_any wr rb g sm HR.out 512 (by omega) (by omega)).mono ?_
          rintro e w5 ⟨rfl, hR5, hk5⟩
          rw [HA.out] at hR5
          rw [HA.out]
          simp only at hR5 ⊢
          have HR5 := Lib.hid hR5
          have HG5 := Lib.hid (HG.out.far hk5 HNF.out HR.out.notB)
          have HK5 := Lib.hid (HK.out.trans hk5 (fun i _ e => .inl e))
          clear hR5 hk5
          go_wp2_with fail
          refine (lInt_any w5 rb g q1 HR5.out 512 (by omega) (by omega)).mono ?_
          rintro e w6 ⟨rfl, hR6, hk6⟩
          rw [HB.out] at hR6
          rw [HB.out]
          simp only at hR6 ⊢
          have HR6 := Lib.hid hR6
          have HG6 := Lib.hid (HG5.out.far hk6 HNF.out HR5.out.notB)
          have HK6 := Lib.hid (HK5.out.trans hk6 (fun i _ e => .inl e))
          clear hR6 hk6
          go_wp2_with fail
          refine (lInt_any w6 rb g q2 HR6.out 512 (by omega) (by omega)).mono ?_
          rintro e w7 ⟨rfl, hR7, hk7⟩
          rw [HT.out] at hR7
          rw [HT.out]
          simp only at hR7 ⊢
          have HR7 := Lib.hid hR7
          have HG7 := Lib.hid (HG6.out.far hk7 HNF.out HR6.out.notB)
          have HK7 := Lib.hid (HK6.out.trans hk7 (fun i _ e => .inl e))
          have y1 := HG7.out.blk.cell 1
          simp only [List.getElem?_toArray, List.getElem?_cons_zero, List.getElem?_cons_succ] at y1
          have bA := (Below.refl w7.heap.size w7).alloc (Nat.le_refl _) (.cells #[.int .i64 a, .int .i64 b, .int .i64 t] 25)
          obtain ⟨u4, hu4⟩ : ∃ z, z = w7.alloc (.cells #[.int .i64 a, .int .i64 b, .int .i64 t] 25) := ⟨_, rfl⟩
          have hn4 : Blk u4 w7.heap.size 25 #[.int .i64 a, .int .i64 b, .int .i64 t] := by rw [hu4]; exact Blk.new _ _ _
          rw [← hu4] at bA
          have hg8 := HG7.out.kept bA
          have hr8 := hg8.mrow
          rw [show (Voc.mer ⟨acc, macc⟩) = macc from rfl, HML.out] at hr8
          have HG8 := Lib.hid hg8
          have HR8 := Lib.hid (HR7.out.kept (Kept.below (F := fun _ => False) bA) (fun h => h) (fun _ _ h => h))
          have HK8 := Lib.hid (HK7.out.trans (Kept.below (F := fun _ => False) bA) (fun i _ e => e.elim))
          have HM8 := Lib.hid hr8
          have HNB := Lib.hid (own_blk_ne hr8 hg8.blk (by decide))
          have HBK := Lib.hid hg8.blk
          have HU4 := Lib.hid hu4
          have HN4 := Lib.hid hn4
          clear hR7 hk7 bA hu4 hn4 hg8 hr8
          go_wp2_with (at_builtin; rw [← HU4.out]; refine wpList_append_own_at _ rfl _ _ 31 rfl 0 25 j0 _ 3 24 Try.underlying31 hj0 hy0 hy1 hy2 rfl (by decide) _ j (macc.flatMap mgCells) rfl HM8.out ⟨w7.heap.size, 0, none⟩ 1 1 (mgCells ⟨a, b, t⟩) rfl rfl (fun j u hu => by rw [addr_add, HN4.out.cell]; simpa [mgCells] using hu) (by simp [mgCells, Value.oneCell']) (by unfold maxLen; omega) (by omega) (Nat.zero_le _) ?_; intro v' w8 hown' hg3 hnil hloc; clear hnil; obtain ⟨A8, c8, hv⟩ := own_slice hown'; rw [hv] at hown' hloc ⊢; clear hv; have HB8 := Lib.hid (HBK.out.grown hg3 (fun e => HNB.out e.symm)); have z8 := HB8.out.frozen 1; have y8 := HB8.out.cell 1; simp at y8; have HOWN8 := Lib.hid hown'; have HG9 := Lib.hid hg3; have HLOC8 := Lib.hid hloc; clear hown' hg3 hloc)
          obtain ⟨h9, k9⟩ := HG8.out.addMer (mv' := .slice A8 (j + 1) c8) (m := ⟨a, b, t⟩) (w2 := w8) (mgFits_512 ha5 hb5 ht5) (by rw [show (Voc.mer ⟨acc, macc⟩) = macc from rfl, HML.out]; exact HOWN8.out) HG9.out HLOC8.out
          have sz := HK8.out.size
          have H9 := Lib.hid h9
          have HR9 := Lib.hid (HR8.out.kept k9 HNF.out HNG.out)
          have HK9 := Lib.hid (HK8.out.trans k9 (fun i hi e => .inr (by have h1 := HF.out i e; have h2 := HSZ.out; omega)))
          have HF9 := Lib.hid (show ∀ i, Own F u4 (w8.setCell ⟨w.heap.size + 1, 1, none⟩ (.slice A8 (j + 1) c8)) i → w.heap.size + 1 ≤ i from fun i hi => by
            rcases hi with hi | hi
            · exact HF.out i hi
            · have h1 := hi.1
              have h2 := HSZ.out
              omega)
          clear h9 k9 z8 y8 y1 sz
          go_roundw
          case rel =>
            refine ⟨j + 1, _, _, _, q3, by omega, by go_num, ?_, ?_, H9.out, HF9.out, HR9.out, HK9.out⟩
            · rw [← HRT.out, show m - j = (m - (j + 1)) + 1 from by omega, readMer, HRM.out]
            · rw [List.length_append, HML.out, List.length_singleton]
          case measure => simp [intOf]; omega
        · obtain rfl : j = m := by omega
          have hjz : ¬ ((j : Int) < (j : Int)) := by omega
          have hM2 : M = (macc, sm) := by rw [← HRT.out, Nat.sub_self]; rfl
          subst hM2
          have HVw := Lib.hid (HV0.out.kept HK.out (fun e => by have h1 := HRL.out; omega))
          have e0 := HG.out.blk.cell 0
          have e1 := HG.out.blk.cell 1
          simp only [List.getElem?_toArray, List.getElem?_cons_zero, List.getElem?_cons_succ] at e0 e1
          have y0 := HVw.out.cell 0
          have y1 := HVw.out.cell 1
          have z0 := HVw.out.frozen 0
          have z1 := HVw.out.frozen 1
          simp only [List.getElem?_toArray, List.getElem?_cons_zero, List.getElem?_cons_succ] at y0 y1
          go_wp2
          have hnF : ¬ F w.heap.size := fun hf => by have := HF.out _ hf; omega
          have hk1 : Kept (fun i => i = w.heap.size) wr (wr.setCell ⟨w.heap.size, 0, none⟩ (.slice At k ct)) := (Kept.refl (fun i => i = w.heap.size) wr).setCell (p := ⟨w.heap.size, 0, none⟩) (.inl rfl) _
          have hk2 : Kept (fun i => i = w.heap.size) wr ((wr.setCell ⟨w.heap.size, 0, none⟩ (.slice At k ct)).setCell ⟨w.heap.size, 1, none⟩ (.slice Bm j cm)) := hk1.setCell (p := ⟨w.heap.size, 1, none⟩) (.inl rfl) _
          have h4 := HG.out.far hk2 hnF (fun A0 x hx => not_bytes HVw.out (fun i c => by
            match i with
            | 0 => simp [byteV]
            | 1 => simp [byteV]
            | i + 2 => simp) A0 x hx)
          have hrl := HRL.out
          refine bodyPost_ret (results_cell_row rfl _ _ w.heap.size 33 #[.slice At k ct, .slice Bm j cm] (0, 0) _ rfl ?_ Try.underlying33 rfl vocabCells) rfl ?_
          · have := (HVw.out.set_ 0 (.slice At k ct)).set_ 1 (.slice Bm j cm)
            simpa [Blk] using this
          · exact ⟨.slice At k ct, .slice Bm j cm, svs, F, w.heap.size + 1, rfl, h4, fun i hi => by have := HF.out i hi; omega, HR.out.kept hk2 (fun e => by omega) (fun i hi e => by have := HGL.out i hi; omega), (Kept.below (F := fun i => i = rb) HB2.out).trans ((HK.out.mono (F' := fun i => i = rb ∨ w.heap.size ≤ i) (fun i e => e.imp id (fun e => Nat.le_trans (Nat.le_succ _) (Nat.le_of_eq e.symm)))).trans hk2 (fun i _ e => .inr (Nat.le_of_eq e.symm))) (fun i hi e => by rcases e with e | e; exact e; exact absurd hi (Nat.not_lt.2 e))⟩
end Go.Proofs.Ytecpihghlelefaa
