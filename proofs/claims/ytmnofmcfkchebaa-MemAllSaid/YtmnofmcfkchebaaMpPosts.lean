/- The landed mem's Posts. (Printed by mk/mpposts.py.) -/
import Derived.Test.YtmnofmcfkchebaaMpBase
import Derived.Test.YtmnofmcfkchebaaMpPostB
import Derived.Test.YtmnofmcfkchebaaPInfo
import Derived.Deep.RegionHeld3
import Derived.Deep.DeepCutAuto
import Derived.Deep.QuietTactic
import Derived.BigQuiet
namespace Go.Proofs.Ytmnofmcfkchebaa
open Go.RowKit Go.Maps Go.WideMaps
set_option linter.unusedSimpArgs false

theorem PostB.atV {w : World} {base : Nat} {vs : Value} {P : List Pst} {x : Pst} {pl : Addr} {N c : Nat} (h : PostB w base (.slice (some pl) N c) vs P x) : N = P.length + 1 ∧ w.cell? (pl.add (P.length * 2)) = some (.int .i64 x.1) ∧ w.cell? ⟨(pl.add (P.length * 2)).block, (pl.add (P.length * 2)).off + 1, none⟩ = some vs := by
  obtain ⟨pa, c', e, h1, h2, h3⟩ := h.at
  simp only [Value.slice.injEq, Option.some.injEq] at e
  obtain ⟨rfl, rfl, rfl⟩ := e
  exact ⟨rfl, h1, h2⟩

set_option maxHeartbeats 16000000 in
set_option maxRecDepth 100000 in
theorem m0Posts_any {w : World} {F : Nat → Prop} {b : Nat} {L : List MDoc} (h : M0 w F b L) (hW : MWF L) (hT : totT L ≤ 20000) (t : Int) (ht : fits64 t) : Calls Try.prog 17 #[.pointer (some ⟨b, 0, none⟩), .int .i64 t] w (PostsBack w (mPosts L t)) := by
  obtain ⟨i1, hi1, hy0, hy1, hy2⟩ := info_parts spotInfo
  obtain ⟨i2, hi2, hx0, hx1, hx2⟩ := info_parts postInfo
  obtain ⟨hFb, hFlt, mb, hB, hP⟩ := h
  obtain ⟨v, hrun, hov, -, -⟩ := hP.step (by unfold maxLen; omega) ht
  obtain ⟨A0, c0', rfl⟩ := own_slice hov
  have c0 := hB.cell 0
  simp only [List.getElem?_toArray, List.getElem?_cons_zero] at c0
  have hlen := plOf_len L t
  have HFIT := Lib.hid (fun p hp => plOf_fit hW (t := t) (p := p) hp)
  have HPO := Lib.hid (grp_posts hW t)
  obtain ⟨ps, hps⟩ : ∃ ps, ps = plOf L t := ⟨_, rfl⟩
  rw [← hps] at hov hlen HFIT HPO hrun
  have HOV := Lib.hid hov
  obtain ⟨n, hn⟩ : ∃ n, n = ps.length := ⟨_, rfl⟩
  have hn2 : n ≤ 20000 := by omega
  rw [← hn] at hrun HOV
  have HN := Lib.hid hn
  have HSM := Lib.hid (fun k (hk : k ≤ n) => grp_small ps k (by rw [← HN.out]; exact hk))
  clear hFb hFlt hP hB hov hps hn hlen hW
  go_enter Try.func17, Try.ntmps17
  go_wp2
  clear hrun c0
  go_loopw [5, 16] (fun v iv wr => ∃ i : Nat, i ≤ n ∧ iv = .int .i64 i ∧ Below w.heap.size w wr ∧ ((i = 0 ∧ v = .slice none 0 0) ∨ ∃ P x vs, grpUp (ps.take i) = P ++ [x] ∧ PostB wr w.heap.size v vs P x)) (fun _ iv _ => n - (Go.RowKit.intOf iv).toNat)
  case atStart => exact ⟨0, by omega, rfl, Below.refl _ _, .inl ⟨rfl, rfl⟩⟩
  case round =>
    obtain ⟨i, hi, rfl, hb, hst⟩ := hrel
    have HBW := Lib.hid hb
    have HST := Lib.hid hst
    have HSMI := Lib.hid (HSM.out i hi)
    clear hb hst
    rcases Nat.lt_or_ge i n with hlt | hge
    · have d1 : decide ((i : Int) < (n : Int)) = true := by simpa using hlt
      have p0 : (0 : Int) ≤ (i : Int) := by omega
      have p1 : (i : Int) < (n : Int) := by omega
      have hw5 : IntKind.i64.wrap ((i : Int) + 1) = (i : Int) + 1 := IntWalk.i64_in _ (by omega)
      obtain ⟨pa, p, rfl, hp, a0, a1, a2⟩ := HOV.out.at i (by rw [← HN.out]; exact hlt)
      have HPF := Lib.hid (HFIT.out p (List.mem_of_getElem? hp))
      have HNX := Lib.hid (grpUp_next hp)
      obtain ⟨pd, pp, pz⟩ := p
      simp only at a0 a1 a2 HPF
      have b0 := below_cells HBW.out a0
      have b1 := below_cells HBW.out a1
      have b2 := below_cells HBW.out a2
      clear a0 a1 a2 hp
      have HO : Hid (PostsO wr w.heap.size u5 (grpUp (ps.take i))) := Lib.hid (by
        rcases HST.out with ⟨rfl, rfl⟩ | ⟨P, x, vs, hg, hPB⟩
        · exact PostsO.nil _ _
        · rw [hg]
          exact hPB.posts (by have := HSMI.out.2 x (by rw [hg]; simp); unfold maxLen; omega))
      have hv5 : ∃ N Av cv, u5 = .slice Av N cv ∧ N = (grpUp (ps.take i)).length := by
        obtain ⟨R, _, h1, _⟩ := HO.out
        obtain ⟨A, c, rfl⟩ := own_slice h1
        exact ⟨_, A, c, rfl, rfl⟩
      obtain ⟨N, Av, cv, rfl, hNl⟩ := hv5
      have hN2 : N ≤ 20000 := by have := HSMI.out.1; omega
      have HNL := Lib.hid hNl
      obtain ⟨tb, htb⟩ : ∃ tb : Bool, (tb = true ∧ (i = 0 ∨ ∃ P x, grpUp (ps.take i) = P ++ [x] ∧ x.1 ≠ pd)) ∨ (tb = false ∧ ∃ P x, grpUp (ps.take i) = P ++ [x] ∧ x.1 = pd) := by
        rcases HST.out with ⟨h0, _⟩ | ⟨P, x, vs, hg, _⟩
        · exact ⟨true, .inl ⟨rfl, .inl h0⟩⟩
        · by_cases h : x.1 = pd
          · exact ⟨false, .inr ⟨rfl, P, x, hg, h⟩⟩
          · exact ⟨true, .inl ⟨rfl, .inr ⟨P, x, hg, h⟩⟩⟩
      have HTB := Lib.hid htb
      obtain ⟨wo, hwo⟩ : ∃ z, z = wr := ⟨_, rfl⟩
      subst hwo
      obtain ⟨pb, hpb⟩ : ∃ z, z = wo.heap.size := ⟨_, rfl⟩
      obtain ⟨W1, hW1⟩ : ∃ z, z = wo.alloc (.cells #[.int .i64 pd, .int .i64 pp, .int .i64 pz] 55) := ⟨_, rfl⟩
      have hb0 : Below wo.heap.size wo W1 := by rw [hW1]; exact (Below.refl _ wo).alloc (Nat.le_refl _) _
      have HB0 := Lib.hid hb0
      have hbl1 : Blk W1 pb 55 #[.int .i64 pd, .int .i64 pp, .int .i64 pz] := by rw [hW1, hpb]; exact Blk.new _ _ _
      have HBL := Lib.hid hbl1
      have HBW1 := Lib.hid (below_then HBW.out hb0 HBW.out.size)
      have HPBS : Hid (w.heap.size ≤ pb) := Lib.hid (by rw [hpb]; exact HBW.out.size)
      have HPB := Lib.hid hpb
      have HW1 := Lib.hid hW1
      clear hNl htb hb0 hbl1 hpb hW1
      go_upto_region 5 with fail
      rw [← HW1.out, ← HPB.out]
      clear b0 b1 b2
      go_cut [34] (fun v wx => v = .bool tb ∧ ∃ q, wx = W1.drewN q)
      case first =>
        rcases HST.out with ⟨h0, hv⟩ | ⟨P, x, vs, hg, hPB⟩
        · simp only [Value.slice.injEq] at hv
          obtain ⟨rfl, rfl, rfl⟩ := hv
          have htt : tb = true := by
            rcases HTB.out with ⟨h, _⟩ | ⟨_, P, x, hg, _⟩
            · exact h
            · rw [h0] at hg; simp [grpUp] at hg
          subst htt
          have H0 := Lib.hid h0
          clear h0
          have d0 : (((0 : Nat) : Int) == 0) = true := rfl
          have d0' : ((0 : Int) == 0) = true := rfl
          go_quiet (fail)
          go_wp2_with fail
          go_meet
          case rel => exact ⟨rfl, _, rfl⟩
        · obtain ⟨m, hm⟩ : ∃ m, m = P.length := ⟨_, rfl⟩
          have hNm : N = m + 1 := by rw [HNL.out, hg, hm]; simp
          obtain ⟨pl, cl, hv, e0, -, -⟩ := (hPB.below HB0.out).at
          simp only [Value.slice.injEq] at hv
          obtain ⟨rfl, -, rfl⟩ := hv
          rw [← hm] at e0
          have htt : (x.1 != pd) = tb := by
            rcases HTB.out with ⟨h, h2 | ⟨P', x', hg', h2⟩⟩ | ⟨h, P', x', hg', h2⟩
            · rw [h2] at hg; simp [grpUp] at hg
            · rw [hg] at hg'
              obtain ⟨rfl, hx⟩ := List.append_inj' hg' rfl
              simp only [List.cons.injEq, and_true] at hx
              rw [h, hx]; simpa using h2
            · rw [hg] at hg'
              obtain ⟨rfl, hx⟩ := List.append_inj' hg' rfl
              simp only [List.cons.injEq, and_true] at hx
              rw [h, hx]; simpa using h2
          obtain ⟨x1, hx1⟩ : ∃ x1, x1 = x.1 := ⟨_, rfl⟩
          rw [← hx1] at e0 htt
          have d0 : ((N : Int) == 0) = false := by simp; omega
          have hsub : IntKind.i64.wrap ((N : Int) - 1) = (m : Int) := by rw [IntWalk.i64_in _ (by omega)]; omega
          have q0 : (0 : Int) ≤ (m : Int) := by omega
          have q1 : (m : Int) < (N : Int) := by omega
          have e0w : ∀ k, (W1.drewN k).cell? (pl.add (m * 2)) = some (.int .i64 x1) := fun k => e0
          have pbw : ∀ k, (W1.drewN k).cell? ⟨pb, 0, none⟩ = some (.int .i64 pd) := fun k => HBL.out.cell 0
          clear hm hNm hx1 e0 hPB hg
          go_quiet (fail)
          go_wp2_with fail
          go_meet
          case rel => exact ⟨rfl, _, rfl⟩
      case rest =>
        obtain ⟨rfl, qx, hwx⟩ := hcut
        obtain ⟨W2, hW2⟩ : ∃ z, z = wc := ⟨_, rfl⟩
        have hbq : Below wo.heap.size wo W2 := by rw [hW2, hwx]; exact below_drewN HB0.out _
        have HBQ := Lib.hid hbq
        have HBL2 := Lib.hid (show Blk W2 pb 55 #[.int .i64 pd, .int .i64 pp, .int .i64 pz] from by rw [hW2, hwx]; exact HBL.out.drewN _)
        have HBW2 := Lib.hid (below_then HBW.out hbq HBW.out.size)
        rw [← hW2]
        clear hwx hW2 hbq
        go_upto_if 34 with fail
        go_cut [5] (fun v wx => ∃ (P : List Pst) (x : Pst) (vs : Value), PostB wx w.heap.size v vs P x ∧ x.1 = pd ∧ grpUp (ps.take (i + 1)) = P ++ [(x.1, x.2 ++ [(pp, pz)])] ∧ P.length ≤ 20000 ∧ x.2.length ≤ 20000 ∧ Below w.heap.size w wx ∧ Blk wx pb 55 #[.int .i64 pd, .int .i64 pp, .int .i64 pz])
        case first =>
          cases tb with
          | true =>
            have c0 := HBL2.out.cell 0
            simp only [List.getElem?_toArray, List.getElem?_cons_zero] at c0
            obtain ⟨R, hR0, hR1, hR2⟩ := HO.out
            rw [← HNL.out] at hR1
            have HR0 := Lib.hid hR0
            have HR2 := Lib.hid hR2
            have hR3 : W2.ownsRow w.heap.size 46 2 (.slice Av N cv) N (R.flatMap docCells) := ownsRow_block hR1 fun g hg => HBQ.out.block g (hR1.lt g hg).2
            have HR3 := Lib.hid hR3
            have hsz := HBQ.out.size
            clear hR0 hR1 hR2 hR3
            go_wp2_with (at_builtin; refine wpList_append_own_at _ rfl (.tmp 35) (.tmp 39) 40 rfl w.heap.size 46 i2 _ 2 32 Try.underlying40 hi2 hx0 hx1 hx2 rfl (by decide) _ N _ rfl (World.ownsRow.alloc HR3.out _) ⟨W2.heap.size, 0, none⟩ 1 1 (docCells (pd, .slice none 0 0)) rfl rfl (doc_src (p := (pd, .slice none 0 0)) (Blk.new W2 46 #[.int .i64 pd, .slice none 0 0])) (doc_one _ _ _ _) (by unfold maxLen; omega) (by omega) (by simp; have := HBW2.out.size; omega) ?_; intro v3 w3 hown hgrow _ hloc; have HOWN := Lib.hid hown; have HGRW := Lib.hid hgrow; have HLOC := Lib.hid hloc; clear hown hgrow hloc)
            go_meet
            case rel =>
              have hal : Below W2.heap.size W2 (W2.alloc (.cells #[.int .i64 pd, .slice none 0 0] 46)) := (Below.refl _ W2).alloc (Nat.le_refl _) _
              have hR2' := fun i p y e1 e2 => (HR2.out i p y e1 e2).mono (w' := W2.alloc (.cells #[.int .i64 pd, .slice none 0 0] 46)) (g := fun i => w.heap.size ≤ i ∧ Value.ownBlock (.slice Av N cv) ≠ some i) (fun j hj hf => ⟨(hal.block j (Nat.lt_of_lt_of_le hj hsz)).trans (HBQ.out.block j hj), hf⟩) (Nat.le_trans hsz hal.size)
              have hown := HOWN.out
              rw [HNL.out] at hown
              have hf := HPF.out
              have hnew := PostB.of_push (d := pd) (by unfold fits64; omega) HR0.out hR2' hown HGRW.out HLOC.out
              refine ⟨_, _, _, hnew, rfl, ?_, by rw [← HNL.out]; exact hN2, by simp, ?_, ?_⟩
              · rw [HNX.out]
                rcases HTB.out with ⟨_, h0 | ⟨P, x, hg, hne⟩⟩ | ⟨h, _⟩
                · subst h0
                  rfl
                · rw [hg, grp1_other hne]
                  rfl
                · cases h
              · exact (below_then HBW2.out hal HBW2.out.size).grown HGRW.out (by have := HBW2.out.size; simp; omega) (fun g hg => (HR3.out.lt g hg).1)
              · refine ((HBL2.out.below hal HBL2.out.lt).grown HGRW.out fun e => ?_)
                exact own_blk_ne HR3.out HBL2.out (by decide) e.symm
          | false =>
            go_wp2_with fail
            go_meet
            case rel =>
              rcases HTB.out with ⟨h, _⟩ | ⟨_, P, x, hg, hx⟩
              · cases h
              · rcases HST.out with ⟨h0, _⟩ | ⟨P', x', vs, hg', hPB⟩
                · rw [h0] at hg; simp [grpUp] at hg
                · rw [hg] at hg'
                  obtain ⟨rfl, hxx⟩ := List.append_inj' hg' rfl
                  simp only [List.cons.injEq, and_true] at hxx
                  subst hxx
                  refine ⟨P, x, vs, hPB.below HBQ.out, hx, ?_, ?_, ?_, HBW2.out, HBL2.out⟩
                  · rw [HNX.out, hg, grp1_same hx]
                  · have := HSMI.out.1
                    rw [hg, List.length_append] at this
                    omega
                  · have := HSMI.out.2 x (by rw [hg]; simp)
                    omega
        case rest =>
          obtain ⟨P, x, vs, hPB, hxd, hgn, hPl, hxl, hBc, hblc⟩ := hcut
          obtain ⟨Avs, cvs, hvs⟩ := own_slice hPB.spots
          subst hvs
          obtain ⟨pl, cl, hv, hcc0, -, -⟩ := hPB.at
          subst hv
          obtain ⟨wd, hwc⟩ : ∃ z, z = wc := ⟨_, rfl⟩
          have HPN : Hid (pb ≠ (pl.add (P.length * 2)).block) := Lib.hid (fun e => by
            obtain ⟨R, hR1, hR2, hR3⟩ := hPB.row
            refine own_blk_ne hR2 hblc (by decide) ?_
            rw [e]
            have : (pl.add (P.length * 2)).block = pl.block := by unfold Addr.add; split <;> rfl
            rw [this]
            rfl)
          have HPV : Hid (∀ g, Value.ownBlock (.slice Avs x.2.length cvs) = some g → w.heap.size ≤ g ∧ g ≠ pb) := Lib.hid (fun g hg => ⟨(hPB.spots.lt g hg).1, fun e => own_blk_ne hPB.spots hblc (by decide) (by rw [hg, e])⟩)
          have HGN := Lib.hid hgn
          have HXD := Lib.hid hxd
          rw [← hwc] at hPB hBc hblc ⊢
          have HP1 := Lib.hid hPB
          have HW1' := Lib.hid hBc
          have HN1 := Lib.hid hblc
          obtain ⟨m, hm⟩ : ∃ m, m = P.length := ⟨_, rfl⟩
          obtain ⟨N2, hN2⟩ : ∃ N2, N2 = P.length + 1 := ⟨_, rfl⟩
          have HM := Lib.hid hm
          have HN2 := Lib.hid hN2
          have hsub : IntKind.i64.wrap ((N2 : Int) - 1) = (m : Int) := by rw [IntWalk.i64_in _ (by omega)]; omega
          have q0 : (0 : Int) ≤ (m : Int) := by omega
          have q1 : (m : Int) < (N2 : Int) := by omega
          rw [← hm] at HPN hPl
          rw [← hN2] at HP1 ⊢
          obtain ⟨sl, hsl⟩ : ∃ sl, sl = x.2.length := ⟨_, rfl⟩
          have HSL := Lib.hid hsl
          rw [← hsl] at HP1 hxl HPV
          clear hPB hBc hblc hgn hxd hwc hm hN2 hcc0 hsl
          go_upto_region 8 with fail
          refine wp_region_held_drew (S := fun w' => w'.cell? ⟨pb, 1, none⟩ = some (.int .i64 pp) ∧ w'.cell? ⟨pb, 2, none⟩ = some (.int .i64 pz)) (by kernel_rfl) ⟨HN1.out.cell 1, HN1.out.cell 2⟩ (fun hHeld => ?_)
          obtain ⟨u0, hu0⟩ : ∃ z, z = wd.drew := ⟨_, rfl⟩
          rw [← hu0] at hHeld ⊢
          have HP2 := Lib.hid (show PostB u0 w.heap.size (.slice (some pl) N2 cl) (.slice Avs sl cvs) P x from by rw [hu0]; exact HP1.out.below (below_drewN (Below.refl _ wd) 1))
          have HW2' := Lib.hid (show Below w.heap.size w u0 from by rw [hu0]; exact HW1'.out.drew)
          have HN2' := Lib.hid (show Blk u0 pb _ _ from by rw [hu0]; exact HN1.out.drew)
          have hS0 : (fun w' : World => w'.cell? ⟨pb, 1, none⟩ = some (.int .i64 pp) ∧ w'.cell? ⟨pb, 2, none⟩ = some (.int .i64 pz)) u0 := ⟨HN2'.out.cell 1, HN2'.out.cell 2⟩
          clear hu0
          refine wpAnyH_take (i := 0) (oi := ?oiz10) (v := ?vz10) ?hiz10 (by kernel_rfl) (by kernel_rfl) (by kernel_rfl) ?hQz10 (Or.inl ⟨?hwz10, ?hyz10⟩) (by assumption) ?restz10
          case hiz10 => (first | (simp only [List.getElem?_toArray, List.getElem?_cons_zero, List.getElem?_cons_succ]; rfl) | rfl)
          case hQz10 => exact fun _ _ _ h => h
          case hwz10 => rfl
          case hyz10 => ((intro w hSw; go_simp); first | done | with_reducible rfl)
          try simp only [Act.put, List.setIfInBounds_toArray, List.set_cons_zero, List.set_cons_succ]
          refine wpAnyH_take (i := 1) (oi := ?oiz21) (v := ?vz21) ?hiz21 (by kernel_rfl) (by kernel_rfl) (by kernel_rfl) ?hQz21 (Or.inl ⟨?hwz21, ?hyz21⟩) (by assumption) ?restz21
          case hiz21 => (first | (simp only [List.getElem?_toArray, List.getElem?_cons_zero, List.getElem?_cons_succ]; rfl) | rfl)
          case hQz21 => exact fun _ _ _ h => h
          case hwz21 => rfl
          case hyz21 => ((intro w hSw; go_simp); first | done | with_reducible rfl)
          try simp only [Act.put, List.setIfInBounds_toArray, List.set_cons_zero, List.set_cons_succ]
          refine wpAnyH_take (i := 5) (oi := ?oiz35) (v := ?vz35) ?hiz35 (by kernel_rfl) (by kernel_rfl) (by kernel_rfl) ?hQz35 (Or.inl ⟨?hwz35, ?hyz35⟩) (by assumption) ?restz35
          case hiz35 => (first | (simp only [List.getElem?_toArray, List.getElem?_cons_zero, List.getElem?_cons_succ]; rfl) | rfl)
          case hQz35 => exact fun _ _ _ h => h
          case hwz35 => rfl
          case hyz35 => ((intro w hSw; go_simp); first | done | with_reducible rfl)
          try simp only [Act.put, List.setIfInBounds_toArray, List.set_cons_zero, List.set_cons_succ]
          refine wpAnyH_take (i := 2) (oi := ?oiz42) (v := ?vz42) ?hiz42 (by kernel_rfl) (by kernel_rfl) (by kernel_rfl) ?hQz42 (Or.inl ⟨?hwz42, ?hyz42⟩) (by assumption) ?restz42
          case hiz42 => (first | (simp only [List.getElem?_toArray, List.getElem?_cons_zero, List.getElem?_cons_succ]; rfl) | rfl)
          case hQz42 => exact fun _ _ _ h => h
          case hwz42 => rfl
          case hyz42 => ((intro w hSw; go_simp); first | done | with_reducible rfl)
          try simp only [Act.put, List.setIfInBounds_toArray, List.set_cons_zero, List.set_cons_succ]
          refine wpAnyH_take (i := 6) (oi := ?oiz56) (v := ?vz56) ?hiz56 (by kernel_rfl) (by kernel_rfl) (by kernel_rfl) ?hQz56 (Or.inl ⟨?hwz56, ?hyz56⟩) (by assumption) ?restz56
          case hiz56 => (first | (simp only [List.getElem?_toArray, List.getElem?_cons_zero, List.getElem?_cons_succ]; rfl) | rfl)
          case hQz56 => exact fun _ _ _ h => h
          case hwz56 => rfl
          case hyz56 => ((intro w hSw; go_simp); first | done | with_reducible rfl)
          try simp only [Act.put, List.setIfInBounds_toArray, List.set_cons_zero, List.set_cons_succ]
          refine wpAnyH_take (i := 3) (oi := ?oiz63) (v := ?vz63) ?hiz63 (by kernel_rfl) (by kernel_rfl) (by kernel_rfl) ?hQz63 (Or.inl ⟨?hwz63, ?hyz63⟩) (by assumption) ?restz63
          case hiz63 => (first | (simp only [List.getElem?_toArray, List.getElem?_cons_zero, List.getElem?_cons_succ]; rfl) | rfl)
          case hQz63 => exact fun _ _ _ h => h
          case hwz63 => rfl
          case hyz63 => ((intro w hSw; go_simp); first | done | with_reducible rfl)
          try simp only [Act.put, List.setIfInBounds_toArray, List.set_cons_zero, List.set_cons_succ]
          refine wpAnyH_ready (rs := [4, 7]) (by kernel_rfl) (by simp) ?_
          refine AllReadyH.cons (o := ?oz7) ?hz7 ?sz7 (AllReadyH.cons (o := ?oz8) ?hz8 ?sz8 AllReadyH.nil)
          case hz7 => (simp only [List.getElem?_toArray, List.getElem?_cons_zero, List.getElem?_cons_succ]; rfl)
          case hz8 => (simp only [List.getElem?_toArray, List.getElem?_cons_zero, List.getElem?_cons_succ]; rfl)
          case sz7 =>
            intro K hK
            obtain ⟨-, -, yq1⟩ := HP2.out.atV
            rw [← HM.out] at yq1
            go_simp
            clear yq1
            refine hK.out _ _ ⟨HN2'.out.cell 1, HN2'.out.cell 2⟩ (fun hz9 => ?_)
            clear hK K
            try simp only [Act.put, List.setIfInBounds_toArray, List.set_cons_zero, List.set_cons_succ]
            refine wpAnyH_ready (rs := [7]) (by kernel_rfl) (by simp) ?_
            refine AllReadyH.cons (o := ?oz10) ?hz10 ?sz10 AllReadyH.nil
            case hz10 => (simp only [List.getElem?_toArray, List.getElem?_cons_zero, List.getElem?_cons_succ]; rfl)
            case sz10 =>
              intro K hK
              go_simp
              obtain ⟨uq2, huq3⟩ : ∃ zz, zz = u0.alloc (.cells #[.int .i64 pp, .int .i64 pz] 48) := ⟨_, rfl⟩
              have Mq7 : Hid (Blk uq2 u0.heap.size 48 #[.int .i64 pp, .int .i64 pz]) := Lib.hid (by rw [huq3]; exact Blk.new _ _ _)
              rw [← huq3]
              have hNq4 : Below u0.heap.size u0 uq2 := by rw [huq3]; exact (Below.refl _ u0).alloc (Nat.le_refl _) _
              have Nq4 := Lib.hid (HN2'.out.below hNq4 HN2'.out.lt)
              have Pq6 := Lib.hid (HP2.out.below hNq4)
              have Wq5 := Lib.hid (below_then HW2'.out hNq4 HW2'.out.size)
              clear huq3 hNq4
              refine hK.out _ _ ⟨Nq4.out.cell 1, Nq4.out.cell 2⟩ (fun hz11 => ?_)
              clear hK K
              try simp only [Act.put, List.setIfInBounds_toArray, List.set_cons_zero, List.set_cons_succ]
              refine wpAnyH_ready (rs := [8]) (by kernel_rfl) (by simp) ?_
              refine AllReadyH.cons (o := ?oz12) ?hz12 ?sz12 AllReadyH.nil
              case hz12 => (simp only [List.getElem?_toArray, List.getElem?_cons_zero, List.getElem?_cons_succ]; rfl)
              case sz12 =>
                intro K hK
                refine step_append_recK _ rfl (.tmp 50) (.tmp 53) 44 rfl w.heap.size 48 i1 _ 2 16 Try.underlying44 hi1 hy0 hy1 hy2 rfl (by decide) _ sl _ rfl (by have h1 := Pq6.out.spots; rw [← HSL.out] at h1; exact h1) ⟨u0.heap.size, 0, none⟩ 1 1 (twoCells (pp, pz)) rfl rfl (doc_src (p := (pp, .int .i64 pz)) Mq7.out) (two_one _) (by unfold maxLen; omega) (by omega) Wq5.out.size ?_
                intro vq12 uq8 hwq9 hgq10 hlq11
                obtain ⟨Avq12, cvq12, rfl⟩ := own_slice hwq9
                have Nq13 := Lib.hid (Nq4.out.grown hgq10 (fun e => (HPV.out pb e.symm).2 rfl))
                have Wq14 := Lib.hid (Wq5.out.grown hgq10 Wq5.out.size (fun g hg => (HPV.out g hg).1))
                have Hhwq9 := Lib.hid hwq9
                have Hhgq10 := Lib.hid hgq10
                have Hhlq11 := Lib.hid hlq11
                clear hwq9 hgq10 hlq11
                refine hK.out _ _ ⟨Nq13.out.cell 1, Nq13.out.cell 2⟩ (fun hz13 => ?_)
                clear hK K
                try simp only [Act.put, List.setIfInBounds_toArray, List.set_cons_zero, List.set_cons_succ]
                refine wpAnyH_take (i := 9) (oi := ?oiz149) (v := ?vz149) ?hiz149 (by kernel_rfl) (by kernel_rfl) (by kernel_rfl) ?hQz149 (Or.inl ⟨?hwz149, ?hyz149⟩) (by assumption) ?restz149
                case hiz149 => (first | (simp only [List.getElem?_toArray, List.getElem?_cons_zero, List.getElem?_cons_succ]; rfl) | rfl)
                case hQz149 => exact fun _ _ _ h => h
                case hwz149 => rfl
                case hyz149 => ((intro w hSw; go_simp); first | done | with_reducible rfl)
                try simp only [Act.put, List.setIfInBounds_toArray, List.set_cons_zero, List.set_cons_succ]
                refine wpAnyH_take (i := 10) (oi := ?oiz1510) (v := ?vz1510) ?hiz1510 (by kernel_rfl) (by kernel_rfl) (by kernel_rfl) ?hQz1510 (Or.inl ⟨?hwz1510, ?hyz1510⟩) (by assumption) ?restz1510
                case hiz1510 => (first | (simp only [List.getElem?_toArray, List.getElem?_cons_zero, List.getElem?_cons_succ]; rfl) | rfl)
                case hQz1510 => exact fun _ _ _ h => h
                case hwz1510 => rfl
                case hyz1510 => ((intro w hSw; go_simp); first | done | with_reducible rfl)
                try simp only [Act.put, List.setIfInBounds_toArray, List.set_cons_zero, List.set_cons_succ]
                refine wpAnyH_ready (rs := [11]) (by kernel_rfl) (by simp) ?_
                refine AllReadyH.cons (o := ?oz16) ?hz16 ?sz16 AllReadyH.nil
                case hz16 => (simp only [List.getElem?_toArray, List.getElem?_cons_zero, List.getElem?_cons_succ]; rfl)
                case sz16 =>
                  intro K hK
                  obtain ⟨kq15, fzq16, hbq17, hpq18⟩ := PostB.spot (s := (pp, pz)) Pq6.out Hhgq10.out (by rw [← HSL.out]; exact Hhwq9.out) Hhlq11.out (by have h1 := HPF.out; exact ⟨by unfold fits64; omega, by unfold fits64; omega⟩)
                  rw [← HM.out] at kq15 fzq16 hbq17 hpq18
                  go_simp
                  clear kq15 fzq16
                  have Nq19 := Lib.hid (Nq13.out.far (p := ⟨(pl.add (m * 2)).block, (pl.add (m * 2)).off + 1, none⟩) HPN.out (.slice Avq12 (sl + 1) cvq12))
                  have Wq20 := Lib.hid (Wq14.out.setCell (p := ⟨(pl.add (m * 2)).block, (pl.add (m * 2)).off + 1, none⟩) hbq17 (.slice Avq12 (sl + 1) cvq12))
                  have Pq21 := Lib.hid hpq18
                  clear hbq17 hpq18
                  refine hK.out _ _ ⟨Nq19.out.cell 1, Nq19.out.cell 2⟩ (fun hz17 => ?_)
                  clear hK K
                  try simp only [Act.put, List.setIfInBounds_toArray, List.set_cons_zero, List.set_cons_succ]
                  refine wpAnyH_done (by kernel_rfl) ?_ _
                  go_wp2
                  go_roundw
                  case rel => exact ⟨i + 1, by omega, by go_num, Wq20.out, .inr ⟨P, _, _, HGN.out, Pq21.out⟩⟩
                  case measure => simp [Go.RowKit.intOf]; omega
          case sz8 =>
            intro K hK
            go_simp
            obtain ⟨uq22, huq23⟩ : ∃ zz, zz = u0.alloc (.cells #[.int .i64 pp, .int .i64 pz] 48) := ⟨_, rfl⟩
            have Mq27 : Hid (Blk uq22 u0.heap.size 48 #[.int .i64 pp, .int .i64 pz]) := Lib.hid (by rw [huq23]; exact Blk.new _ _ _)
            rw [← huq23]
            have hNq24 : Below u0.heap.size u0 uq22 := by rw [huq23]; exact (Below.refl _ u0).alloc (Nat.le_refl _) _
            have Nq24 := Lib.hid (HN2'.out.below hNq24 HN2'.out.lt)
            have Pq26 := Lib.hid (HP2.out.below hNq24)
            have Wq25 := Lib.hid (below_then HW2'.out hNq24 HW2'.out.size)
            clear huq23 hNq24
            refine hK.out _ _ ⟨Nq24.out.cell 1, Nq24.out.cell 2⟩ (fun hz18 => ?_)
            clear hK K
            try simp only [Act.put, List.setIfInBounds_toArray, List.set_cons_zero, List.set_cons_succ]
            refine wpAnyH_ready (rs := [4]) (by kernel_rfl) (by simp) ?_
            refine AllReadyH.cons (o := ?oz19) ?hz19 ?sz19 AllReadyH.nil
            case hz19 => (simp only [List.getElem?_toArray, List.getElem?_cons_zero, List.getElem?_cons_succ]; rfl)
            case sz19 =>
              intro K hK
              obtain ⟨-, -, yq28⟩ := Pq26.out.atV
              rw [← HM.out] at yq28
              go_simp
              clear yq28
              refine hK.out _ _ ⟨Nq24.out.cell 1, Nq24.out.cell 2⟩ (fun hz20 => ?_)
              clear hK K
              try simp only [Act.put, List.setIfInBounds_toArray, List.set_cons_zero, List.set_cons_succ]
              refine wpAnyH_ready (rs := [8]) (by kernel_rfl) (by simp) ?_
              refine AllReadyH.cons (o := ?oz21) ?hz21 ?sz21 AllReadyH.nil
              case hz21 => (simp only [List.getElem?_toArray, List.getElem?_cons_zero, List.getElem?_cons_succ]; rfl)
              case sz21 =>
                intro K hK
                refine step_append_recK _ rfl (.tmp 50) (.tmp 53) 44 rfl w.heap.size 48 i1 _ 2 16 Try.underlying44 hi1 hy0 hy1 hy2 rfl (by decide) _ sl _ rfl (by have h1 := Pq26.out.spots; rw [← HSL.out] at h1; exact h1) ⟨u0.heap.size, 0, none⟩ 1 1 (twoCells (pp, pz)) rfl rfl (doc_src (p := (pp, .int .i64 pz)) Mq27.out) (two_one _) (by unfold maxLen; omega) (by omega) Wq25.out.size ?_
                intro vq33 uq29 hwq30 hgq31 hlq32
                obtain ⟨Avq33, cvq33, rfl⟩ := own_slice hwq30
                have Nq34 := Lib.hid (Nq24.out.grown hgq31 (fun e => (HPV.out pb e.symm).2 rfl))
                have Wq35 := Lib.hid (Wq25.out.grown hgq31 Wq25.out.size (fun g hg => (HPV.out g hg).1))
                have Hhwq30 := Lib.hid hwq30
                have Hhgq31 := Lib.hid hgq31
                have Hhlq32 := Lib.hid hlq32
                clear hwq30 hgq31 hlq32
                refine hK.out _ _ ⟨Nq34.out.cell 1, Nq34.out.cell 2⟩ (fun hz22 => ?_)
                clear hK K
                try simp only [Act.put, List.setIfInBounds_toArray, List.set_cons_zero, List.set_cons_succ]
                refine wpAnyH_take (i := 9) (oi := ?oiz239) (v := ?vz239) ?hiz239 (by kernel_rfl) (by kernel_rfl) (by kernel_rfl) ?hQz239 (Or.inl ⟨?hwz239, ?hyz239⟩) (by assumption) ?restz239
                case hiz239 => (first | (simp only [List.getElem?_toArray, List.getElem?_cons_zero, List.getElem?_cons_succ]; rfl) | rfl)
                case hQz239 => exact fun _ _ _ h => h
                case hwz239 => rfl
                case hyz239 => ((intro w hSw; go_simp); first | done | with_reducible rfl)
                try simp only [Act.put, List.setIfInBounds_toArray, List.set_cons_zero, List.set_cons_succ]
                refine wpAnyH_take (i := 10) (oi := ?oiz2410) (v := ?vz2410) ?hiz2410 (by kernel_rfl) (by kernel_rfl) (by kernel_rfl) ?hQz2410 (Or.inl ⟨?hwz2410, ?hyz2410⟩) (by assumption) ?restz2410
                case hiz2410 => (first | (simp only [List.getElem?_toArray, List.getElem?_cons_zero, List.getElem?_cons_succ]; rfl) | rfl)
                case hQz2410 => exact fun _ _ _ h => h
                case hwz2410 => rfl
                case hyz2410 => ((intro w hSw; go_simp); first | done | with_reducible rfl)
                try simp only [Act.put, List.setIfInBounds_toArray, List.set_cons_zero, List.set_cons_succ]
                refine wpAnyH_ready (rs := [11]) (by kernel_rfl) (by simp) ?_
                refine AllReadyH.cons (o := ?oz25) ?hz25 ?sz25 AllReadyH.nil
                case hz25 => (simp only [List.getElem?_toArray, List.getElem?_cons_zero, List.getElem?_cons_succ]; rfl)
                case sz25 =>
                  intro K hK
                  obtain ⟨kq36, fzq37, hbq38, hpq39⟩ := PostB.spot (s := (pp, pz)) Pq26.out Hhgq31.out (by rw [← HSL.out]; exact Hhwq30.out) Hhlq32.out (by have h1 := HPF.out; exact ⟨by unfold fits64; omega, by unfold fits64; omega⟩)
                  rw [← HM.out] at kq36 fzq37 hbq38 hpq39
                  go_simp
                  clear kq36 fzq37
                  have Nq40 := Lib.hid (Nq34.out.far (p := ⟨(pl.add (m * 2)).block, (pl.add (m * 2)).off + 1, none⟩) HPN.out (.slice Avq33 (sl + 1) cvq33))
                  have Wq41 := Lib.hid (Wq35.out.setCell (p := ⟨(pl.add (m * 2)).block, (pl.add (m * 2)).off + 1, none⟩) hbq38 (.slice Avq33 (sl + 1) cvq33))
                  have Pq42 := Lib.hid hpq39
                  clear hbq38 hpq39
                  refine hK.out _ _ ⟨Nq40.out.cell 1, Nq40.out.cell 2⟩ (fun hz26 => ?_)
                  clear hK K
                  try simp only [Act.put, List.setIfInBounds_toArray, List.set_cons_zero, List.set_cons_succ]
                  refine wpAnyH_done (by kernel_rfl) ?_ _
                  go_wp2
                  go_roundw
                  case rel => exact ⟨i + 1, by omega, by go_num, Wq41.out, .inr ⟨P, _, _, HGN.out, Pq42.out⟩⟩
                  case measure => simp [Go.RowKit.intOf]; omega
    · obtain rfl : i = n := by omega
      have hlz : ¬ ((i : Int) < (i : Int)) := by omega
      have d1 : decide ((i : Int) < (i : Int)) = false := by simp
      have HFN : Hid (grpUp (ps.take i) = mPosts L t) := Lib.hid (by rw [HN.out, List.take_length]; exact HPO.out)
      have HO : Hid (PostsO wr w.heap.size u5 (mPosts L t)) := Lib.hid (by
        rw [← HFN.out]
        rcases HST.out with ⟨rfl, rfl⟩ | ⟨P, x, vs, hg, hPB⟩
        · exact PostsO.nil _ _
        · rw [hg]
          exact hPB.posts (by have := HSMI.out.2 x (by rw [hg]; simp); unfold maxLen; omega))
      have hML : (mPosts L t).length ≤ 20000 := by have := HSMI.out.1; rw [HFN.out] at this; omega
      clear HOV
      go_wp2
      go_ret
      obtain ⟨Ax, cx, hv, hc⟩ : ∃ A c, u5 = .slice A (mPosts L t).length c ∧ (mPosts L t).length ≤ c := by
        obtain ⟨R, _, h1, _⟩ := HO.out
        obtain ⟨A, c, rfl⟩ := own_slice h1
        exact ⟨A, c, rfl, rowCap_le h1⟩
      subst hv
      exact ⟨Ax, cx, rfl, HO.out.see rfl (by unfold maxLen; omega), hc, HBW.out⟩
end Go.Proofs.Ytmnofmcfkchebaa
