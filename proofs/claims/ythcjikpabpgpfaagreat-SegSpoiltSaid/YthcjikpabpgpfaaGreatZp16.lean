import Derived.Test.YthcjikpabpgpfaaGreatZp0
import Derived.Test.YthcjikpabpgpfaaGreatZp10
import Derived.Test.YthcjikpabpgpfaaGreatZp9
import Derived.Deep.RegionHeld3
import Derived.Deep.DeepCutAuto
import Derived.Deep.QuietTactic
import Derived.BigQuiet
import Derived.Shelf.Abstract
set_option linter.unusedSimpArgs false
set_option maxHeartbeats 16000000
set_option maxRecDepth 100000
namespace Go.Proofs.YthcjikpabpgpfaaGreat
open Go.RowKit Go.Maps Go.WideMaps
theorem PostB.atV {w : World} {base : Nat} {vs : Value} {P : List Pst} {x : Pst} {pl : Addr} {N c : Nat} (h : PostB w base (.slice (some pl) N c) vs P x) : N = P.length + 1 ∧ w.cell? (pl.add (P.length * 2)) = some (.int .i64 x.1) ∧ w.cell? ⟨(pl.add (P.length * 2)).block, (pl.add (P.length * 2)).off + 1, none⟩ = some vs := by
 obtain ⟨pa, c', e, h1, h2, h3⟩ := h.at
 simp only [Value.slice.injEq, Option.some.injEq] at e
 obtain ⟨rfl, rfl, rfl⟩ := e
 exact ⟨rfl, h1, h2⟩
theorem m0Posts_any {w : World} {F : Nat → Prop} {b : Nat} {L : List MDoc} (h : M0 w F b L) (hW : MWF L) (hT : totT L ≤ 20000) (t : Int) (ht : fits64 t) : Calls Tryz.prog 37 #[.pointer (some ⟨b, 0, none⟩), .int .i64 t] w (PostsBack w (mPosts L t)) := by
 obtain ⟨i1, hi1, hy0, hy1, hy2⟩ := info_parts spotInfo
 obtain ⟨i2, hi2, hx0, hx1, hx2⟩ := info_parts postInfo
 obtain ⟨hFb, hFlt, mb, hB, hP⟩ := h
 obtain ⟨v, hrun, hov, -, -⟩ := hP.step (by unfold maxLen; omega) ht
 obtain ⟨A0, c0', rfl⟩ := own_slice hov
 have c0 := hB.cell 0
 simp only [lz0, lz1] at c0
 have hlen := plOf_len L t
 have HFIT := Lib.hid (fun p hp => plOf_fit hW (t := t) (p := p) hp)
 have HPO := Lib.hid (grp_posts hW t)
 obtain ⟨ps, hps⟩ : ∃ ps, ps = plOf L t := ⟨_, rfl⟩
 rw [← hps] at hov hlen HFIT HPO hrun
 have HOV := Lib.hid hov
 obtain ⟨n, hn⟩ : ∃ n, n = ps.length := ⟨_, rfl⟩
 have hn2 : n ≤ 20000 := by omega
 rw [← hn] at hrun HOV
 have HN := Lib.hid hn
 have HSM := Lib.hid (fun k (hk : k ≤ n) => grp_small ps k (by rw [← HN.out]; exact hk))
 clear hFb hFlt hP hB hov hps hn hlen hW
 go_enter Tryz.func37, Tryz.ntmps37
 go_wp2
 clear hrun c0
 go_loopw [5, 16] (fun v iv wr => ∃ i : Nat, i ≤ n ∧ iv = .int .i64 i ∧ Below w.heap.size w wr ∧ ((i = 0 ∧ v = .slice none 0 0) ∨ ∃ P x vs, grpUp (ps.take i) = P ++ [x] ∧ PostB wr w.heap.size v vs P x)) (fun _ iv _ => n - (Go.RowKit.intOf iv).toNat)
 case atStart => exact ⟨0, by omega, rfl, Below.refl _ _, .inl ⟨rfl, rfl⟩⟩
 case round =>
  obtain ⟨i, hi, rfl, hb, hst⟩ := hrel
  have HBW := Lib.hid hb
  have HST := Lib.hid hst
  have HSMI := Lib.hid (HSM.out i hi)
  clear hb hst
  rcases Nat.lt_or_ge i n with hlt | hge
  ·have d1 : decide ((i : Int) < (n : Int)) = true := by simpa using hlt
   have p0 : (0 : Int) ≤ (i : Int) := by omega
   have p1 : (i : Int) < (n : Int) := by omega
   have hw5 : IntKind.i64.wrap ((i : Int) + 1) = (i : Int) + 1 := IntWalk.i64_in _ (by omega)
   obtain ⟨pa, p, rfl, hp, a0, a1, a2⟩ := HOV.out.at i (by rw [← HN.out]; exact hlt)
   have HPF := Lib.hid (HFIT.out p (List.mem_of_getElem? hp))
   have HNX := Lib.hid (grpUp_next hp)
   obtain ⟨pd, pp, pz⟩ := p
   simp only at a0 a1 a2 HPF
   have b0 := below_cells HBW.out a0
   have b1 := below_cells HBW.out a1
   have b2 := below_cells HBW.out a2
   clear a0 a1 a2 hp
   have HO : Hid (PostsO wr w.heap.size u5 (grpUp (ps.take i))) := Lib.hid (by
    rcases HST.out with ⟨rfl, rfl⟩ | ⟨P, x, vs, hg, hPB⟩
    ·exact PostsO.nil _ _
    ·rw [hg]
     exact hPB.posts (by have := HSMI.out.2 x (by rw [hg]; simp); unfold maxLen; omega))
   have hv5 : ∃ N Av cv, u5 = .slice Av N cv ∧ N = (grpUp (ps.take i)).length := by
    obtain ⟨R, _, h1, _⟩ := HO.out
    obtain ⟨A, c, rfl⟩ := own_slice h1
    exact ⟨_, A, c, rfl, rfl⟩
   obtain ⟨N, Av, cv, rfl, hNl⟩ := hv5
   have hN2 : N ≤ 20000 := by have := HSMI.out.1; omega
   have HNL := Lib.hid hNl
   obtain ⟨tb, htb⟩ : ∃ tb : Bool, (tb = true ∧ (i = 0 ∨ ∃ P x, grpUp (ps.take i) = P ++ [x] ∧ x.1 ≠ pd)) ∨ (tb = false ∧ ∃ P x, grpUp (ps.take i) = P ++ [x] ∧ x.1 = pd) := by
    rcases HST.out with ⟨h0, _⟩ | ⟨P, x, vs, hg, _⟩
    ·exact ⟨true, .inl ⟨rfl, .inl h0⟩⟩
    ·by_cases h : x.1 = pd
     ·exact ⟨false, .inr ⟨rfl, P, x, hg, h⟩⟩
     ·exact ⟨true, .inl ⟨rfl, .inr ⟨P, x, hg, h⟩⟩⟩
   have HTB := Lib.hid htb
   obtain ⟨wo, hwo⟩ : ∃ z, z = wr := ⟨_, rfl⟩
   subst hwo
   obtain ⟨pb, hpb⟩ : ∃ z, z = wo.heap.size := ⟨_, rfl⟩
   obtain ⟨W1, hW1⟩ : ∃ z, z = wo.alloc (.cells #[.int .i64 pd, .int .i64 pp, .int .i64 pz] 165) := ⟨_, rfl⟩
   have hb0 : Below wo.heap.size wo W1 := by rw [hW1]; exact (Below.refl _ wo).alloc (Nat.le_refl _) _
   have HB0 := Lib.hid hb0
   have hbl1 : Blk W1 pb 165 #[.int .i64 pd, .int .i64 pp, .int .i64 pz] := by rw [hW1, hpb]; exact Blk.new _ _ _
   have HBL := Lib.hid hbl1
   have HBW1 := Lib.hid (below_then HBW.out hb0 HBW.out.size)
   have HPBS : Hid (w.heap.size ≤ pb) := Lib.hid (by rw [hpb]; exact HBW.out.size)
   have HPB := Lib.hid hpb
   have HW1 := Lib.hid hW1
   clear hNl htb hb0 hbl1 hpb hW1
   go_upto_region 5 with fail
   rw [← HW1.out, ← HPB.out]
   clear b0 b1 b2
   go_cut [34] (fun v wx => v = .bool tb ∧ ∃ q, wx = W1.drewN q)
   case first =>
    rcases HST.out with ⟨h0, hv⟩ | ⟨P, x, vs, hg, hPB⟩
    ·simp only [Value.slice.injEq] at hv
     obtain ⟨rfl, rfl, rfl⟩ := hv
     have htt : tb = true := by
      rcases HTB.out with ⟨h, _⟩ | ⟨_, P, x, hg, _⟩
      ·exact h
      ·rw [h0] at hg; simp [grpUp] at hg
     subst htt
     have H0 := Lib.hid h0
     clear h0
     have d0 : (((0 : Nat) : Int) == 0) = true := rfl
     have d0' : ((0 : Int) == 0) = true := rfl
     go_quiet (fail)
     go_wp2_with fail
     go_meet
     case rel => exact ⟨rfl, _, rfl⟩
    ·obtain ⟨m, hm⟩ : ∃ m, m = P.length := ⟨_, rfl⟩
     have hNm : N = m + 1 := by rw [HNL.out, hg, hm]; simp
     obtain ⟨pl, cl, hv, e0, -, -⟩ := (hPB.below HB0.out).at
     simp only [Value.slice.injEq] at hv
     obtain ⟨rfl, -, rfl⟩ := hv
     rw [← hm] at e0
     have htt : (x.1 != pd) = tb := by
      rcases HTB.out with ⟨h, h2 | ⟨P', x', hg', h2⟩⟩ | ⟨h, P', x', hg', h2⟩
      ·rw [h2] at hg; simp [grpUp] at hg
      ·rw [hg] at hg'
       obtain ⟨rfl, hx⟩ := List.append_inj' hg' rfl
       simp only [List.cons.injEq, and_true] at hx
       rw [h, hx]; simpa using h2
      ·rw [hg] at hg'
       obtain ⟨rfl, hx⟩ := List.append_inj' hg' rfl
       simp only [List.cons.injEq, and_true] at hx
       rw [h, hx]; simpa using h2
     obtain ⟨x1, hx1⟩ : ∃ x1, x1 = x.1 := ⟨_, rfl⟩
     rw [← hx1] at e0 htt
     have d0 : ((N : Int) == 0) = false := by simp; omega
     have hsub : IntKind.i64.wrap ((N : Int) - 1) = (m : Int) := by rw [IntWalk.i64_in _ (by omega)]; omega
     have q0 : (0 : Int) ≤ (m : Int) := by omega
     have q1 : (m : Int) < (N : Int) := by omega
     have e0w : ∀ k, (W1.drewN k).cell? (pl.add (m * 2)) = some (.int .i64 x1) := fun k => e0
     have pbw : ∀ k, (W1.drewN k).cell? ⟨pb, 0, none⟩ = some (.int .i64 pd) := fun k => HBL.out.cell 0
     clear hm hNm hx1 e0 hPB hg
     go_quiet (fail)
     go_wp2_with fail
     go_meet
     case rel => exact ⟨rfl, _, rfl⟩
   case rest =>
    obtain ⟨rfl, qx, hwx⟩ := hcut
    obtain ⟨W2, hW2⟩ : ∃ z, z = wc := ⟨_, rfl⟩
    have hbq : Below wo.heap.size wo W2 := by rw [hW2, hwx]; exact below_drewN HB0.out _
    have HBQ := Lib.hid hbq
    have HBL2 := Lib.hid (show Blk W2 pb 165 #[.int .i64 pd, .int .i64 pp, .int .i64 pz] from by rw [hW2, hwx]; exact HBL.out.drewN _)
    have HBW2 := Lib.hid (below_then HBW.out hbq HBW.out.size)
    rw [← hW2]
    clear hwx hW2 hbq
    go_upto_if 34 with fail
    go_cut [5] (fun v wx => ∃ (P : List Pst) (x : Pst) (vs : Value), PostB wx w.heap.size v vs P x ∧ x.1 = pd ∧ grpUp (ps.take (i + 1)) = P ++ [(x.1, x.2 ++ [(pp, pz)])] ∧ P.length ≤ 20000 ∧ x.2.length ≤ 20000 ∧ Below w.heap.size w wx ∧ Blk wx pb 165 #[.int .i64 pd, .int .i64 pp, .int .i64 pz])
    case first =>
     cases tb with
     | true =>
      have c0 := HBL2.out.cell 0
      simp only [lz0, lz1] at c0
      obtain ⟨R, hR0, hR1, hR2⟩ := HO.out
      rw [← HNL.out] at hR1
      have HR0 := Lib.hid hR0
      have HR2 := Lib.hid hR2
      have hR3 : W2.ownsRow w.heap.size 62 2 (.slice Av N cv) N (R.flatMap docCells) := ownsRow_block hR1 fun g hg => HBQ.out.block g (hR1.lt g hg).2
      have HR3 := Lib.hid hR3
      have hsz := HBQ.out.size
      clear hR0 hR1 hR2 hR3
      go_wp2_with (at_builtin; refine wpList_append_own_at _ rfl (.tmp 35) (.tmp 39) 56 rfl w.heap.size 62 i2 _ 2 32 Tryz.underlying56 hi2 hx0 hx1 hx2 rfl (by decide) _ N _ rfl (World.ownsRow.alloc HR3.out _) ⟨W2.heap.size, 0, none⟩ 1 1 (docCells (pd, .slice none 0 0)) rfl rfl (doc_src (p := (pd, .slice none 0 0)) (Blk.new W2 62 #[.int .i64 pd, .slice none 0 0])) (doc_one _ _ _ _) (by unfold maxLen; omega) (by omega) (by simp; have := HBW2.out.size; omega) ?_; intro v3 w3 hown hgrow _ hloc; have HOWN := Lib.hid hown; have HGRW := Lib.hid hgrow; have HLOC := Lib.hid hloc; clear hown hgrow hloc)
      go_meet
      case rel =>
       have hal : Below W2.heap.size W2 (W2.alloc (.cells #[.int .i64 pd, .slice none 0 0] 62)) := (Below.refl _ W2).alloc (Nat.le_refl _) _
       have hR2' := fun i p y e1 e2 => (HR2.out i p y e1 e2).mono (w' := W2.alloc (.cells #[.int .i64 pd, .slice none 0 0] 62)) (g := fun i => w.heap.size ≤ i ∧ Value.ownBlock (.slice Av N cv) ≠ some i) (fun j hj hf => ⟨(hal.block j (Nat.lt_of_lt_of_le hj hsz)).trans (HBQ.out.block j hj), hf⟩) (Nat.le_trans hsz hal.size)
       have hown := HOWN.out
       rw [HNL.out] at hown
       have hf := HPF.out
       have hnew := PostB.of_push (d := pd) (by unfold fits64; omega) HR0.out hR2' hown HGRW.out HLOC.out
       refine ⟨_, _, _, hnew, rfl, ?_, by rw [← HNL.out]; exact hN2, by simp, ?_, ?_⟩
       ·rw [HNX.out]
        rcases HTB.out with ⟨_, h0 | ⟨P, x, hg, hne⟩⟩ | ⟨h, _⟩
        ·subst h0
         rfl
        ·rw [hg, grp1_other hne]
         rfl
        ·cases h
       ·exact (below_then HBW2.out hal HBW2.out.size).grown HGRW.out (by have := HBW2.out.size; simp; omega) (fun g hg => (HR3.out.lt g hg).1)
       ·refine ((HBL2.out.below hal HBL2.out.lt).grown HGRW.out fun e => ?_)
        exact own_blk_ne HR3.out HBL2.out (by decide) e.symm
     | false =>
      go_wp2_with fail
      go_meet
      case rel =>
       rcases HTB.out with ⟨h, _⟩ | ⟨_, P, x, hg, hx⟩
       ·cases h
       ·rcases HST.out with ⟨h0, _⟩ | ⟨P', x', vs, hg', hPB⟩
        ·rw [h0] at hg; simp [grpUp] at hg
        ·rw [hg] at hg'
         obtain ⟨rfl, hxx⟩ := List.append_inj' hg' rfl
         simp only [List.cons.injEq, and_true] at hxx
         subst hxx
         refine ⟨P, x, vs, hPB.below HBQ.out, hx, ?_, ?_, ?_, HBW2.out, HBL2.out⟩
         ·rw [HNX.out, hg, grp1_same hx]
         ·have := HSMI.out.1
          rw [hg, List.length_append] at this
          omega
         ·have := HSMI.out.2 x (by rw [hg]; simp)
          omega
    case rest =>
     obtain ⟨P, x, vs, hPB, hxd, hgn, hPl, hxl, hBc, hblc⟩ := hcut
     obtain ⟨Avs, cvs, hvs⟩ := own_slice hPB.spots
     subst hvs
     obtain ⟨pl, cl, hv, hcc0, -, -⟩ := hPB.at
     subst hv
     obtain ⟨wd, hwc⟩ : ∃ z, z = wc := ⟨_, rfl⟩
     have HPN : Hid (pb ≠ (pl.add (P.length * 2)).block) := Lib.hid (fun e => by
      obtain ⟨R, hR1, hR2, hR3⟩ := hPB.row
      refine own_blk_ne hR2 hblc (by decide) ?_
      rw [e]
      have : (pl.add (P.length * 2)).block = pl.block := by unfold Addr.add; split <;> rfl
      rw [this]
      rfl)
     have HPV : Hid (∀ g, Value.ownBlock (.slice Avs x.2.length cvs) = some g → w.heap.size ≤ g ∧ g ≠ pb) := Lib.hid (fun g hg => ⟨(hPB.spots.lt g hg).1, fun e => own_blk_ne hPB.spots hblc (by decide) (by rw [hg, e])⟩)
     have HGN := Lib.hid hgn
     have HXD := Lib.hid hxd
     rw [← hwc] at hPB hBc hblc ⊢
     have HP1 := Lib.hid hPB
     have HW1' := Lib.hid hBc
     have HN1 := Lib.hid hblc
     obtain ⟨m, hm⟩ : ∃ m, m = P.length := ⟨_, rfl⟩
     obtain ⟨N2, hN2⟩ : ∃ N2, N2 = P.length + 1 := ⟨_, rfl⟩
     have HM := Lib.hid hm
     have HN2 := Lib.hid hN2
     have hsub : IntKind.i64.wrap ((N2 : Int) - 1) = (m : Int) := by rw [IntWalk.i64_in _ (by omega)]; omega
     have q0 : (0 : Int) ≤ (m : Int) := by omega
     have q1 : (m : Int) < (N2 : Int) := by omega
     rw [← hm] at HPN hPl
     rw [← hN2] at HP1 ⊢
     obtain ⟨sl, hsl⟩ : ∃ sl, sl = x.2.length := ⟨_, rfl⟩
     have HSL := Lib.hid hsl
     rw [← hsl] at HP1 hxl HPV
     clear hPB hBc hblc hgn hxd hwc hm hN2 hcc0 hsl
     go_upto_region 8 with fail
     refine wp_region_held_drew (S := fun w' => w'.cell? ⟨pb, 1, none⟩ = some (.int .i64 pp) ∧ w'.cell? ⟨pb, 2, none⟩ = some (.int .i64 pz)) (by kernel_rfl) ⟨HN1.out.cell 1, HN1.out.cell 2⟩ (fun hHeld => ?_)
     obtain ⟨u0, hu0⟩ : ∃ z, z = wd.drew := ⟨_, rfl⟩
     rw [← hu0] at hHeld ⊢
     have HP2 := Lib.hid (show PostB u0 w.heap.size (.slice (some pl) N2 cl) (.slice Avs sl cvs) P x from by rw [hu0]; exact HP1.out.below (below_drewN (Below.refl _ wd) 1))
     have HW2' := Lib.hid (show Below w.heap.size w u0 from by rw [hu0]; exact HW1'.out.drew)
     have HN2' := Lib.hid (show Blk u0 pb _ _ from by rw [hu0]; exact HN1.out.drew)
     have hS0 : (fun w' : World => w'.cell? ⟨pb, 1, none⟩ = some (.int .i64 pp) ∧ w'.cell? ⟨pb, 2, none⟩ = some (.int .i64 pz)) u0 := ⟨HN2'.out.cell 1, HN2'.out.cell 2⟩
     clear hu0
     refine wpAnyH_take (i := 0) (oi := ?oiz10) (v := ?vz10) ?hiz10 (by kernel_rfl) (by kernel_rfl) (by kernel_rfl) ?hQz10 (Or.inl ⟨?hwz10, ?hyz10⟩) (by assumption) ?restz10
     case hiz10 => (first | (simp only [lz0, lz1, lz2]; rfl) | rfl)
     case hQz10 => exact fun _ _ _ h => h
     case hwz10 => rfl
     case hyz10 => ((intro w hSw; go_simp); first | done | with_reducible rfl)
     try simp only [Act.put, lz3, lz4, lz5]
     refine wpAnyH_take (i := 1) (oi := ?oiz21) (v := ?vz21) ?hiz21 (by kernel_rfl) (by kernel_rfl) (by kernel_rfl) ?hQz21 (Or.inl ⟨?hwz21, ?hyz21⟩) (by assumption) ?restz21
     case hiz21 => (first | (simp only [lz0, lz1, lz2]; rfl) | rfl)
     case hQz21 => exact fun _ _ _ h => h
     case hwz21 => rfl
     case hyz21 => ((intro w hSw; go_simp); first | done | with_reducible rfl)
     try simp only [Act.put, lz3, lz4, lz5]
     refine wpAnyH_take (i := 5) (oi := ?oiz35) (v := ?vz35) ?hiz35 (by kernel_rfl) (by kernel_rfl) (by kernel_rfl) ?hQz35 (Or.inl ⟨?hwz35, ?hyz35⟩) (by assumption) ?restz35
     case hiz35 => (first | (simp only [lz0, lz1, lz2]; rfl) | rfl)
     case hQz35 => exact fun _ _ _ h => h
     case hwz35 => rfl
     case hyz35 => ((intro w hSw; go_simp); first | done | with_reducible rfl)
     try simp only [Act.put, lz3, lz4, lz5]
     refine wpAnyH_take (i := 2) (oi := ?oiz42) (v := ?vz42) ?hiz42 (by kernel_rfl) (by kernel_rfl) (by kernel_rfl) ?hQz42 (Or.inl ⟨?hwz42, ?hyz42⟩) (by assumption) ?restz42
     case hiz42 => (first | (simp only [lz0, lz1, lz2]; rfl) | rfl)
     case hQz42 => exact fun _ _ _ h => h
     case hwz42 => rfl
     case hyz42 => ((intro w hSw; go_simp); first | done | with_reducible rfl)
     try simp only [Act.put, lz3, lz4, lz5]
     refine wpAnyH_take (i := 6) (oi := ?oiz56) (v := ?vz56) ?hiz56 (by kernel_rfl) (by kernel_rfl) (by kernel_rfl) ?hQz56 (Or.inl ⟨?hwz56, ?hyz56⟩) (by assumption) ?restz56
     case hiz56 => (first | (simp only [lz0, lz1, lz2]; rfl) | rfl)
     case hQz56 => exact fun _ _ _ h => h
     case hwz56 => rfl
     case hyz56 => ((intro w hSw; go_simp); first | done | with_reducible rfl)
     try simp only [Act.put, lz3, lz4, lz5]
     refine wpAnyH_take (i := 3) (oi := ?oiz63) (v := ?vz63) ?hiz63 (by kernel_rfl) (by kernel_rfl) (by kernel_rfl) ?hQz63 (Or.inl ⟨?hwz63, ?hyz63⟩) (by assumption) ?restz63
     case hiz63 => (first | (simp only [lz0, lz1, lz2]; rfl) | rfl)
     case hQz63 => exact fun _ _ _ h => h
     case hwz63 => rfl
     case hyz63 => ((intro w hSw; go_simp); first | done | with_reducible rfl)
     try simp only [Act.put, lz3, lz4, lz5]
     refine wpAnyH_ready (rs := [4, 7]) (by kernel_rfl) (by simp) ?_
     refine AllReadyH.cons (o := ?oz7) ?hz7 ?sz7 (AllReadyH.cons (o := ?oz8) ?hz8 ?sz8 AllReadyH.nil)
     case hz7 => (simp only [lz0, lz1, lz2]; rfl)
     case hz8 => (simp only [lz0, lz1, lz2]; rfl)
     case sz7 =>
      intro K hK
      obtain ⟨-, -, yq1⟩ := HP2.out.atV
      rw [← HM.out] at yq1
      go_simp
      clear yq1
      refine hK.out _ _ ⟨HN2'.out.cell 1, HN2'.out.cell 2⟩ (fun hz9 => ?_)
      clear hK K
      try simp only [Act.put, lz3, lz4, lz5]
      refine wpAnyH_ready (rs := [7]) (by kernel_rfl) (by simp) ?_
      refine AllReadyH.cons (o := ?oz10) ?hz10 ?sz10 AllReadyH.nil
      case hz10 => (simp only [lz0, lz1, lz2]; rfl)
      case sz10 =>
       intro K hK
       go_simp
       obtain ⟨uq2, huq3⟩ : ∃ zz, zz = u0.alloc (.cells #[.int .i64 pp, .int .i64 pz] 64) := ⟨_, rfl⟩
       have Mq7 : Hid (Blk uq2 u0.heap.size 64 #[.int .i64 pp, .int .i64 pz]) := Lib.hid (by rw [huq3]; exact Blk.new _ _ _)
       rw [← huq3]
       have hNq4 : Below u0.heap.size u0 uq2 := by rw [huq3]; exact (Below.refl _ u0).alloc (Nat.le_refl _) _
       have Nq4 := Lib.hid (HN2'.out.below hNq4 HN2'.out.lt)
       have Pq6 := Lib.hid (HP2.out.below hNq4)
       have Wq5 := Lib.hid (below_then HW2'.out hNq4 HW2'.out.size)
       clear huq3 hNq4
       refine hK.out _ _ ⟨Nq4.out.cell 1, Nq4.out.cell 2⟩ (fun hz11 => ?_)
       clear hK K
       try simp only [Act.put, lz3, lz4, lz5]
       refine wpAnyH_ready (rs := [8]) (by kernel_rfl) (by simp) ?_
       refine AllReadyH.cons (o := ?oz12) ?hz12 ?sz12 AllReadyH.nil
       case hz12 => (simp only [lz0, lz1, lz2]; rfl)
       case sz12 =>
        intro K hK
        refine step_append_recK _ rfl (.tmp 50) (.tmp 53) 60 rfl w.heap.size 64 i1 _ 2 16 Tryz.underlying60 hi1 hy0 hy1 hy2 rfl (by decide) _ sl _ rfl (by have h1 := Pq6.out.spots; rw [← HSL.out] at h1; exact h1) ⟨u0.heap.size, 0, none⟩ 1 1 (twoCells (pp, pz)) rfl rfl (doc_src (p := (pp, .int .i64 pz)) Mq7.out) (two_one _) (by unfold maxLen; omega) (by omega) Wq5.out.size ?_
        intro vq12 uq8 hwq9 hgq10 hlq11
        obtain ⟨Avq12, cvq12, rfl⟩ := own_slice hwq9
        have Nq13 := Lib.hid (Nq4.out.grown hgq10 (fun e => (HPV.out pb e.symm).2 rfl))
        have Wq14 := Lib.hid (Wq5.out.grown hgq10 Wq5.out.size (fun g hg => (HPV.out g hg).1))
        have Hhwq9 := Lib.hid hwq9
        have Hhgq10 := Lib.hid hgq10
        have Hhlq11 := Lib.hid hlq11
        clear hwq9 hgq10 hlq11
        refine hK.out _ _ ⟨Nq13.out.cell 1, Nq13.out.cell 2⟩ (fun hz13 => ?_)
        clear hK K
        try simp only [Act.put, lz3, lz4, lz5]
        refine wpAnyH_take (i := 9) (oi := ?oiz149) (v := ?vz149) ?hiz149 (by kernel_rfl) (by kernel_rfl) (by kernel_rfl) ?hQz149 (Or.inl ⟨?hwz149, ?hyz149⟩) (by assumption) ?restz149
        case hiz149 => (first | (simp only [lz0, lz1, lz2]; rfl) | rfl)
        case hQz149 => exact fun _ _ _ h => h
        case hwz149 => rfl
        case hyz149 => ((intro w hSw; go_simp); first | done | with_reducible rfl)
        try simp only [Act.put, lz3, lz4, lz5]
        refine wpAnyH_take (i := 10) (oi := ?oiz1510) (v := ?vz1510) ?hiz1510 (by kernel_rfl) (by kernel_rfl) (by kernel_rfl) ?hQz1510 (Or.inl ⟨?hwz1510, ?hyz1510⟩) (by assumption) ?restz1510
        case hiz1510 => (first | (simp only [lz0, lz1, lz2]; rfl) | rfl)
        case hQz1510 => exact fun _ _ _ h => h
        case hwz1510 => rfl
        case hyz1510 => ((intro w hSw; go_simp); first | done | with_reducible rfl)
        try simp only [Act.put, lz3, lz4, lz5]
        refine wpAnyH_ready (rs := [11]) (by kernel_rfl) (by simp) ?_
        refine AllReadyH.cons (o := ?oz16) ?hz16 ?sz16 AllReadyH.nil
        case hz16 => (simp only [lz0, lz1, lz2]; rfl)
        case sz16 =>
         intro K hK
         obtain ⟨kq15, fzq16, hbq17, hpq18⟩ := PostB.spot (s := (pp, pz)) Pq6.out Hhgq10.out (by rw [← HSL.out]; exact Hhwq9.out) Hhlq11.out (by have h1 := HPF.out; exact ⟨by unfold fits64; omega, by unfold fits64; omega⟩)
         rw [← HM.out] at kq15 fzq16 hbq17 hpq18
         go_simp
         clear kq15 fzq16
         have Nq19 := Lib.hid (Nq13.out.far (p := ⟨(pl.add (m * 2)).block, (pl.add (m * 2)).off + 1, none⟩) HPN.out (.slice Avq12 (sl + 1) cvq12))
         have Wq20 := Lib.hid (Wq14.out.setCell (p := ⟨(pl.add (m * 2)).block, (pl.add (m * 2)).off + 1, none⟩) hbq17 (.slice Avq12 (sl + 1) cvq12))
         have Pq21 := Lib.hid hpq18
         clear hbq17 hpq18
         refine hK.out _ _ ⟨Nq19.out.cell 1, Nq19.out.cell 2⟩ (fun hz17 => ?_)
         clear hK K
         try simp only [Act.put, lz3, lz4, lz5]
         refine wpAnyH_done (by kernel_rfl) ?_ _
         go_wp2
         go_roundw
         case rel => exact ⟨i + 1, by omega, by go_num, Wq20.out, .inr ⟨P, _, _, HGN.out, Pq21.out⟩⟩
         case measure => simp [Go.RowKit.intOf]; omega
     case sz8 =>
      intro K hK
      go_simp
      obtain ⟨uq22, huq23⟩ : ∃ zz, zz = u0.alloc (.cells #[.int .i64 pp, .int .i64 pz] 64) := ⟨_, rfl⟩
      have Mq27 : Hid (Blk uq22 u0.heap.size 64 #[.int .i64 pp, .int .i64 pz]) := Lib.hid (by rw [huq23]; exact Blk.new _ _ _)
      rw [← huq23]
      have hNq24 : Below u0.heap.size u0 uq22 := by rw [huq23]; exact (Below.refl _ u0).alloc (Nat.le_refl _) _
      have Nq24 := Lib.hid (HN2'.out.below hNq24 HN2'.out.lt)
      have Pq26 := Lib.hid (HP2.out.below hNq24)
      have Wq25 := Lib.hid (below_then HW2'.out hNq24 HW2'.out.size)
      clear huq23 hNq24
      refine hK.out _ _ ⟨Nq24.out.cell 1, Nq24.out.cell 2⟩ (fun hz18 => ?_)
      clear hK K
      try simp only [Act.put, lz3, lz4, lz5]
      refine wpAnyH_ready (rs := [4]) (by kernel_rfl) (by simp) ?_
      refine AllReadyH.cons (o := ?oz19) ?hz19 ?sz19 AllReadyH.nil
      case hz19 => (simp only [lz0, lz1, lz2]; rfl)
      case sz19 =>
       intro K hK
       obtain ⟨-, -, yq28⟩ := Pq26.out.atV
       rw [← HM.out] at yq28
       go_simp
       clear yq28
       refine hK.out _ _ ⟨Nq24.out.cell 1, Nq24.out.cell 2⟩ (fun hz20 => ?_)
       clear hK K
       try simp only [Act.put, lz3, lz4, lz5]
       refine wpAnyH_ready (rs := [8]) (by kernel_rfl) (by simp) ?_
       refine AllReadyH.cons (o := ?oz21) ?hz21 ?sz21 AllReadyH.nil
       case hz21 => (simp only [lz0, lz1, lz2]; rfl)
       case sz21 =>
        intro K hK
        refine step_append_recK _ rfl (.tmp 50) (.tmp 53) 60 rfl w.heap.size 64 i1 _ 2 16 Tryz.underlying60 hi1 hy0 hy1 hy2 rfl (by decide) _ sl _ rfl (by have h1 := Pq26.out.spots; rw [← HSL.out] at h1; exact h1) ⟨u0.heap.size, 0, none⟩ 1 1 (twoCells (pp, pz)) rfl rfl (doc_src (p := (pp, .int .i64 pz)) Mq27.out) (two_one _) (by unfold maxLen; omega) (by omega) Wq25.out.size ?_
        intro vq33 uq29 hwq30 hgq31 hlq32
        obtain ⟨Avq33, cvq33, rfl⟩ := own_slice hwq30
        have Nq34 := Lib.hid (Nq24.out.grown hgq31 (fun e => (HPV.out pb e.symm).2 rfl))
        have Wq35 := Lib.hid (Wq25.out.grown hgq31 Wq25.out.size (fun g hg => (HPV.out g hg).1))
        have Hhwq30 := Lib.hid hwq30
        have Hhgq31 := Lib.hid hgq31
        have Hhlq32 := Lib.hid hlq32
        clear hwq30 hgq31 hlq32
        refine hK.out _ _ ⟨Nq34.out.cell 1, Nq34.out.cell 2⟩ (fun hz22 => ?_)
        clear hK K
        try simp only [Act.put, lz3, lz4, lz5]
        refine wpAnyH_take (i := 9) (oi := ?oiz239) (v := ?vz239) ?hiz239 (by kernel_rfl) (by kernel_rfl) (by kernel_rfl) ?hQz239 (Or.inl ⟨?hwz239, ?hyz239⟩) (by assumption) ?restz239
        case hiz239 => (first | (simp only [lz0, lz1, lz2]; rfl) | rfl)
        case hQz239 => exact fun _ _ _ h => h
        case hwz239 => rfl
        case hyz239 => ((intro w hSw; go_simp); first | done | with_reducible rfl)
        try simp only [Act.put, lz3, lz4, lz5]
        refine wpAnyH_take (i := 10) (oi := ?oiz2410) (v := ?vz2410) ?hiz2410 (by kernel_rfl) (by kernel_rfl) (by kernel_rfl) ?hQz2410 (Or.inl ⟨?hwz2410, ?hyz2410⟩) (by assumption) ?restz2410
        case hiz2410 => (first | (simp only [lz0, lz1, lz2]; rfl) | rfl)
        case hQz2410 => exact fun _ _ _ h => h
        case hwz2410 => rfl
        case hyz2410 => ((intro w hSw; go_simp); first | done | with_reducible rfl)
        try simp only [Act.put, lz3, lz4, lz5]
        refine wpAnyH_ready (rs := [11]) (by kernel_rfl) (by simp) ?_
        refine AllReadyH.cons (o := ?oz25) ?hz25 ?sz25 AllReadyH.nil
        case hz25 => (simp only [lz0, lz1, lz2]; rfl)
        case sz25 =>
         intro K hK
         obtain ⟨kq36, fzq37, hbq38, hpq39⟩ := PostB.spot (s := (pp, pz)) Pq26.out Hhgq31.out (by rw [← HSL.out]; exact Hhwq30.out) Hhlq32.out (by have h1 := HPF.out; exact ⟨by unfold fits64; omega, by unfold fits64; omega⟩)
         rw [← HM.out] at kq36 fzq37 hbq38 hpq39
         go_simp
         clear kq36 fzq37
         have Nq40 := Lib.hid (Nq34.out.far (p := ⟨(pl.add (m * 2)).block, (pl.add (m * 2)).off + 1, none⟩) HPN.out (.slice Avq33 (sl + 1) cvq33))
         have Wq41 := Lib.hid (Wq35.out.setCell (p := ⟨(pl.add (m * 2)).block, (pl.add (m * 2)).off + 1, none⟩) hbq38 (.slice Avq33 (sl + 1) cvq33))
         have Pq42 := Lib.hid hpq39
         clear hbq38 hpq39
         refine hK.out _ _ ⟨Nq40.out.cell 1, Nq40.out.cell 2⟩ (fun hz26 => ?_)
         clear hK K
         try simp only [Act.put, lz3, lz4, lz5]
         refine wpAnyH_done (by kernel_rfl) ?_ _
         go_wp2
         go_roundw
         case rel => exact ⟨i + 1, by omega, by go_num, Wq41.out, .inr ⟨P, _, _, HGN.out, Pq42.out⟩⟩
         case measure => simp [Go.RowKit.intOf]; omega
  ·obtain rfl : i = n := by omega
   have hlz : ¬ ((i : Int) < (i : Int)) := by omega
   have d1 : decide ((i : Int) < (i : Int)) = false := by simp
   have HFN : Hid (grpUp (ps.take i) = mPosts L t) := Lib.hid (by rw [HN.out, List.take_length]; exact HPO.out)
   have HO : Hid (PostsO wr w.heap.size u5 (mPosts L t)) := Lib.hid (by
    rw [← HFN.out]
    rcases HST.out with ⟨rfl, rfl⟩ | ⟨P, x, vs, hg, hPB⟩
    ·exact PostsO.nil _ _
    ·rw [hg]
     exact hPB.posts (by have := HSMI.out.2 x (by rw [hg]; simp); unfold maxLen; omega))
   have hML : (mPosts L t).length ≤ 20000 := by have := HSMI.out.1; rw [HFN.out] at this; omega
   clear HOV
   go_wp2
   go_ret
   obtain ⟨Ax, cx, hv, hc⟩ : ∃ A c, u5 = .slice A (mPosts L t).length c ∧ (mPosts L t).length ≤ c := by
    obtain ⟨R, _, h1, _⟩ := HO.out
    obtain ⟨A, c, rfl⟩ := own_slice h1
    exact ⟨A, c, rfl, rowCap_le h1⟩
   subst hv
   exact ⟨Ax, cx, rfl, HO.out.see rfl (by unfold maxLen; omega), hc, HBW.out⟩
end Go.Proofs.YthcjikpabpgpfaaGreat
namespace Go.Proofs.YthcjikpabpgpfaaGreat
open Go.RowKit Go.Maps Go.WideMaps Go.Shelf
theorem calls_at {P : Program} {f : FuncId} {args : Array Value} {w : World} {Q : Ending → World → Prop} (h : ∀ W, W = w → Calls P f args W Q) : Calls P f args w Q := h w rfl
def intRes (l : Nm) (most : Int) : Int × Nat × Int :=
 if (getL l).2.2 ≠ 0 then (0, 0, (getL l).2.2) else if most < 0 ∨ most < ((getL l).1 : Int) then (0, 0, 32) else ((getL l).1, (getL l).2.1, 0)
theorem rInt_eq {s : Rd} (hs : s.e = 0) (most : Int) : rInt s most = ((intRes (rRest s) most).1, if (intRes (rRest s) most).2.2 ≠ 0 then { s with e := (intRes (rRest s) most).2.2 } else { s with p := s.p + (intRes (rRest s) most).2.1 }) := by
 unfold rInt intRes
 rw [if_neg (by simpa using hs), rRest_ok hs]
 rcases getL (s.bs.drop s.p) with ⟨v, j, e⟩
 by_cases he : e = 0
 ·subst he
  by_cases hm : most < 0 ∨ most < (v : Int)
  ·simp [hm]
  ·simp [hm]
 ·simp [he]
theorem lInt1_any (w : World) (A : Option Addr) (n c : Nat) (l : Nm) (hl : BytesIn w A n l) (m f : Nat) (most : Int) (hm1 : -9223372036854775808 ≤ most) (hm2 : most ≤ 9223372036854775807) (hm : Blk w m 3 #[.int .i64 most]) (hf : Blk w f 3 #[.int .i64 0]) :
  Calls Tryz.prog 147 #[.slice A n c, at0 m, at0 f] w fun e w1 => e = .returned (.tuple #[.int .i64 ((intRes l most).2.1 : Nat), .int .i64 (intRes l most).2.2]) ∧ Blk w1 f 3 #[.int .i64 (intRes l most).1] ∧ Kept (fun i => i = f) w w1 ∧ ((intRes l most).2.2 = 0 → (intRes l most).2.1 ≤ n) := by
 have HL := Lib.hid hl
 have hln : l.length = n := by have := hl.2.1.len; simpa using this
 have HLN := Lib.hid hln
 have HF := Lib.hid hf
 have c0 := hm.cell 0
 have f0 := hf.cell 0
 have z0 := hf.frozen 0
 simp at c0 f0
 clear hl hln hm hf
 unfold at0
 obtain ⟨v, j, er, hg⟩ : ∃ v j e, getL l = (v, j, e) := ⟨_, _, _, rfl⟩
 have HG := Lib.hid hg
 obtain ⟨r, hr⟩ : ∃ r, r = intRes l most := ⟨_, rfl⟩
 rw [← hr]
 have hr2 : r = if er ≠ 0 then (0, 0, er) else if most < 0 ∨ most < (v : Int) then (0, 0, 32) else ((v : Int), j, 0) := by
  rw [hr]
  unfold intRes
  rw [hg]
 clear hr hg
 go_enter Tryz.func147, Tryz.ntmps147
 go_wp2_with fail
 refine (lGet_is w A n c l HL.out HG.out).mono ?_
 rintro e w1 ⟨rfl, hw⟩
 rw [hw]
 clear hw
 by_cases he : er = 0
 ·subst he
  rw [if_neg (by simp)] at hr2
  by_cases ho : most < 0 ∨ most < (v : Int)
  ·rw [if_pos ho] at hr2
   have hd := decide_eq_true ho
   clear ho
   go_wp2_with fail
   refine (lOver_any w v most hm1 hm2).mono ?_
   rintro e w1 ⟨rfl, hw⟩
   rw [hw, hd]
   clear hw hd
   go_wp2
   go_ret2
   rw [hr2]
   exact ⟨rfl, HF.out, Kept.refl _ _, fun _ => Nat.zero_le _⟩
  ·rw [if_neg ho] at hr2
   have hd := decide_eq_false ho
   have hgi := getL_inv HG.out
   obtain ⟨q1, q2, q3, q4, q5⟩ := hgi
   rw [HLN.out] at q3
   have hvz : IntKind.i64.wrap (v : Int) = (v : Int) := IntWalk.i64_in _ (by omega)
   clear ho q4
   go_wp2_with fail
   refine (lOver_any w v most hm1 hm2).mono ?_
   rintro e w1 ⟨rfl, hw⟩
   rw [hw, hd]
   clear hw hd
   go_wp2
   go_ret2
   rw [hr2]
   exact ⟨rfl, by simpa using HF.out.set_ 0 (.int .i64 (v : Int)), (Kept.refl (fun i => i = f) w).setCell (.inl rfl) _, fun _ => q3⟩
 ·rw [if_pos he] at hr2
  have d1 : (er != 0) = true := by simpa using he
  have HE := Lib.hid he
  clear he
  go_wp2
  go_ret2
  rw [hr2]
  exact ⟨rfl, HF.out, Kept.refl _ _, fun _ => Nat.zero_le _⟩
theorem lInt_any (w : World) (b : Nat) (g : Nat → Prop) (s : Rd) (hR : IsR w b g s) (most : Int) (hm1 : -9223372036854775808 ≤ most) (hm2 : most ≤ 9223372036854775807) :
  Calls Tryz.prog 102 #[at0 b, .int .i64 most] w fun e w' => e = .returned (.int .i64 (rInt s most).1) ∧ IsR w' b g (rInt s most).2 ∧ Kept (fun i => i = b) w w' := by
 have HR := Lib.hid hR
 have hbl : b < w.heap.size := by obtain ⟨A, c, h1, _⟩ := hR.at_; exact h1.lt
 clear hR
 unfold at0
 go_enter Tryz.func102, Tryz.ntmps102
 go_wp2_with fail
 refine calls_at ?_
 intro W hW
 have hWk : Kept (fun _ => False) w W := by rw [hW]; exact ((Kept.refl _ w).alloc _).alloc _
 have hb1 : Blk W w.heap.size 3 #[.int .i64 most] := by rw [hW]; exact (Blk.new _ _ _).alloc _
 have hb2 : Blk W (w.heap.size + 1) 3 #[.int .i64 0] := by rw [hW]; have := Blk.new (w.alloc (.cells #[.int .i64 most] 3)) 3 #[.int .i64 0]; simpa using this
 have hR2 := HR.out.kept hWk (fun h => h) (fun _ _ h => h)
 clear hW
 refine (lRead_any 147 #[at0 w.heap.size, at0 (w.heap.size + 1)] (enters_of Tryz.func147 (by kernel_rfl) rfl) W b g s hR2 (fun i => i = w.heap.size + 1) (by omega) (fun i hi e => by have := HR.out.lt i hi; omega) (fun k er w1 => s.e = 0 ∧ Blk w1 (w.heap.size + 1) 3 #[.int .i64 (intRes (rRest s) most).1] ∧ k = (intRes (rRest s) most).2.1 ∧ er = (intRes (rRest s) most).2.2) ?_).mono ?_
 ·intro hs A c h1 h2
  refine (lInt1_any W A _ c (rRest s) h1 w.heap.size (w.heap.size + 1) most hm1 hm2 hb1 hb2).mono ?_
  rintro e w1 ⟨rfl, h3, h4, h5⟩
  exact ⟨_, _, rfl, ⟨hs, h3, rfl, rfl⟩, h4, h5⟩
 ·rintro e w' ⟨rfl, h⟩
  have hres : ∃ r : Int × Rd, r = rInt s most ∧ Blk w' (w.heap.size + 1) 3 #[.int .i64 r.1] ∧ IsR w' b g r.2 ∧ Kept (fun i => i = b) w w' := by
   rcases h with ⟨hs, rfl⟩ | ⟨hs, k, er, w1, ⟨_, h1, rfl, rfl⟩, h2, h3, h4⟩
   ·refine ⟨(0, s), ?_, hb2, hR2, hWk.mono (fun _ h => h.elim)⟩
    unfold rInt
    rw [if_pos hs]
   ·refine ⟨((intRes (rRest s) most).1, if (intRes (rRest s) most).2.2 ≠ 0 then { s with e := (intRes (rRest s) most).2.2 } else { s with p := s.p + (intRes (rRest s) most).2.1 }), ?_, h1.kept h3 (by omega), h4, (Kept.trans (F := fun i => i = b) (hWk.mono (fun _ h => h.elim)) h2 ?_).trans h3 (fun i _ h => h)⟩
    ·exact (rInt_eq hs most).symm
    ·intro i hi h; omega
  obtain ⟨r, hr, hf, hR3, hk3⟩ := hres
  have HRR := Lib.hid hr
  have f0 := hf.cell 0
  simp at f0
  have HR3 := Lib.hid hR3
  have HK3 := Lib.hid hk3
  clear hr hf hR3 hk3 h hb1 hb2 hR2 hWk
  go_wp2
  go_ret
  rw [← HRR.out]
  exact ⟨rfl, HR3.out, HK3.out⟩
def bytesRes (l : Nm) (n : Int) : List UInt8 × Nat × Int := if (l.length : Int) < n then ([], 0, 31) else (l.take n.toNat, n.toNat, 0)
theorem rBytes_eq {s : Rd} (hs : s.e = 0) (hok : s.Ok) {n : Int} (hn : ¬ n ≤ 0) : rBytes s n = ((bytesRes (rRest s) n).1, if (bytesRes (rRest s) n).2.2 ≠ 0 then { s with e := (bytesRes (rRest s) n).2.2 } else { s with p := s.p + (bytesRes (rRest s) n).2.1 }) := by
 have hp := hok.place
 unfold rBytes bytesRes
 rw [if_neg (by rintro (h | h) <;> contradiction), rRest_ok hs]
 have e : ((s.bs.drop s.p).length : Int) = (s.bs.length : Int) - s.p := by rw [List.length_drop]; omega
 rw [e]
 by_cases h : (s.bs.length : Int) - s.p < n
 ·rw [if_pos h, if_pos h, if_pos (show (31 : Int) ≠ 0 by decide)]
 ·rw [if_neg h, if_neg h, if_neg (show ¬ (0 : Int) ≠ 0 by decide)]
theorem lBytes1_any (w : World) (A : Option Addr) (k c : Nat) (l : Nm) (hl : BytesIn w A k l) (hkc : k ≤ c) (hkl : k ≤ 1099511627776) (m f : Nat) (n : Int) (h0 : ¬ n ≤ 0) (hm : Blk w m 3 #[.int .i64 n]) (hf : Blk w f 24 #[.slice none 0 0]) (hmf : m ≠ f) :
  Calls Tryz.prog 175 #[.slice A k c, at0 m, at0 f] w fun e w1 => e = .returned (.tuple #[.int .i64 ((bytesRes l n).2.1 : Nat), .int .i64 (bytesRes l n).2.2]) ∧ (∃ v, Blk w1 f 24 #[v] ∧ w1.ownsRow w.heap.size 5 1 v (bytesRes l n).1.length ((bytesRes l n).1.map byteV)) ∧ Kept (fun i => i = f) w w1 ∧ ((bytesRes l n).2.2 = 0 → (bytesRes l n).2.1 ≤ k) := by
 have HL := Lib.hid hl
 have hln : l.length = k := by have := hl.2.1.len; simpa using this
 have HLN := Lib.hid hln
 have HF := Lib.hid hf
 have HM := Lib.hid hm
 have hfl := hf.lt
 have hml := hm.lt
 have c0 := hm.cell 0
 have z0 := hf.frozen 0
 simp at c0
 obtain ⟨r, hr⟩ : ∃ r, r = bytesRes l n := ⟨_, rfl⟩
 rw [← hr]
 unfold bytesRes at hr
 rw [hln] at hr
 clear hl hln hm hf
 unfold at0
 by_cases hlt : (k : Int) < n
 ·rw [if_pos hlt] at hr
  have HRR := Lib.hid hr
  clear hr
  go_enter Tryz.func175, Tryz.ntmps175
  go_wp2
  go_ret2
  rw [HRR.out]
  exact ⟨rfl, ⟨_, HF.out, ⟨rfl, .inl ⟨rfl, rfl⟩⟩⟩, Kept.refl _ _, fun _ => Nat.zero_le _⟩
 ·rw [if_neg hlt] at hr
  obtain ⟨N, rfl⟩ : ∃ N : Nat, n = N := ⟨n.toNat, by omega⟩
  rw [Int.toNat_natCast] at hr
  have hNk : N ≤ k := by omega
  have HRR := Lib.hid hr
  clear hr
  have s1 : ∀ w, (Instr.slice 24 (.slice A k c) none (some (.int .i64 N)) none).run Tryz.prog w = .ok (.slice A N c) w := fun w => slice_to w A k c N (by omega)
  go_enter Tryz.func175, Tryz.ntmps175
  go_wp2_with fail
  refine (clone_any w A N c (l.take N) (HL.out.upto N hNk) (by omega)).mono ?_
  rintro e w1 ⟨v, rfl, hO, hB⟩
  obtain ⟨A2, c2, hv⟩ := own_slice hO
  subst hv
  have HO := Lib.hid hO
  have HB := Lib.hid hB
  have m1 := HM.out.below hB hml
  have f1 := HF.out.below hB hfl
  have k0 := m1.cell 0
  have y0 := f1.frozen 0
  have f0 := f1.cell 0
  simp at k0 f0
  have HF1 := Lib.hid f1
  have j0 : (w1.setCell ⟨f, 0, none⟩ (.slice A2 N c2)).cell? ⟨m, 0, none⟩ = some (.int .i64 N) := by
   rw [(m1.far (p := ⟨f, 0, none⟩) hmf (.slice A2 N c2)).cell 0]
   rfl
  clear hO hB m1 f1 c0 z0
  go_wp2
  go_ret2
  rw [HRR.out]
  have hlen : (l.take N).length = N := by rw [List.length_take, HLN.out]; omega
  refine ⟨rfl, ⟨.slice A2 N c2, by simpa using HF1.out.set_ 0 (.slice A2 N c2), ?_⟩, (Kept.below (F := fun i => i = f) HB.out).setCell (.inl rfl) _, fun _ => hNk⟩
  show World.ownsRow _ _ _ _ _ (l.take N).length _
  rw [hlen]
  exact ownsRow_block HO.out fun g hg => heap_setCell_other _ _ _ fun e => by
   have := (HO.out.lt g hg).1
   simp at e
   omega
def LBytesOut (w : World) (b : Nat) (g : Nat → Prop) (r : List UInt8 × Rd) (e : Ending) (w' : World) : Prop :=
 ∃ v, e = .returned v ∧ w'.ownsRow w.heap.size 5 1 v r.1.length (r.1.map byteV) ∧ IsR w' b g r.2 ∧ Kept (fun i => i = b) w w'
theorem lBytes_any (w : World) (b : Nat) (g : Nat → Prop) (s : Rd) (hR : IsR w b g s) (n : Int) (hm1 : -9223372036854775808 ≤ n) (hm2 : n ≤ 9223372036854775807) :
  Calls Tryz.prog 152 #[at0 b, .int .i64 n] w (LBytesOut w b g (rBytes s n)) := by
 have HR := Lib.hid hR
 have hbl : b < w.heap.size := by obtain ⟨A, c, h1, _⟩ := hR.at_; exact h1.lt
 clear hR
 unfold at0
 by_cases hn : n ≤ 0
 ·have hres : rBytes s n = ([], s) := by unfold rBytes; rw [if_pos (.inr hn)]
  rw [hres]
  clear hres
  go_enter Tryz.func152, Tryz.ntmps152
  go_wp2
  go_ret
  have hWk : Kept (fun _ => False) w (w.alloc (.cells #[.int .i64 n] 3)) := (Kept.refl _ w).alloc _
  exact ⟨_, rfl, ⟨rfl, .inl ⟨rfl, rfl⟩⟩, HR.out.kept hWk (fun h => h) (fun _ _ h => h), hWk.mono (fun _ h => h.elim)⟩
 have HN := Lib.hid hn
 go_enter Tryz.func152, Tryz.ntmps152
 go_wp2_with fail
 refine calls_at ?_
 intro W hW
 have hWk : Kept (fun _ => False) w W := by rw [hW]; exact ((Kept.refl _ w).alloc _).alloc _
 have hb1 : Blk W w.heap.size 3 #[.int .i64 n] := by rw [hW]; exact (Blk.new _ _ _).alloc _
 have hb2 : Blk W (w.heap.size + 1) 24 #[.slice none 0 0] := by rw [hW]; have := Blk.new (w.alloc (.cells #[.int .i64 n] 3)) 24 #[.slice none 0 0]; simpa using this
 have hR2 := HR.out.kept hWk (fun h => h) (fun _ _ h => h)
 have hWs := hWk.size
 have hfit := HR.out.fit
 clear hW
 refine (lRead_any 175 #[at0 w.heap.size, at0 (w.heap.size + 1)] (enters_of Tryz.func175 (by kernel_rfl) rfl) W b g s hR2 (fun i => i = w.heap.size + 1) (by omega) (fun i hi e => by have := HR.out.lt i hi; omega) (fun k er w1 => s.e = 0 ∧ (∃ v, Blk w1 (w.heap.size + 1) 24 #[v] ∧ w1.ownsRow W.heap.size 5 1 v (bytesRes (rRest s) n).1.length ((bytesRes (rRest s) n).1.map byteV)) ∧ k = (bytesRes (rRest s) n).2.1 ∧ er = (bytesRes (rRest s) n).2.2) ?_).mono ?_
 ·intro hs A c h1 h2
  have hl : (rRest s).length ≤ 1099511627776 := by rw [rRest_ok hs, List.length_drop]; omega
  refine (lBytes1_any W A _ c (rRest s) h1 h2 hl w.heap.size (w.heap.size + 1) n (by have := HN.out; omega) hb1 hb2 (by omega)).mono ?_
  rintro e w1 ⟨rfl, h3, h4, h5⟩
  exact ⟨_, _, rfl, ⟨hs, h3, rfl, rfl⟩, h4, h5⟩
 ·rintro e w' ⟨rfl, h⟩
  have hres : ∃ r : List UInt8 × Rd, r = rBytes s n ∧ (∃ v, Blk w' (w.heap.size + 1) 24 #[v] ∧ w'.ownsRow W.heap.size 5 1 v r.1.length (r.1.map byteV)) ∧ IsR w' b g r.2 ∧ Kept (fun i => i = b) w w' := by
   rcases h with ⟨hs, rfl⟩ | ⟨hs, k, er, w1, ⟨_, ⟨v, h1, h1o⟩, rfl, rfl⟩, h2, h3, h4⟩
   ·refine ⟨([], s), ?_, ⟨_, hb2, ⟨rfl, .inl ⟨rfl, rfl⟩⟩⟩, hR2, hWk.mono (fun _ h => h.elim)⟩
    unfold rBytes
    rw [if_pos (.inl hs)]
   ·refine ⟨((bytesRes (rRest s) n).1, if (bytesRes (rRest s) n).2.2 ≠ 0 then { s with e := (bytesRes (rRest s) n).2.2 } else { s with p := s.p + (bytesRes (rRest s) n).2.1 }), ?_, ⟨v, h1.kept h3 (by omega), ?_⟩, h4, (Kept.trans (F := fun i => i = b) (hWk.mono (fun _ h => h.elim)) h2 ?_).trans h3 (fun i _ h => h)⟩
    ·exact (rBytes_eq hs HR.out.ok (n := n) (by have := HN.out; omega)).symm
    ·exact ownsRow_kept h1o h3 (fun g' hg' e => by have := (h1o.lt g' hg').1; omega)
    ·intro i hi h; omega
  obtain ⟨r, hr, ⟨v, hf, ho⟩, hR3, hk3⟩ := hres
  have HRR := Lib.hid hr
  have f0 := hf.cell 0
  simp at f0
  have HR3 := Lib.hid hR3
  have HK3 := Lib.hid hk3
  have HO := Lib.hid ho
  clear hr hf hR3 hk3 h hb1 hb2 hR2 hWk ho
  go_wp2
  go_ret
  rw [← HRR.out]
  exact ⟨v, rfl, Go.Joins.ownsRow_le HO.out hWs, HR3.out, HK3.out⟩
theorem LBytesOut.later {w w1 w' : World} {b : Nat} {g : Nat → Prop} {r : List UInt8 × Rd} {e : Ending} (h : LBytesOut w1 b g r e w') (hk : Kept (fun i => i = b) w w1) : LBytesOut w b g r e w' := by
 obtain ⟨v, h1, h2, h3, h4⟩ := h
 exact ⟨v, h1, Go.Joins.ownsRow_le h2 hk.size, h3, hk.trans h4 fun _ _ e => e⟩
theorem lText_any (w : World) (b : Nat) (g : Nat → Prop) (s : Rd) (hR : IsR w b g s) (most : Int) (hm1 : -9223372036854775808 ≤ most) (hm2 : most ≤ 9223372036854775807) :
  Calls Tryz.prog 105 #[at0 b, .int .i64 most] w (LBytesOut w b g (rText s most)) := by
 have HR := Lib.hid hR
 clear hR
 have hb1 := rInt_bounds s most hm1 hm2
 obtain ⟨r, hr⟩ : ∃ r, r = rText s most := ⟨_, rfl⟩
 rw [← hr]
 unfold rText at hr
 have HRR := Lib.hid hr
 clear hr
 unfold at0
 go_enter Tryz.func105, Tryz.ntmps105
 go_wp2_with fail
 refine (lInt_any w b g s HR.out most hm1 hm2).mono ?_
 rintro e w1 ⟨rfl, hI, hk⟩
 have HI := Lib.hid hI
 have HK := Lib.hid hk
 clear hI hk
 go_wp2_with fail
 refine (lBytes_any w1 b g _ HI.out _ hb1.1 hb1.2).mono ?_
 rintro e w2 ⟨v, rfl, h2, h3, h4⟩
 have H2 := Lib.hid h2
 have H3 := Lib.hid h3
 have H4 := Lib.hid h4
 clear h2 h3 h4
 go_wp2
 go_ret
 rw [HRR.out]
 exact LBytesOut.later ⟨v, rfl, H2.out, H3.out, H4.out⟩ HK.out
theorem lNew_any (w : World) (A : Option Addr) (n c : Nat) (l : Nm) (hl : BytesIn w A n l) (hn : n ≤ 1099511627776) :
  Calls Tryz.prog 145 #[.slice A n c] w fun e w' => ∃ (b : Nat) (g : Nat → Prop), e = .returned (at0 b) ∧ w.heap.size ≤ b ∧ (∀ i, g i → w.heap.size ≤ i) ∧ IsR w' b g ⟨l, 0, 0⟩ ∧ Below w.heap.size w w' := by
 have HL := Lib.hid hl
 have hln : l.length = n := by have := hl.2.1.len; simpa using this
 have HLN := Lib.hid hln
 clear hl hln
 go_enter Tryz.func145, Tryz.ntmps145
 go_wp2_with fail
 refine (clone_any w A n c l HL.out (by omega)).mono ?_
 rintro e w1 ⟨v, rfl, hO, hB⟩
 obtain ⟨A2, c2, hv⟩ := own_slice hO
 subst hv
 have HO := Lib.hid hO
 have HB := Lib.hid hB
 clear hO hB
 go_wp2
 go_ret
 have hs := HB.out.size
 have hr : rRest ⟨l, 0, 0⟩ = l := rRest_ok (s := ⟨l, 0, 0⟩) rfl
 have h2 : BytesIn w1 A2 n l := BytesIn.own HO.out (by unfold maxLen; omega)
 have h3 := h2.below ((Below.refl _ w1).alloc (Nat.le_refl _) (.cells #[.slice A2 n c2, .int .i64 0] 255))
 have hlt := fun g hg => HO.out.lt g hg
 refine ⟨w1.heap.size, fun i => w.heap.size ≤ i ∧ i < w1.heap.size, rfl, hs, fun i h => h.1, ⟨⟨A2, c2, ?_, ?_, ?_, ?_⟩, fun h => by omega, fun i h => by simp; omega, ⟨Nat.zero_le _⟩, ?_⟩, HB.out.alloc hs _⟩
 ·rw [hr, HLN.out]
  exact Blk.new w1 _ _
 ·rw [hr, HLN.out]; exact h3
 ·rw [hr, HLN.out]; exact own_le HO.out
 ·rw [hr, HLN.out]
  exact fun ad e _ => hlt ad.block (by rw [e]; rfl)
 ·show l.length ≤ _
  rw [HLN.out]; exact hn
end Go.Proofs.YthcjikpabpgpfaaGreat
