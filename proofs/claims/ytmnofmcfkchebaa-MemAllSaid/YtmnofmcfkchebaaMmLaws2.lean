/- MemAll. -/
import Derived.Test.YtmnofmcfkchebaaMmLaw0
import Derived.Test.YtmnofmcfkchebaaMmAll0
import Derived.Test.YtmnofmcfkchebaaMmAll1
import Derived.Test.YtmnofmcfkchebaaMmAll2
import Derived.Test.YtmnofmcfkchebaaMmAll3
import Derived.Test.YtmnofmcfkchebaaPCheck
import Derived.Deep.RegionHeld3
import Derived.Deep.QuietTactic
import Derived.BigQuiet
import Derived.Deep.DeepCutAuto
namespace Go.Proofs.Ytmnofmcfkchebaa
open Go.RowKit Go.Maps Go.WideMaps
set_option linter.unusedSimpArgs false

set_option maxHeartbeats 16000000 in
set_option maxRecDepth 100000 in
theorem memAll_any {M : World → (Nat → Prop) → Nat → List MDoc → Prop} (hK : MemOk M) (W : World) (A : Option Addr) (n c : Nat) (X : List MDoc) (hX : OnesSee W A n X) :
    Calls Try.prog 4 #[.slice A n c] W fun e w' => e = .returned (.bool true) ∧ Below W.heap.size W w' := by
  have hep := eqMemNil
  obtain ⟨i1, hi1, hy0, hy1, hy2⟩ := info_parts lawOneInfo
  have HK := Lib.hid hK
  have HH := Lib.hid (mmHead_any hK W)
  have HX := Lib.hid hX
  have hn63 := hX.fit
  unfold maxLen at hn63
  clear hX hK
  go_enter Try.func4, Try.ntmps4
  go_wp2_with fail
  refine HH.out.mono ?_
  rintro e w1 ⟨rfl, hb1⟩
  have HB1 := Lib.hid hb1
  clear hb1 HH
  go_wp2_with fail
  refine (HK.out.new w1).mono ?_
  rintro e w2 ⟨b, F1, rfl, hb2, hm2, hf2⟩
  have HB2 := Lib.hid (below_then HB1.out hb2 HB1.out.size)
  have HM2 := Lib.hid hm2
  have HF2 : Hid (MNew W F1) := Lib.hid (fun i hi => by have h1 := hf2 i hi; have h2 := HB1.out.size; omega)
  have HG := Lib.hid (mmGreat_any w2 A n c X (HX.out.below HB2.out))
  clear hb2 hm2 hf2
  go_wp2_with fail
  refine HG.out.mono ?_
  rintro e w3 ⟨r, rfl, ⟨q3, hw3⟩, hr⟩
  have HB3 : Hid (Below W.heap.size W w3) := Lib.hid (by rw [hw3]; exact below_drewN HB2.out q3)
  have HM3 : Hid (M w3 F1 b []) := Lib.hid (HK.out.below HM2.out (by rw [hw3]; exact below_drewN (Below.refl _ w2) q3))
  clear hw3 HG
  cases r with
  | true =>
    clear hr
    go_wp2
    go_ret
    exact ⟨rfl, HB3.out⟩
  | false =>
    have HBIG := Lib.hid (hr rfl)
    have hn9 : n < 9000 := by have := HBIG.out; omega
    clear hr
    go_wp2
    go_loopw [5, 6, 7] (fun wv av iv wr => ∃ (i : Nat) (F : Nat → Prop), i ≤ n ∧ wv = .int .i64 (totT (addUp X i) : Nat) ∧ iv = .int .i64 i ∧ AddedAt W wr av (addUp X i) ∧ M wr F b (addUp X i) ∧ MNew W F ∧ Below W.heap.size W wr ∧ ∀ g, av.ownBlock = some g → ¬ F g) (fun _ _ iv _ => n - (intOf iv).toNat)
    case atStart => exact ⟨0, F1, by omega, rfl, rfl, AddedAt.nil W w3, HM3.out, HF2.out, HB3.out, fun g e => by simp [Value.ownBlock] at e⟩
    case round =>
      obtain ⟨i, F, hi, rfl, rfl, had, hm, hf, hb, hfar⟩ := hrel
      have HAA := Lib.hid had
      have HM := Lib.hid hm
      have HF := Lib.hid hf
      have HB := Lib.hid hb
      have HFAR := Lib.hid hfar
      have hzr := hb.size
      clear had hm hf hb hfar
      rcases Nat.lt_or_ge i n with hlt | hge
      · have hlt' : (i : Int) < (n : Int) := by omega
        have p0 : (0 : Int) ≤ (i : Int) := by omega
        have hw1 : IntKind.i64.wrap ((i : Int) + 1) = (i : Int) + 1 := IntWalk.i64_in _ (by omega)
        have hto := (adds_ok HX.out HBIG.out i (by omega)).2
        have hll : (addUp X i).length ≤ 4096 := (adds_ok HX.out HBIG.out i (by omega)).1.few
        obtain ⟨pa, x, B, cB, C, cC, rfl, hx, hxd, hfx, hcells, hadd⟩ := law_add HK.out HX.out HBIG.out HM.out HF.out HB.out hlt
        obtain ⟨D, hD⟩ : ∃ D, D = x.doc := ⟨_, rfl⟩
        obtain ⟨mT, hmT⟩ : ∃ mT, mT = x.T.length := ⟨_, rfl⟩
        obtain ⟨mS, hmS⟩ : ∃ mS, mS = x.S.length := ⟨_, rfl⟩
        obtain ⟨E, hE⟩ : ∃ E, E = mErr (addUp X i) x := ⟨_, rfl⟩
        rw [← hD] at hfx hcells hadd
        rw [← hmT] at hcells hadd
        rw [← hmS] at hcells hadd
        rw [← hE] at hadd
        have HSC : Hid (∀ u, Below W.heap.size W u → u.cell? (pa.add (i * 3)) = some (.int .i64 D) ∧ u.cell? ⟨(pa.add (i * 3)).block, (pa.add (i * 3)).off + 1, none⟩ = some (.slice B mT cB) ∧ u.cell? ⟨(pa.add (i * 3)).block, (pa.add (i * 3)).off + 2, none⟩ = some (.slice C mS cC)) := Lib.hid (fun u hu => ⟨(hcells u hu).1, (hcells u hu).2.1, (hcells u hu).2.2.1⟩)
        have HIT : Hid (∀ u, Below W.heap.size W u → IntsIn u B mT x.T) := Lib.hid (fun u hu => (hcells u hu).2.2.2.1)
        have HIS : Hid (∀ u, Below W.heap.size W u → IntsIn u C mS x.S) := Lib.hid (fun u hu => (hcells u hu).2.2.2.2)
        have HAD := Lib.hid hadd
        have HXD := Lib.hid hxd
        have HXX := Lib.hid hx
        have HDD := Lib.hid hD
        have HMT := Lib.hid hmT
        have HMS := Lib.hid hmS
        have HEE := Lib.hid hE
        have hm63 := (HIT.out W (Below.refl _ _)).1
        unfold maxLen at hm63
        clear hcells hadd hxd hx hD hmT hmS hE
        have hcap : mT ≤ cB ∧ mS ≤ cC := by
          obtain ⟨pa', x', B', cB', C', cC', e1, e2, -, -, f1, f2, g1, -, g2, -⟩ := HX.out.at i hlt
          cases e1
          obtain rfl := Option.some.inj (HXX.out.symm.trans e2)
          obtain ⟨-, k1, k2⟩ := HSC.out W (Below.refl _ _)
          rw [f1] at k1
          rw [f2] at k2
          injection k1 with k1
          injection k1 with j1 j2 j3
          injection k2 with k2
          injection k2 with j4 j5 j6
          omega
        obtain ⟨V, cV, rfl⟩ := HAA.out.slice
        obtain ⟨L, hL⟩ : ∃ L, L = addUp X i := ⟨_, rfl⟩
        have hnx : addUp X (i + 1) = if E = 0 then L ++ [x] else L := by rw [addUp, HXD.out]; unfold mAdd; rw [← HEE.out, ← hL]
        rw [← hL] at HAA hto hll HFAR
        rw [← hL]
        have HNX := Lib.hid hnx
        have HLL := Lib.hid hL
        clear hnx hL
        obtain ⟨t0, ht0⟩ : ∃ t0, t0 = totT L := ⟨_, rfl⟩
        have HT0 := Lib.hid ht0
        rw [← ht0]
        rw [← ht0] at hto
        clear ht0
        go_upto_region 10 with fail
        refine wp_region_held_drew (S := fun w' => w'.cell? (pa.add (i * 3)) = some (.int .i64 D) ∧ w'.cell? ⟨(pa.add (i * 3)).block, (pa.add (i * 3)).off + 1, none⟩ = some (.slice B mT cB) ∧ w'.cell? ⟨(pa.add (i * 3)).block, (pa.add (i * 3)).off + 2, none⟩ = some (.slice C mS cC)) (by kernel_rfl) (HSC.out wr HB.out) (fun hHeld => ?_)
        obtain ⟨u0, hu0⟩ : ∃ zz, zz = wr.drew := ⟨_, rfl⟩
        rw [← hu0] at hHeld ⊢
        have Hu0 : Hid (Below wr.heap.size wr u0) := Lib.hid (by rw [hu0]; exact (Below.refl _ wr).drew)
        clear hu0
        refine wpAnyH_take (i := 0) (oi := ?oia10) (v := ?va10) ?hia10 (by kernel_rfl) (by kernel_rfl) (by kernel_rfl) ?hQa10 (Or.inl ⟨?hwa10, ?hya10⟩) (by assumption) ?resta10
        case hia10 => (first | (simp only [List.getElem?_toArray, List.getElem?_cons_zero, List.getElem?_cons_succ]; rfl) | rfl)
        case hQa10 => exact fun _ _ _ h => h
        case hwa10 => rfl
        case hya10 => ((intro w hSw; go_simp); first | done | with_reducible rfl)
        try simp only [Act.put, List.setIfInBounds_toArray, List.set_cons_zero, List.set_cons_succ]
        refine wpAnyH_take (i := 1) (oi := ?oia21) (v := ?va21) ?hia21 (by kernel_rfl) (by kernel_rfl) (by kernel_rfl) ?hQa21 (Or.inl ⟨?hwa21, ?hya21⟩) (by assumption) ?resta21
        case hia21 => (first | (simp only [List.getElem?_toArray, List.getElem?_cons_zero, List.getElem?_cons_succ]; rfl) | rfl)
        case hQa21 => exact fun _ _ _ h => h
        case hwa21 => rfl
        case hya21 => ((intro w hSw; go_simp); first | done | with_reducible rfl)
        try simp only [Act.put, List.setIfInBounds_toArray, List.set_cons_zero, List.set_cons_succ]
        refine wpAnyH_take (i := 2) (oi := ?oia32) (v := ?va32) ?hia32 (by kernel_rfl) (by kernel_rfl) (by kernel_rfl) ?hQa32 (Or.inl ⟨?hwa32, ?hya32⟩) (by assumption) ?resta32
        case hia32 => (first | (simp only [List.getElem?_toArray, List.getElem?_cons_zero, List.getElem?_cons_succ]; rfl) | rfl)
        case hQa32 => exact fun _ _ _ h => h
        case hwa32 => rfl
        case hya32 => ((intro w hSw; go_simp); first | done | with_reducible rfl)
        try simp only [Act.put, List.setIfInBounds_toArray, List.set_cons_zero, List.set_cons_succ]
        refine wpAnyH_take (i := 6) (oi := ?oia46) (v := ?va46) ?hia46 (by kernel_rfl) (by kernel_rfl) (by kernel_rfl) ?hQa46 (Or.inl ⟨?hwa46, ?hya46⟩) (by assumption) ?resta46
        case hia46 => (first | (simp only [List.getElem?_toArray, List.getElem?_cons_zero, List.getElem?_cons_succ]; rfl) | rfl)
        case hQa46 => exact fun _ _ _ h => h
        case hwa46 => rfl
        case hya46 => ((intro w hSw; go_simp); first | done | with_reducible rfl)
        try simp only [Act.put, List.setIfInBounds_toArray, List.set_cons_zero, List.set_cons_succ]
        refine wpAnyH_take (i := 7) (oi := ?oia57) (v := ?va57) ?hia57 (by kernel_rfl) (by kernel_rfl) (by kernel_rfl) ?hQa57 (Or.inl ⟨?hwa57, ?hya57⟩) (by assumption) ?resta57
        case hia57 => (first | (simp only [List.getElem?_toArray, List.getElem?_cons_zero, List.getElem?_cons_succ]; rfl) | rfl)
        case hQa57 => exact fun _ _ _ h => h
        case hwa57 => rfl
        case hya57 => ((intro w hSw; go_simp); first | done | with_reducible rfl)
        try simp only [Act.put, List.setIfInBounds_toArray, List.set_cons_zero, List.set_cons_succ]
        refine wpAnyH_take (i := 11) (oi := ?oia611) (v := ?va611) ?hia611 (by kernel_rfl) (by kernel_rfl) (by kernel_rfl) ?hQa611 (Or.inl ⟨?hwa611, ?hya611⟩) (by assumption) ?resta611
        case hia611 => (first | (simp only [List.getElem?_toArray, List.getElem?_cons_zero, List.getElem?_cons_succ]; rfl) | rfl)
        case hQa611 => exact fun _ _ _ h => h
        case hwa611 => rfl
        case hya611 => ((intro w hSw; go_simp); first | done | with_reducible rfl)
        try simp only [Act.put, List.setIfInBounds_toArray, List.set_cons_zero, List.set_cons_succ]
        refine wpAnyH_take (i := 12) (oi := ?oia712) (v := ?va712) ?hia712 (by kernel_rfl) (by kernel_rfl) (by kernel_rfl) ?hQa712 (Or.inl ⟨?hwa712, ?hya712⟩) (by assumption) ?resta712
        case hia712 => (first | (simp only [List.getElem?_toArray, List.getElem?_cons_zero, List.getElem?_cons_succ]; rfl) | rfl)
        case hQa712 => exact fun _ _ _ h => h
        case hwa712 => rfl
        case hya712 => ((intro w hSw; go_simp); first | done | with_reducible rfl)
        try simp only [Act.put, List.setIfInBounds_toArray, List.set_cons_zero, List.set_cons_succ]
        refine wpAnyH_take (i := 3) (oi := ?oia83) (v := ?va83) ?hia83 (by kernel_rfl) (by kernel_rfl) (by kernel_rfl) ?hQa83 (Or.inl ⟨?hwa83, ?hya83⟩) (by assumption) ?resta83
        case hia83 => (first | (simp only [List.getElem?_toArray, List.getElem?_cons_zero, List.getElem?_cons_succ]; rfl) | rfl)
        case hQa83 => exact fun _ _ _ h => h
        case hwa83 => rfl
        case hya83 => ((intro w hSw; go_simp); first | done | with_reducible rfl)
        try simp only [Act.put, List.setIfInBounds_toArray, List.set_cons_zero, List.set_cons_succ]
        refine wpAnyH_take (i := 8) (oi := ?oia98) (v := ?va98) ?hia98 (by kernel_rfl) (by kernel_rfl) (by kernel_rfl) ?hQa98 (Or.inl ⟨?hwa98, ?hya98⟩) (by assumption) ?resta98
        case hia98 => (first | (simp only [List.getElem?_toArray, List.getElem?_cons_zero, List.getElem?_cons_succ]; rfl) | rfl)
        case hQa98 => exact fun _ _ _ h => h
        case hwa98 => rfl
        case hya98 => ((intro w hSw; go_simp); first | done | with_reducible rfl)
        try simp only [Act.put, List.setIfInBounds_toArray, List.set_cons_zero, List.set_cons_succ]
        refine wpAnyH_take (i := 13) (oi := ?oia1013) (v := ?va1013) ?hia1013 (by kernel_rfl) (by kernel_rfl) (by kernel_rfl) ?hQa1013 (Or.inl ⟨?hwa1013, ?hya1013⟩) (by assumption) ?resta1013
        case hia1013 => (first | (simp only [List.getElem?_toArray, List.getElem?_cons_zero, List.getElem?_cons_succ]; rfl) | rfl)
        case hQa1013 => exact fun _ _ _ h => h
        case hwa1013 => rfl
        case hya1013 => ((intro w hSw; go_simp); first | done | with_reducible rfl)
        try simp only [Act.put, List.setIfInBounds_toArray, List.set_cons_zero, List.set_cons_succ]
        refine wpAnyH_take (i := 4) (oi := ?oia114) (v := ?va114) ?hia114 (by kernel_rfl) (by kernel_rfl) (by kernel_rfl) ?hQa114 (Or.inl ⟨?hwa114, ?hya114⟩) (by assumption) ?resta114
        case hia114 => (first | (simp only [List.getElem?_toArray, List.getElem?_cons_zero, List.getElem?_cons_succ]; rfl) | rfl)
        case hQa114 => exact fun _ _ _ h => h
        case hwa114 => rfl
        case hya114 => ((intro w hSw; go_simp); first | done | with_reducible rfl)
        try simp only [Act.put, List.setIfInBounds_toArray, List.set_cons_zero, List.set_cons_succ]
        refine wpAnyH_take (i := 9) (oi := ?oia129) (v := ?va129) ?hia129 (by kernel_rfl) (by kernel_rfl) (by kernel_rfl) ?hQa129 (Or.inl ⟨?hwa129, ?hya129⟩) (by assumption) ?resta129
        case hia129 => (first | (simp only [List.getElem?_toArray, List.getElem?_cons_zero, List.getElem?_cons_succ]; rfl) | rfl)
        case hQa129 => exact fun _ _ _ h => h
        case hwa129 => rfl
        case hya129 => ((intro w hSw; go_simp); first | done | with_reducible rfl)
        try simp only [Act.put, List.setIfInBounds_toArray, List.set_cons_zero, List.set_cons_succ]
        refine wpAnyH_take (i := 14) (oi := ?oia1314) (v := ?va1314) ?hia1314 (by kernel_rfl) (by kernel_rfl) (by kernel_rfl) ?hQa1314 (Or.inl ⟨?hwa1314, ?hya1314⟩) (by assumption) ?resta1314
        case hia1314 => (first | (simp only [List.getElem?_toArray, List.getElem?_cons_zero, List.getElem?_cons_succ]; rfl) | rfl)
        case hQa1314 => exact fun _ _ _ h => h
        case hwa1314 => rfl
        case hya1314 => ((intro w hSw; go_simp); first | done | with_reducible rfl)
        try simp only [Act.put, List.setIfInBounds_toArray, List.set_cons_zero, List.set_cons_succ]
        refine wpAnyH_take (i := 5) (oi := ?oia145) (v := ?va145) ?hia145 (by kernel_rfl) (by kernel_rfl) (by kernel_rfl) ?hQa145 (Or.inl ⟨?hwa145, ?hya145⟩) (by assumption) ?resta145
        case hia145 => (first | (simp only [List.getElem?_toArray, List.getElem?_cons_zero, List.getElem?_cons_succ]; rfl) | rfl)
        case hQa145 => exact fun _ _ _ h => h
        case hwa145 => rfl
        case hya145 => ((intro w hSw; go_simp); first | done | with_reducible rfl)
        try simp only [Act.put, List.setIfInBounds_toArray, List.set_cons_zero, List.set_cons_succ]
        refine wpAnyH_take (i := 10) (oi := ?oia1510) (v := ?va1510) ?hia1510 (by kernel_rfl) (by kernel_rfl) (by kernel_rfl) ?hQa1510 (Or.inl ⟨?hwa1510, ?hya1510⟩) (by assumption) ?resta1510
        case hia1510 => (first | (simp only [List.getElem?_toArray, List.getElem?_cons_zero, List.getElem?_cons_succ]; rfl) | rfl)
        case hQa1510 => exact fun _ _ _ h => h
        case hwa1510 => rfl
        case hya1510 => ((intro w hSw; go_simp); first | done | with_reducible rfl)
        try simp only [Act.put, List.setIfInBounds_toArray, List.set_cons_zero, List.set_cons_succ]
        refine wpAnyH_take (i := 15) (oi := ?oia1615) (v := ?va1615) ?hia1615 (by kernel_rfl) (by kernel_rfl) (by kernel_rfl) ?hQa1615 (Or.inl ⟨?hwa1615, ?hya1615⟩) (by assumption) ?resta1615
        case hia1615 => (first | (simp only [List.getElem?_toArray, List.getElem?_cons_zero, List.getElem?_cons_succ]; rfl) | rfl)
        case hQa1615 => exact fun _ _ _ h => h
        case hwa1615 => rfl
        case hya1615 => ((intro w hSw; go_simp); first | done | with_reducible rfl)
        try simp only [Act.put, List.setIfInBounds_toArray, List.set_cons_zero, List.set_cons_succ]
        refine wpAnyH_ready (rs := [16]) (by kernel_rfl) (by simp) ?_
        refine AllReadyH.cons (o := ?oa17) ?ha17 ?sa17 AllReadyH.nil
        case ha17 => (simp only [List.getElem?_toArray, List.getElem?_cons_zero, List.getElem?_cons_succ]; rfl)
        case sa17 =>
          intro K hK
          go_simp
          refine (HAD.out u0 Hu0.out).mono ?_
          rintro e u1 ⟨rfl, F2, hm2, hf2, hb2, hk2, hj2⟩
          have HM2 := Lib.hid hm2
          have HF2 := Lib.hid hf2
          have HB2 := Lib.hid hb2
          have hz0 := Hu0.out.size
          have HAA2 : Hid (AddedAt W u1 (.slice V L.length cV) L) := Lib.hid ((HAA.out.below Hu0.out).keep fun g e => hk2.block g (by have := (HAA.out.lt g e).2; omega) (HFAR.out g e))
          have HFAR2 : Hid (∀ g, (Value.slice V L.length cV).ownBlock = some g → ¬ F2 g) := Lib.hid (fun g e hf => by
            rcases hj2 g hf with h1 | h1
            · exact HFAR.out g e h1
            · have := (HAA.out.lt g e).2; omega)
          clear hm2 hf2 hb2 hk2 hj2
          have hSa := HSC.out _ HB2.out
          go_wp2_with fail
          refine hK.out _ _ (HSC.out _ HB2.out) (fun ha18 => ?_)
          clear hK K
          try simp only [Act.put, List.setIfInBounds_toArray, List.set_cons_zero, List.set_cons_succ]
          refine wpAnyH_take (i := 17) (oi := ?oia1917) (v := ?va1917) ?hia1917 (by kernel_rfl) (by kernel_rfl) (by kernel_rfl) ?hQa1917 (Or.inl ⟨?hwa1917, ?hya1917⟩) (by assumption) ?resta1917
          case hia1917 => (first | (simp only [List.getElem?_toArray, List.getElem?_cons_zero, List.getElem?_cons_succ]; rfl) | rfl)
          case hQa1917 => exact fun _ _ _ h => h
          case hwa1917 => rfl
          case hya1917 => ((intro w hSw; go_simp); first | done | with_reducible rfl)
          try simp only [Act.put, List.setIfInBounds_toArray, List.set_cons_zero, List.set_cons_succ]
          refine wpAnyH_done (by kernel_rfl) ?_ _
          obtain ⟨c0, c1, c2⟩ := HSC.out _ HB2.out
          by_cases hE0 : E = 0
          · have dE : (E == 0) = true := by simpa using hE0
            have hnx := HNX.out
            rw [if_pos hE0] at hnx
            have hmE := HEE.out
            rw [hE0] at hmE
            have hlen : mT ≤ 4096 := by rw [HMT.out]; exact (mErr_ok hmE.symm).2.1
            obtain ⟨Q, hq0, hown, hq2⟩ := HAA2.out
            have hone : OneIn W (D, .slice B mT cB, .slice C mS cC) x := ⟨HDD.out, by rw [← HDD.out]; exact hfx, ⟨B, cB, by rw [HMT.out], by rw [← HMT.out]; exact hcap.1, by have := HIT.out W (Below.refl _ _); rw [HMT.out] at this; exact this⟩, C, cC, by rw [HMS.out], by rw [← HMS.out]; exact hcap.2, by have := HIS.out W (Below.refl _ _); rw [HMS.out] at this; exact this⟩
            have HONE := Lib.hid hone
            have HQ0 := Lib.hid hq0
            have HQ2 := Lib.hid hq2
            have HOWN := Lib.hid hown
            have HNX2 := Lib.hid hnx
            have hwt : IntKind.i64.wrap ((t0 : Int) + (mT : Int)) = ((t0 + mT : Nat) : Int) := by rw [IntWalk.i64_in _ (by omega)]; push_cast; rfl
            clear hnx hmE hone hq0 hq2 hown hE0
            go_wp2_with (at_builtin; refine wpList_append_own_at _ rfl (.tmp 65) (.tmp 70) 22 rfl W.heap.size 35 i1 _ 3 56 Try.underlying22 hi1 hy0 hy1 hy2 rfl (by decide) _ L.length (Q.flatMap oneCells) rfl (World.ownsRow.alloc HOWN.out _) ⟨u1.heap.size, 0, none⟩ 1 1 (oneCells (D, .slice B mT cB, .slice C mS cC)) rfl rfl (one_cells (p := (D, .slice B mT cB, .slice C mS cC)) (Blk.new u1 35 #[.int .i64 D, .slice B mT cB, .slice C mS cC])) (one_one D B C mT mS cB cC) (by unfold maxLen; omega) (by omega) (by have := HB2.out.size; simp; omega) ?_; intro v3 w4 hown3 hgrow3 _ hloc3)
            have hk3 : Kept (fun g => (Value.slice V L.length cV).ownBlock = some g) u1 w4 := ((Kept.refl _ u1).alloc _).grown hgrow3 (fun k e => .inl e)
            have HM4 := Lib.hid (HK.out.far HM2.out hk3 (fun j hj e => HFAR2.out j e hj))
            have HB4 : Hid (Below W.heap.size W w4) := Lib.hid ((HB2.out.alloc HB2.out.size _).grown hgrow3 (by have := HB2.out.size; simp; omega) (fun g hg => (HOWN.out.lt g hg).1))
            have HAA4 := Lib.hid (AddedAt.push HQ0.out HQ2.out HONE.out hown3)
            have HFAR4 : Hid (∀ g, v3.ownBlock = some g → ¬ F2 g) := Lib.hid (fun g e hf => by
              rcases hloc3 with h1 | h1
              · have h2 : v3.ownBlock = (Value.slice V L.length cV).ownBlock := h1
                exact HFAR2.out g (by rw [← h2]; exact e) hf
              · rw [h1] at e
                have h2 := Option.some.inj e
                have h3 := HK.out.lt HM2.out g hf
                simp at h2
                omega)
            clear hown3 hgrow3 hloc3 hk3
            go_roundw
            case rel => exact ⟨i + 1, F2, by omega, by rw [HNX2.out, totT_append, ← HT0.out, show totT [x] = x.T.length by simp [totT], ← HMT.out]; push_cast; rfl, by go_num, by rw [HNX2.out]; exact HAA4.out, HM4.out, HF2.out, HB4.out, HFAR4.out⟩
            case measure => simp [intOf]; omega
          · have dE : (E == 0) = false := by simpa using hE0
            have hnx := HNX.out
            rw [if_neg hE0] at hnx
            have HNX2 := Lib.hid hnx
            clear hnx hE0
            go_wp2
            go_roundw
            case rel => exact ⟨i + 1, F2, by omega, by rw [HNX2.out, HT0.out], by go_num, by rw [HNX2.out]; exact HAA2.out, HM2.out, HF2.out, HB2.out, HFAR2.out⟩
            case measure => simp [intOf]; omega
      · obtain rfl : i = n := by omega
        have hlz : ¬ ((i : Int) < (i : Int)) := by omega
        obtain ⟨hw, hto⟩ := adds_ok HX.out HBIG.out i (Nat.le_refl _)
        obtain ⟨L, hL⟩ : ∃ L, L = addUp X i := ⟨_, rfl⟩
        rw [← hL] at HAA HM hw hto
        rw [← hL]
        have hfew := hw.few
        have hct := HK.out.terms HM.out hw hto
        have hfit := terms_fit hw
        have hlenT : spotsTo L (mTerms L) (mTerms L).length = totT L := spotsTo_all L
        have HUP := Lib.hid (terms_up L)
        have HMEM : Hid (∀ t ∈ mTerms L, 0 < (mPosts L t).length) := Lib.hid (fun t h => of_decide_eq_true (by rw [posts_pos, decide_eq_true h]))
        obtain ⟨V, cV, rfl⟩ := HAA.out.slice
        have HSEE := Lib.hid (HAA.out.see (n := L.length) rfl (by unfold maxLen; omega) HB.out)
        obtain ⟨t0, ht0⟩ : ∃ t0, t0 = totT L := ⟨_, rfl⟩
        rw [← ht0] at hlenT hto
        rw [← ht0]
        obtain ⟨T, hT⟩ : ∃ T, T = mTerms L := ⟨_, rfl⟩
        rw [← hT] at hct hfit hlenT HUP HMEM
        have HCT := Lib.hid hct
        have HFIT := Lib.hid hfit
        have HLT := Lib.hid hlenT
        have HW := Lib.hid hw
        have HTO := Lib.hid (show totT L ≤ 20000 by omega)
        obtain ⟨N, hN⟩ : ∃ N, N = L.length := ⟨_, rfl⟩
        rw [← hN] at hfew HSEE
        rw [← hN]
        have HN := Lib.hid hN
        have HTT := Lib.hid hT
        clear hw hct hfit hlenT hL ht0 hT hN HAA
        go_wp2_with fail
        refine HCT.out.mono ?_
        rintro e w4 ⟨A4, c4, rfl, hi4, -, hb4⟩
        obtain ⟨nT, hnT⟩ : ∃ nT, nT = T.length := ⟨_, rfl⟩
        rw [← hnT] at hi4
        rw [← hnT]
        have HI4 := Lib.hid hi4
        have hn4 := hi4.1
        unfold maxLen at hn4
        have HB4 := Lib.hid (below_then HB.out hb4 HB.out.size)
        have HM4 := Lib.hid (HK.out.below HM.out hb4)
        have HS4 := Lib.hid (HSEE.out.below hb4)
        have HNT := Lib.hid hnT
        have hz4 := HB4.out.size
        clear hi4 hb4 hnT HCT
        obtain ⟨wo, hwo⟩ : ∃ zz, zz = wr := ⟨_, rfl⟩
        subst hwo
        go_wp2
        go_loopw [9, 11] (fun nv kv wi => ∃ k : Nat, k ≤ nT ∧ nv = .int .i64 (spotsTo L T k : Nat) ∧ kv = .int .i64 k ∧ Below w4.heap.size w4 wi) (fun _ kv _ => nT - (intOf kv).toNat)
        case atStart => exact ⟨0, by omega, rfl, rfl, Below.refl _ _⟩
        case round =>
          obtain ⟨k, hk, rfl, rfl, hbi⟩ := hrel
          have HBI := Lib.hid hbi
          have hzi := hbi.size
          have hmono := spotsTo_mono L T k
          rw [HLT.out] at hmono
          obtain ⟨n0, hn0⟩ : ∃ n0, n0 = spotsTo L T k := ⟨_, rfl⟩
          rw [← hn0] at hmono
          rw [← hn0]
          have HN0 := Lib.hid hn0
          clear hbi hn0
          rcases Nat.lt_or_ge k nT with hkl | hkg
          · have hkl' : (k : Int) < (nT : Int) := by omega
            have q0 : (0 : Int) ≤ (k : Int) := by omega
            have hw2 : IntKind.i64.wrap ((k : Int) + 1) = (k : Int) + 1 := IntWalk.i64_in _ (by omega)
            obtain ⟨pt, y, rfl, hy, y0, -, -⟩ := (HI4.out.below HBI.out).at k hkl
            have hyT : y ∈ T := List.mem_of_getElem? hy
            have hpos := HMEM.out y hyT
            have hcp := HK.out.posts (HK.out.below HM4.out HBI.out) HW.out HTO.out y (by have := HFIT.out y hyT; unfold fits64; omega)
            have hchk := posts_check HW.out y
            have hsn := spotsTo_next L hy
            rw [← HN0.out] at hsn
            obtain ⟨P, hP⟩ : ∃ P, P = mPosts L y := ⟨_, rfl⟩
            rw [← hP] at hcp hchk hsn hpos
            have HCP := Lib.hid hcp
            have HPP := Lib.hid hP
            have HCHK := Lib.hid hchk
            have HSN := Lib.hid hsn
            have HY := Lib.hid hy
            have hsm := spotsTo_mono L T (k + 1)
            rw [HLT.out, hsn] at hsm
            clear hy hcp hP hchk hsn hyT
            go_upto_region 20 with (go_at_call 17; refine HCP.out.mono ?_; rintro e w5 ⟨A5, c5, rfl, hs5, -, hb5⟩)
            have HS5 := Lib.hid hs5
            have HB5 := Lib.hid (below_then HBI.out hb5 HBI.out.size)
            have hz5 := hb5.size
            have hpl := hs5.fit
            unfold maxLen at hpl
            have c0 := below_cells hb5 y0
            clear hs5 hb5 HCP
            have hpn : ((P.length : Int) == 0) = false := beq_eq_false_iff_ne.2 (by omega)
            go_cut [109] (fun v wy => v = .bool false ∧ Below w5.heap.size w5 wy)
            case first =>
              by_cases hk0 : k = 0
              · subst hk0
                go_wp2_with fail
                refine wp_region_held_drew (S := fun _ => True) (by kernel_rfl) trivial (fun hHeld => ?_)
                obtain ⟨wd, hwd⟩ : ∃ zz, zz = w5.drew := ⟨_, rfl⟩
                try rw [← hwd] at hHeld
                rw [← hwd]
                have hbd : Below w5.heap.size w5 wd := by rw [hwd]; exact (Below.refl _ w5).drew
                have HCK := Lib.hid (r9Check_any wd A5 P.length c5 P (HS5.out.below hbd) (by omega))
                rw [HCHK.out] at HCK
                have HBD := Lib.hid hbd
                clear hbd hwd
                refine wpAnyH_take (i := 0) (oi := ?oiz1) (v := ?vz1) ?hiz1 (by kernel_rfl) (by kernel_rfl) (by kernel_rfl) ?hQz1 (Or.inl ⟨?hwz1, ?hyz1⟩) (by assumption) ?restz1
                case hiz1 => (first | (simp only [List.getElem?_toArray, List.getElem?_cons_zero, List.getElem?_cons_succ]; rfl) | rfl)
                case hQz1 => exact fun _ _ _ h => h
                case hwz1 => rfl
                case hyz1 => ((intro w hSw; go_simp); first | done | with_reducible rfl)
                try simp only [Act.put, List.setIfInBounds_toArray, List.set_cons_zero, List.set_cons_succ]
                refine wpAnyH_take (i := 1) (oi := ?oiz2) (v := .bool false) ?hiz2 (by kernel_rfl) (by kernel_rfl) (by kernel_rfl) ?hQz2 (Or.inl ⟨?hwz2, ?hyz2⟩) (by assumption) ?restz2
                case hiz2 => (first | (simp only [List.getElem?_toArray, List.getElem?_cons_zero, List.getElem?_cons_succ]; rfl) | rfl)
                case hQz2 => exact fun _ _ _ h => h
                case hwz2 => rfl
                case hyz2 => ((intro w hSw; go_simp); first | done | with_reducible rfl)
                try simp only [Act.put, List.setIfInBounds_toArray, List.set_cons_zero, List.set_cons_succ]
                refine wpAnyH_take (i := 2) (oi := ?oiz3) (v := .bool false) ?hiz3 (by kernel_rfl) (by kernel_rfl) (by kernel_rfl) ?hQz3 (Or.inl ⟨?hwz3, ?hyz3⟩) (by assumption) ?restz3
                case hiz3 => (first | (simp only [List.getElem?_toArray, List.getElem?_cons_zero, List.getElem?_cons_succ]; rfl) | rfl)
                case hQz3 => exact fun _ _ _ h => h
                case hwz3 => rfl
                case hyz3 => ((intro w hSw; go_simp); first | done | with_reducible rfl)
                try simp only [Act.put, List.setIfInBounds_toArray, List.set_cons_zero, List.set_cons_succ]
                refine wpAnyH_take (i := 3) (oi := ?oiz4) (v := ?vz4) ?hiz4 (by kernel_rfl) (by kernel_rfl) (by kernel_rfl) ?hQz4 (Or.inr ⟨?hwz4, ?hyz4⟩) (by assumption) ?restz4
                case hiz4 => (first | (simp only [List.getElem?_toArray, List.getElem?_cons_zero, List.getElem?_cons_succ]; rfl) | rfl)
                case hQz4 => exact fun _ _ _ h => h
                case hwz4 => rfl
                case hyz4 => rfl
                try simp only [Act.put, List.setIfInBounds_toArray, List.set_cons_zero, List.set_cons_succ]
                refine wpAnyH_take (i := 4) (oi := ?oiz5) (v := ?vz5) ?hiz5 (by kernel_rfl) (by kernel_rfl) (by kernel_rfl) ?hQz5 (Or.inr ⟨?hwz5, ?hyz5⟩) (by assumption) ?restz5
                case hiz5 => (first | (simp only [List.getElem?_toArray, List.getElem?_cons_zero, List.getElem?_cons_succ]; rfl) | rfl)
                case hQz5 => exact fun _ _ _ h => h
                case hwz5 => rfl
                case hyz5 => rfl
                try simp only [Act.put, List.setIfInBounds_toArray, List.set_cons_zero, List.set_cons_succ]
                refine wpAnyH_take (i := 5) (oi := ?oiz6) (v := ?vz6) ?hiz6 (by kernel_rfl) (by kernel_rfl) (by kernel_rfl) ?hQz6 (Or.inr ⟨?hwz6, ?hyz6⟩) (by assumption) ?restz6
                case hiz6 => (first | (simp only [List.getElem?_toArray, List.getElem?_cons_zero, List.getElem?_cons_succ]; rfl) | rfl)
                case hQz6 => exact fun _ _ _ h => h
                case hwz6 => rfl
                case hyz6 => rfl
                try simp only [Act.put, List.setIfInBounds_toArray, List.set_cons_zero, List.set_cons_succ]
                refine wpAnyH_take (i := 6) (oi := ?oiz7) (v := ?vz7) ?hiz7 (by kernel_rfl) (by kernel_rfl) (by kernel_rfl) ?hQz7 (Or.inr ⟨?hwz7, ?hyz7⟩) (by assumption) ?restz7
                case hiz7 => (first | (simp only [List.getElem?_toArray, List.getElem?_cons_zero, List.getElem?_cons_succ]; rfl) | rfl)
                case hQz7 => exact fun _ _ _ h => h
                case hwz7 => rfl
                case hyz7 => rfl
                try simp only [Act.put, List.setIfInBounds_toArray, List.set_cons_zero, List.set_cons_succ]
                refine wpAnyH_take (i := 7) (oi := ?oiz8) (v := ?vz8) ?hiz8 (by kernel_rfl) (by kernel_rfl) (by kernel_rfl) ?hQz8 (Or.inr ⟨?hwz8, ?hyz8⟩) (by assumption) ?restz8
                case hiz8 => (first | (simp only [List.getElem?_toArray, List.getElem?_cons_zero, List.getElem?_cons_succ]; rfl) | rfl)
                case hQz8 => exact fun _ _ _ h => h
                case hwz8 => rfl
                case hyz8 => rfl
                try simp only [Act.put, List.setIfInBounds_toArray, List.set_cons_zero, List.set_cons_succ]
                refine wpAnyH_take (i := 8) (oi := ?oiz9) (v := ?vz9) ?hiz9 (by kernel_rfl) (by kernel_rfl) (by kernel_rfl) ?hQz9 (Or.inr ⟨?hwz9, ?hyz9⟩) (by assumption) ?restz9
                case hiz9 => (first | (simp only [List.getElem?_toArray, List.getElem?_cons_zero, List.getElem?_cons_succ]; rfl) | rfl)
                case hQz9 => exact fun _ _ _ h => h
                case hwz9 => rfl
                case hyz9 => rfl
                try simp only [Act.put, List.setIfInBounds_toArray, List.set_cons_zero, List.set_cons_succ]
                refine wpAnyH_take (i := 9) (oi := ?oiz10) (v := ?vz10) ?hiz10 (by kernel_rfl) (by kernel_rfl) (by kernel_rfl) ?hQz10 (Or.inr ⟨?hwz10, ?hyz10⟩) (by assumption) ?restz10
                case hiz10 => (first | (simp only [List.getElem?_toArray, List.getElem?_cons_zero, List.getElem?_cons_succ]; rfl) | rfl)
                case hQz10 => exact fun _ _ _ h => h
                case hwz10 => rfl
                case hyz10 => rfl
                try simp only [Act.put, List.setIfInBounds_toArray, List.set_cons_zero, List.set_cons_succ]
                refine wpAnyH_take (i := 10) (oi := ?oiz11) (v := ?vz11) ?hiz11 (by kernel_rfl) (by kernel_rfl) (by kernel_rfl) ?hQz11 (Or.inr ⟨?hwz11, ?hyz11⟩) (by assumption) ?restz11
                case hiz11 => (first | (simp only [List.getElem?_toArray, List.getElem?_cons_zero, List.getElem?_cons_succ]; rfl) | rfl)
                case hQz11 => exact fun _ _ _ h => h
                case hwz11 => rfl
                case hyz11 => rfl
                try simp only [Act.put, List.setIfInBounds_toArray, List.set_cons_zero, List.set_cons_succ]
                refine wpAnyH_take (i := 11) (oi := ?oiz12) (v := ?vz12) ?hiz12 (by kernel_rfl) (by kernel_rfl) (by kernel_rfl) ?hQz12 (Or.inr ⟨?hwz12, ?hyz12⟩) (by assumption) ?restz12
                case hiz12 => (first | (simp only [List.getElem?_toArray, List.getElem?_cons_zero, List.getElem?_cons_succ]; rfl) | rfl)
                case hQz12 => exact fun _ _ _ h => h
                case hwz12 => rfl
                case hyz12 => rfl
                try simp only [Act.put, List.setIfInBounds_toArray, List.set_cons_zero, List.set_cons_succ]
                refine wpAnyH_take (i := 12) (oi := ?oiz13) (v := ?vz13) ?hiz13 (by kernel_rfl) (by kernel_rfl) (by kernel_rfl) ?hQz13 (Or.inr ⟨?hwz13, ?hyz13⟩) (by assumption) ?restz13
                case hiz13 => (first | (simp only [List.getElem?_toArray, List.getElem?_cons_zero, List.getElem?_cons_succ]; rfl) | rfl)
                case hQz13 => exact fun _ _ _ h => h
                case hwz13 => rfl
                case hyz13 => rfl
                try simp only [Act.put, List.setIfInBounds_toArray, List.set_cons_zero, List.set_cons_succ]
                refine wpAnyH_take (i := 13) (oi := ?oiz14) (v := .bool false) ?hiz14 (by kernel_rfl) (by kernel_rfl) (by kernel_rfl) ?hQz14 (Or.inl ⟨?hwz14, ?hyz14⟩) (by assumption) ?restz14
                case hiz14 => (first | (simp only [List.getElem?_toArray, List.getElem?_cons_zero, List.getElem?_cons_succ]; rfl) | rfl)
                case hQz14 => exact fun _ _ _ h => h
                case hwz14 => rfl
                case hyz14 => ((intro w hSw; go_simp); first | done | with_reducible rfl)
                try simp only [Act.put, List.setIfInBounds_toArray, List.set_cons_zero, List.set_cons_succ]
                refine wpAnyH_take (i := 14) (oi := ?oiz15) (v := .bool false) ?hiz15 (by kernel_rfl) (by kernel_rfl) (by kernel_rfl) ?hQz15 (Or.inl ⟨?hwz15, ?hyz15⟩) (by assumption) ?restz15
                case hiz15 => (first | (simp only [List.getElem?_toArray, List.getElem?_cons_zero, List.getElem?_cons_succ]; rfl) | rfl)
                case hQz15 => exact fun _ _ _ h => h
                case hwz15 => rfl
                case hyz15 => ((intro w hSw; go_simp); first | done | with_reducible rfl)
                try simp only [Act.put, List.setIfInBounds_toArray, List.set_cons_zero, List.set_cons_succ]
                refine wpAnyH_take (i := 15) (oi := ?oiz16) (v := ?vz16) ?hiz16 (by kernel_rfl) (by kernel_rfl) (by kernel_rfl) ?hQz16 (Or.inl ⟨?hwz16, ?hyz16⟩) (by assumption) ?restz16
                case hiz16 => (first | (simp only [List.getElem?_toArray, List.getElem?_cons_zero, List.getElem?_cons_succ]; rfl) | rfl)
                case hQz16 => exact fun _ _ _ h => h
                case hwz16 => rfl
                case hyz16 => ((intro w hSw; go_simp); first | done | with_reducible rfl)
                try simp only [Act.put, List.setIfInBounds_toArray, List.set_cons_zero, List.set_cons_succ]
                refine wpAnyH_ready (rs := [16]) (by kernel_rfl) (by simp) ?_
                refine AllReadyH.cons (o := ?ok1) ?hck1 ?stk1 AllReadyH.nil
                case hck1 => (simp only [List.getElem?_toArray, List.getElem?_cons_zero, List.getElem?_cons_succ]; rfl)
                intro K hK
                go_simp
                refine HCK.out.mono ?_
                rintro e w6 ⟨rfl, hb6⟩
                have HB6 := Lib.hid (below_then HBD.out hb6 HBD.out.size)
                clear hb6
                go_wp2_with fail
                refine hK.out _ _ (trivial) (fun hHeld2 => ?_)
                clear hK K
                try simp only [Act.put, List.setIfInBounds_toArray, List.set_cons_zero, List.set_cons_succ]
                refine wpAnyH_take (i := 17) (oi := ?oiz17) (v := ?vz17) ?hiz17 (by kernel_rfl) (by kernel_rfl) (by kernel_rfl) ?hQz17 (Or.inl ⟨?hwz17, ?hyz17⟩) (by assumption) ?restz17
                case hiz17 => (first | (simp only [List.getElem?_toArray, List.getElem?_cons_zero, List.getElem?_cons_succ]; rfl) | rfl)
                case hQz17 => exact fun _ _ _ h => h
                case hwz17 => rfl
                case hyz17 => ((intro w hSw; go_simp); first | done | with_reducible rfl)
                try simp only [Act.put, List.setIfInBounds_toArray, List.set_cons_zero, List.set_cons_succ]
                refine wpAnyH_take (i := 18) (oi := ?oiz18) (v := ?vz18) ?hiz18 (by kernel_rfl) (by kernel_rfl) (by kernel_rfl) ?hQz18 (Or.inl ⟨?hwz18, ?hyz18⟩) (by assumption) ?restz18
                case hiz18 => (first | (simp only [List.getElem?_toArray, List.getElem?_cons_zero, List.getElem?_cons_succ]; rfl) | rfl)
                case hQz18 => exact fun _ _ _ h => h
                case hwz18 => rfl
                case hyz18 => ((intro w hSw; go_simp); first | done | with_reducible rfl)
                try simp only [Act.put, List.setIfInBounds_toArray, List.set_cons_zero, List.set_cons_succ]
                refine wpAnyH_take (i := 19) (oi := ?oiz19) (v := ?vz19) ?hiz19 (by kernel_rfl) (by kernel_rfl) (by kernel_rfl) ?hQz19 (Or.inl ⟨?hwz19, ?hyz19⟩) (by assumption) ?restz19
                case hiz19 => (first | (simp only [List.getElem?_toArray, List.getElem?_cons_zero, List.getElem?_cons_succ]; rfl) | rfl)
                case hQz19 => exact fun _ _ _ h => h
                case hwz19 => rfl
                case hyz19 => ((intro w hSw; go_simp); first | done | with_reducible rfl)
                try simp only [Act.put, List.setIfInBounds_toArray, List.set_cons_zero, List.set_cons_succ]
                refine wpAnyH_take (i := 20) (oi := ?oiz20) (v := ?vz20) ?hiz20 (by kernel_rfl) (by kernel_rfl) (by kernel_rfl) ?hQz20 (Or.inl ⟨?hwz20, ?hyz20⟩) (by assumption) ?restz20
                case hiz20 => (first | (simp only [List.getElem?_toArray, List.getElem?_cons_zero, List.getElem?_cons_succ]; rfl) | rfl)
                case hQz20 => exact fun _ _ _ h => h
                case hwz20 => rfl
                case hyz20 => ((intro w hSw; go_simp); first | done | with_reducible rfl)
                try simp only [Act.put, List.setIfInBounds_toArray, List.set_cons_zero, List.set_cons_succ]
                refine wpAnyH_take (i := 21) (oi := ?oiz21) (v := ?vz21) ?hiz21 (by kernel_rfl) (by kernel_rfl) (by kernel_rfl) ?hQz21 (Or.inl ⟨?hwz21, ?hyz21⟩) (by assumption) ?restz21
                case hiz21 => (first | (simp only [List.getElem?_toArray, List.getElem?_cons_zero, List.getElem?_cons_succ]; rfl) | rfl)
                case hQz21 => exact fun _ _ _ h => h
                case hwz21 => rfl
                case hyz21 => ((intro w hSw; go_simp); first | done | with_reducible rfl)
                try simp only [Act.put, List.setIfInBounds_toArray, List.set_cons_zero, List.set_cons_succ]
                refine wpAnyH_take (i := 22) (oi := ?oiz22) (v := ?vz22) ?hiz22 (by kernel_rfl) (by kernel_rfl) (by kernel_rfl) ?hQz22 (Or.inl ⟨?hwz22, ?hyz22⟩) (by assumption) ?restz22
                case hiz22 => (first | (simp only [List.getElem?_toArray, List.getElem?_cons_zero, List.getElem?_cons_succ]; rfl) | rfl)
                case hQz22 => exact fun _ _ _ h => h
                case hwz22 => rfl
                case hyz22 => ((intro w hSw; go_simp); first | done | with_reducible rfl)
                try simp only [Act.put, List.setIfInBounds_toArray, List.set_cons_zero, List.set_cons_succ]
                refine wpAnyH_take (i := 23) (oi := ?oiz23) (v := ?vz23) ?hiz23 (by kernel_rfl) (by kernel_rfl) (by kernel_rfl) ?hQz23 (Or.inl ⟨?hwz23, ?hyz23⟩) (by assumption) ?restz23
                case hiz23 => (first | (simp only [List.getElem?_toArray, List.getElem?_cons_zero, List.getElem?_cons_succ]; rfl) | rfl)
                case hQz23 => exact fun _ _ _ h => h
                case hwz23 => rfl
                case hyz23 => ((intro w hSw; go_simp); first | done | with_reducible rfl)
                try simp only [Act.put, List.setIfInBounds_toArray, List.set_cons_zero, List.set_cons_succ]
                refine wpAnyH_done (by kernel_rfl) ?_ _
                clear hHeld hHeld2
                go_wp2_with fail
                go_meet
                exact ⟨rfl, HB6.out⟩
              · obtain ⟨k', hk'⟩ : ∃ k', k = k' + 1 := ⟨k - 1, by omega⟩
                have d7 : decide ((0 : Int) < (k : Int)) = true := decide_eq_true (by omega)
                have d7n : 0 < k := by omega
                have d7m : decide (0 < k) = true := decide_eq_true d7n
                have hw7 : IntKind.i64.wrap ((k : Int) - 1) = (k' : Int) := by rw [show (k : Int) - 1 = (k' : Int) by omega]; exact IntWalk.i64_in _ (by omega)
                have p7 : (0 : Int) ≤ (k' : Int) := by omega
                have p8 : (k' : Int) < (nT : Int) := by omega
                obtain ⟨pb, z, hpb, hz, z0, -, -⟩ := (HI4.out.below HB5.out).at k' (by omega)
                obtain rfl : pt = pb := Option.some.inj hpb
                have hzy : z < y := by
                  have h1 := List.pairwise_iff_getElem.1 HUP.out k' k (by have := (List.getElem?_eq_some_iff.1 hz).1; exact this) (by have := (List.getElem?_eq_some_iff.1 HY.out).1; exact this) (by omega)
                  rw [(List.getElem?_eq_some_iff.1 hz).2, (List.getElem?_eq_some_iff.1 HY.out).2] at h1
                  exact h1
                have d8 : decide (y ≤ z) = false := decide_eq_false (by omega)
                have HC0 := Lib.hid c0
                have HZ0 := Lib.hid z0
                clear hpb hz hzy hk'
                go_wp2_with fail
                refine wp_region_held_drew (S := fun w' => w'.cell? (pt.add k') = some (.int .i64 z) ∧ w'.cell? (pt.add k) = some (.int .i64 y)) (by kernel_rfl) ⟨z0, c0⟩ (fun hHeld => ?_)
                obtain ⟨wd, hwd⟩ : ∃ zz, zz = w5.drew := ⟨_, rfl⟩
                try rw [← hwd] at hHeld
                rw [← hwd]
                have hbd : Below w5.heap.size w5 wd := by rw [hwd]; exact (Below.refl _ w5).drew
                have HCK := Lib.hid (r9Check_any wd A5 P.length c5 P (HS5.out.below hbd) (by omega))
                rw [HCHK.out] at HCK
                have HBD := Lib.hid hbd
                clear hbd hwd
                refine wpAnyH_take (i := 0) (oi := ?oiz24) (v := ?vz24) ?hiz24 (by kernel_rfl) (by kernel_rfl) (by kernel_rfl) ?hQz24 (Or.inl ⟨?hwz24, ?hyz24⟩) (by assumption) ?restz24
                case hiz24 => (first | (simp only [List.getElem?_toArray, List.getElem?_cons_zero, List.getElem?_cons_succ]; rfl) | rfl)
                case hQz24 => exact fun _ _ _ h => h
                case hwz24 => rfl
                case hyz24 => ((intro w hSw; go_simp); first | done | with_reducible rfl)
                try simp only [Act.put, List.setIfInBounds_toArray, List.set_cons_zero, List.set_cons_succ]
                refine wpAnyH_take (i := 1) (oi := ?oiz25) (v := .bool true) ?hiz25 (by kernel_rfl) (by kernel_rfl) (by kernel_rfl) ?hQz25 (Or.inl ⟨?hwz25, ?hyz25⟩) (by assumption) ?restz25
                case hiz25 => (first | (simp only [List.getElem?_toArray, List.getElem?_cons_zero, List.getElem?_cons_succ]; rfl) | rfl)
                case hQz25 => exact fun _ _ _ h => h
                case hwz25 => rfl
                case hyz25 => ((intro w hSw; go_simp); first | done | with_reducible rfl)
                try simp only [Act.put, List.setIfInBounds_toArray, List.set_cons_zero, List.set_cons_succ]
                refine wpAnyH_take (i := 2) (oi := ?oiz26) (v := .bool true) ?hiz26 (by kernel_rfl) (by kernel_rfl) (by kernel_rfl) ?hQz26 (Or.inl ⟨?hwz26, ?hyz26⟩) (by assumption) ?restz26
                case hiz26 => (first | (simp only [List.getElem?_toArray, List.getElem?_cons_zero, List.getElem?_cons_succ]; rfl) | rfl)
                case hQz26 => exact fun _ _ _ h => h
                case hwz26 => rfl
                case hyz26 => ((intro w hSw; go_simp); first | done | with_reducible rfl)
                try simp only [Act.put, List.setIfInBounds_toArray, List.set_cons_zero, List.set_cons_succ]
                refine wpAnyH_take (i := 3) (oi := ?oiz27) (v := ?vz27) ?hiz27 (by kernel_rfl) (by kernel_rfl) (by kernel_rfl) ?hQz27 (Or.inl ⟨?hwz27, ?hyz27⟩) (by assumption) ?restz27
                case hiz27 => (first | (simp only [List.getElem?_toArray, List.getElem?_cons_zero, List.getElem?_cons_succ]; rfl) | rfl)
                case hQz27 => exact fun _ _ _ h => h
                case hwz27 => rfl
                case hyz27 => ((intro w hSw; go_simp); first | done | with_reducible rfl)
                try simp only [Act.put, List.setIfInBounds_toArray, List.set_cons_zero, List.set_cons_succ]
                refine wpAnyH_take (i := 4) (oi := ?oiz28) (v := ?vz28) ?hiz28 (by kernel_rfl) (by kernel_rfl) (by kernel_rfl) ?hQz28 (Or.inl ⟨?hwz28, ?hyz28⟩) (by assumption) ?restz28
                case hiz28 => (first | (simp only [List.getElem?_toArray, List.getElem?_cons_zero, List.getElem?_cons_succ]; rfl) | rfl)
                case hQz28 => exact fun _ _ _ h => h
                case hwz28 => rfl
                case hyz28 => ((intro w hSw; go_simp); first | done | with_reducible rfl)
                try simp only [Act.put, List.setIfInBounds_toArray, List.set_cons_zero, List.set_cons_succ]
                refine wpAnyH_take (i := 5) (oi := ?oiz29) (v := ?vz29) ?hiz29 (by kernel_rfl) (by kernel_rfl) (by kernel_rfl) ?hQz29 (Or.inl ⟨?hwz29, ?hyz29⟩) (by assumption) ?restz29
                case hiz29 => (first | (simp only [List.getElem?_toArray, List.getElem?_cons_zero, List.getElem?_cons_succ]; rfl) | rfl)
                case hQz29 => exact fun _ _ _ h => h
                case hwz29 => rfl
                case hyz29 => ((intro w hSw; go_simp); first | done | with_reducible rfl)
                try simp only [Act.put, List.setIfInBounds_toArray, List.set_cons_zero, List.set_cons_succ]
                refine wpAnyH_take (i := 6) (oi := ?oiz30) (v := ?vz30) ?hiz30 (by kernel_rfl) (by kernel_rfl) (by kernel_rfl) ?hQz30 (Or.inl ⟨?hwz30, ?hyz30⟩) (by assumption) ?restz30
                case hiz30 => (first | (simp only [List.getElem?_toArray, List.getElem?_cons_zero, List.getElem?_cons_succ]; rfl) | rfl)
                case hQz30 => exact fun _ _ _ h => h
                case hwz30 => rfl
                case hyz30 => ((intro w hSw; go_simp); first | done | with_reducible rfl)
                try simp only [Act.put, List.setIfInBounds_toArray, List.set_cons_zero, List.set_cons_succ]
                refine wpAnyH_take (i := 7) (oi := ?oiz31) (v := ?vz31) ?hiz31 (by kernel_rfl) (by kernel_rfl) (by kernel_rfl) ?hQz31 (Or.inl ⟨?hwz31, ?hyz31⟩) (by assumption) ?restz31
                case hiz31 => (first | (simp only [List.getElem?_toArray, List.getElem?_cons_zero, List.getElem?_cons_succ]; rfl) | rfl)
                case hQz31 => exact fun _ _ _ h => h
                case hwz31 => rfl
                case hyz31 => ((intro w hSw; obtain ⟨zs0, zs1⟩ := hSw; go_simp); first | done | with_reducible rfl)
                try simp only [Act.put, List.setIfInBounds_toArray, List.set_cons_zero, List.set_cons_succ]
                refine wpAnyH_take (i := 8) (oi := ?oiz32) (v := ?vz32) ?hiz32 (by kernel_rfl) (by kernel_rfl) (by kernel_rfl) ?hQz32 (Or.inl ⟨?hwz32, ?hyz32⟩) (by assumption) ?restz32
                case hiz32 => (first | (simp only [List.getElem?_toArray, List.getElem?_cons_zero, List.getElem?_cons_succ]; rfl) | rfl)
                case hQz32 => exact fun _ _ _ h => h
                case hwz32 => rfl
                case hyz32 => ((intro w hSw; go_simp); first | done | with_reducible rfl)
                try simp only [Act.put, List.setIfInBounds_toArray, List.set_cons_zero, List.set_cons_succ]
                refine wpAnyH_take (i := 9) (oi := ?oiz33) (v := ?vz33) ?hiz33 (by kernel_rfl) (by kernel_rfl) (by kernel_rfl) ?hQz33 (Or.inl ⟨?hwz33, ?hyz33⟩) (by assumption) ?restz33
                case hiz33 => (first | (simp only [List.getElem?_toArray, List.getElem?_cons_zero, List.getElem?_cons_succ]; rfl) | rfl)
                case hQz33 => exact fun _ _ _ h => h
                case hwz33 => rfl
                case hyz33 => ((intro w hSw; go_simp); first | done | with_reducible rfl)
                try simp only [Act.put, List.setIfInBounds_toArray, List.set_cons_zero, List.set_cons_succ]
                refine wpAnyH_take (i := 10) (oi := ?oiz34) (v := ?vz34) ?hiz34 (by kernel_rfl) (by kernel_rfl) (by kernel_rfl) ?hQz34 (Or.inl ⟨?hwz34, ?hyz34⟩) (by assumption) ?restz34
                case hiz34 => (first | (simp only [List.getElem?_toArray, List.getElem?_cons_zero, List.getElem?_cons_succ]; rfl) | rfl)
                case hQz34 => exact fun _ _ _ h => h
                case hwz34 => rfl
                case hyz34 => ((intro w hSw; go_simp); first | done | with_reducible rfl)
                try simp only [Act.put, List.setIfInBounds_toArray, List.set_cons_zero, List.set_cons_succ]
                refine wpAnyH_take (i := 11) (oi := ?oiz35) (v := ?vz35) ?hiz35 (by kernel_rfl) (by kernel_rfl) (by kernel_rfl) ?hQz35 (Or.inl ⟨?hwz35, ?hyz35⟩) (by assumption) ?restz35
                case hiz35 => (first | (simp only [List.getElem?_toArray, List.getElem?_cons_zero, List.getElem?_cons_succ]; rfl) | rfl)
                case hQz35 => exact fun _ _ _ h => h
                case hwz35 => rfl
                case hyz35 => ((intro w hSw; obtain ⟨zs0, zs1⟩ := hSw; go_simp); first | done | with_reducible rfl)
                try simp only [Act.put, List.setIfInBounds_toArray, List.set_cons_zero, List.set_cons_succ]
                refine wpAnyH_take (i := 12) (oi := ?oiz36) (v := .bool false) ?hiz36 (by kernel_rfl) (by kernel_rfl) (by kernel_rfl) ?hQz36 (Or.inl ⟨?hwz36, ?hyz36⟩) (by assumption) ?restz36
                case hiz36 => (first | (simp only [List.getElem?_toArray, List.getElem?_cons_zero, List.getElem?_cons_succ]; rfl) | rfl)
                case hQz36 => exact fun _ _ _ h => h
                case hwz36 => rfl
                case hyz36 => ((intro w hSw; go_simp); first | done | with_reducible rfl)
                try simp only [Act.put, List.setIfInBounds_toArray, List.set_cons_zero, List.set_cons_succ]
                refine wpAnyH_take (i := 13) (oi := ?oiz37) (v := .bool false) ?hiz37 (by kernel_rfl) (by kernel_rfl) (by kernel_rfl) ?hQz37 (Or.inl ⟨?hwz37, ?hyz37⟩) (by assumption) ?restz37
                case hiz37 => (first | (simp only [List.getElem?_toArray, List.getElem?_cons_zero, List.getElem?_cons_succ]; rfl) | rfl)
                case hQz37 => exact fun _ _ _ h => h
                case hwz37 => rfl
                case hyz37 => ((intro w hSw; go_simp); first | done | with_reducible rfl)
                try simp only [Act.put, List.setIfInBounds_toArray, List.set_cons_zero, List.set_cons_succ]
                refine wpAnyH_take (i := 14) (oi := ?oiz38) (v := .bool false) ?hiz38 (by kernel_rfl) (by kernel_rfl) (by kernel_rfl) ?hQz38 (Or.inl ⟨?hwz38, ?hyz38⟩) (by assumption) ?restz38
                case hiz38 => (first | (simp only [List.getElem?_toArray, List.getElem?_cons_zero, List.getElem?_cons_succ]; rfl) | rfl)
                case hQz38 => exact fun _ _ _ h => h
                case hwz38 => rfl
                case hyz38 => ((intro w hSw; go_simp); first | done | with_reducible rfl)
                try simp only [Act.put, List.setIfInBounds_toArray, List.set_cons_zero, List.set_cons_succ]
                refine wpAnyH_take (i := 15) (oi := ?oiz39) (v := ?vz39) ?hiz39 (by kernel_rfl) (by kernel_rfl) (by kernel_rfl) ?hQz39 (Or.inl ⟨?hwz39, ?hyz39⟩) (by assumption) ?restz39
                case hiz39 => (first | (simp only [List.getElem?_toArray, List.getElem?_cons_zero, List.getElem?_cons_succ]; rfl) | rfl)
                case hQz39 => exact fun _ _ _ h => h
                case hwz39 => rfl
                case hyz39 => ((intro w hSw; go_simp); first | done | with_reducible rfl)
                try simp only [Act.put, List.setIfInBounds_toArray, List.set_cons_zero, List.set_cons_succ]
                refine wpAnyH_ready (rs := [16]) (by kernel_rfl) (by simp) ?_
                refine AllReadyH.cons (o := ?ok0) ?hck0 ?stk0 AllReadyH.nil
                case hck0 => (simp only [List.getElem?_toArray, List.getElem?_cons_zero, List.getElem?_cons_succ]; rfl)
                intro K hK
                go_simp
                refine HCK.out.mono ?_
                rintro e w6 ⟨rfl, hb6⟩
                have HB6 := Lib.hid (below_then HBD.out hb6 HBD.out.size)
                clear hb6
                go_wp2_with fail
                refine hK.out _ _ (And.intro (below_cells HB6.out HZ0.out) (below_cells HB6.out HC0.out)) (fun hHeld2 => ?_)
                clear hK K
                try simp only [Act.put, List.setIfInBounds_toArray, List.set_cons_zero, List.set_cons_succ]
                refine wpAnyH_take (i := 17) (oi := ?oiz40) (v := ?vz40) ?hiz40 (by kernel_rfl) (by kernel_rfl) (by kernel_rfl) ?hQz40 (Or.inl ⟨?hwz40, ?hyz40⟩) (by assumption) ?restz40
                case hiz40 => (first | (simp only [List.getElem?_toArray, List.getElem?_cons_zero, List.getElem?_cons_succ]; rfl) | rfl)
                case hQz40 => exact fun _ _ _ h => h
                case hwz40 => rfl
                case hyz40 => ((intro w hSw; go_simp); first | done | with_reducible rfl)
                try simp only [Act.put, List.setIfInBounds_toArray, List.set_cons_zero, List.set_cons_succ]
                refine wpAnyH_take (i := 18) (oi := ?oiz41) (v := ?vz41) ?hiz41 (by kernel_rfl) (by kernel_rfl) (by kernel_rfl) ?hQz41 (Or.inl ⟨?hwz41, ?hyz41⟩) (by assumption) ?restz41
                case hiz41 => (first | (simp only [List.getElem?_toArray, List.getElem?_cons_zero, List.getElem?_cons_succ]; rfl) | rfl)
                case hQz41 => exact fun _ _ _ h => h
                case hwz41 => rfl
                case hyz41 => ((intro w hSw; go_simp); first | done | with_reducible rfl)
                try simp only [Act.put, List.setIfInBounds_toArray, List.set_cons_zero, List.set_cons_succ]
                refine wpAnyH_take (i := 19) (oi := ?oiz42) (v := ?vz42) ?hiz42 (by kernel_rfl) (by kernel_rfl) (by kernel_rfl) ?hQz42 (Or.inl ⟨?hwz42, ?hyz42⟩) (by assumption) ?restz42
                case hiz42 => (first | (simp only [List.getElem?_toArray, List.getElem?_cons_zero, List.getElem?_cons_succ]; rfl) | rfl)
                case hQz42 => exact fun _ _ _ h => h
                case hwz42 => rfl
                case hyz42 => ((intro w hSw; go_simp); first | done | with_reducible rfl)
                try simp only [Act.put, List.setIfInBounds_toArray, List.set_cons_zero, List.set_cons_succ]
                refine wpAnyH_take (i := 20) (oi := ?oiz43) (v := ?vz43) ?hiz43 (by kernel_rfl) (by kernel_rfl) (by kernel_rfl) ?hQz43 (Or.inl ⟨?hwz43, ?hyz43⟩) (by assumption) ?restz43
                case hiz43 => (first | (simp only [List.getElem?_toArray, List.getElem?_cons_zero, List.getElem?_cons_succ]; rfl) | rfl)
                case hQz43 => exact fun _ _ _ h => h
                case hwz43 => rfl
                case hyz43 => ((intro w hSw; go_simp); first | done | with_reducible rfl)
                try simp only [Act.put, List.setIfInBounds_toArray, List.set_cons_zero, List.set_cons_succ]
                refine wpAnyH_take (i := 21) (oi := ?oiz44) (v := ?vz44) ?hiz44 (by kernel_rfl) (by kernel_rfl) (by kernel_rfl) ?hQz44 (Or.inl ⟨?hwz44, ?hyz44⟩) (by assumption) ?restz44
                case hiz44 => (first | (simp only [List.getElem?_toArray, List.getElem?_cons_zero, List.getElem?_cons_succ]; rfl) | rfl)
                case hQz44 => exact fun _ _ _ h => h
                case hwz44 => rfl
                case hyz44 => ((intro w hSw; go_simp); first | done | with_reducible rfl)
                try simp only [Act.put, List.setIfInBounds_toArray, List.set_cons_zero, List.set_cons_succ]
                refine wpAnyH_take (i := 22) (oi := ?oiz45) (v := ?vz45) ?hiz45 (by kernel_rfl) (by kernel_rfl) (by kernel_rfl) ?hQz45 (Or.inl ⟨?hwz45, ?hyz45⟩) (by assumption) ?restz45
                case hiz45 => (first | (simp only [List.getElem?_toArray, List.getElem?_cons_zero, List.getElem?_cons_succ]; rfl) | rfl)
                case hQz45 => exact fun _ _ _ h => h
                case hwz45 => rfl
                case hyz45 => ((intro w hSw; go_simp); first | done | with_reducible rfl)
                try simp only [Act.put, List.setIfInBounds_toArray, List.set_cons_zero, List.set_cons_succ]
                refine wpAnyH_take (i := 23) (oi := ?oiz46) (v := ?vz46) ?hiz46 (by kernel_rfl) (by kernel_rfl) (by kernel_rfl) ?hQz46 (Or.inl ⟨?hwz46, ?hyz46⟩) (by assumption) ?restz46
                case hiz46 => (first | (simp only [List.getElem?_toArray, List.getElem?_cons_zero, List.getElem?_cons_succ]; rfl) | rfl)
                case hQz46 => exact fun _ _ _ h => h
                case hwz46 => rfl
                case hyz46 => ((intro w hSw; go_simp); first | done | with_reducible rfl)
                try simp only [Act.put, List.setIfInBounds_toArray, List.set_cons_zero, List.set_cons_succ]
                refine wpAnyH_done (by kernel_rfl) ?_ _
                clear hHeld hHeld2
                go_wp2_with fail
                go_meet
                exact ⟨rfl, HB6.out⟩
            case rest =>
              obtain ⟨rfl, hbc⟩ := hcut
              have HBC := Lib.hid (below_then HB5.out hbc HB5.out.size)
              have HSC := Lib.hid (HS5.out.below hbc)
              have HYC := Lib.hid (below_cells hbc c0)
              have hzc := HBC.out.size
              clear hbc c0
              obtain ⟨n1, hn1⟩ : ∃ n1, n1 = P.length := ⟨_, rfl⟩
              rw [← hn1] at HSC hpl
              have HN1 := Lib.hid hn1
              rw [← hn1]
              clear hn1
              go_wp2
              go_loopw [9, 13] (fun nv jv wj => ∃ j : Nat, j ≤ n1 ∧ nv = .int .i64 (n0 + spotsOf (P.take j) : Nat) ∧ jv = .int .i64 j ∧ Below wc.heap.size wc wj) (fun _ jv _ => n1 - (intOf jv).toNat)
              case atStart => exact ⟨0, by omega, by simp [spotsOf], rfl, Below.refl _ _⟩
              case round =>
                obtain ⟨j, hj, rfl, rfl, hbj⟩ := hrel
                have HBJ := Lib.hid hbj
                have hzj := hbj.size
                have hpm := spotsOf_mono P j
                obtain ⟨s0, hs0⟩ : ∃ s0, s0 = spotsOf (P.take j) := ⟨_, rfl⟩
                rw [← hs0] at hpm
                rw [← hs0]
                have HS0 := Lib.hid hs0
                clear hbj hs0
                rcases Nat.lt_or_ge j n1 with hjl | hjg
                · have hjl' : (j : Int) < (n1 : Int) := by omega
                  have r0 : (0 : Int) ≤ (j : Int) := by omega
                  have hw3 : IntKind.i64.wrap ((j : Int) + 1) = (j : Int) + 1 := IntWalk.i64_in _ (by omega)
                  obtain ⟨ap, p, Bs, cs, rfl, hp, -, d0, d1, -, hps⟩ := (HSC.out.below HBJ.out).at j hjl
                  have hso := spotsOf_take P j hp
                  have hpm2 := spotsOf_mono P (j + 1)
                  obtain ⟨wj, hwj⟩ : ∃ zz, zz = wr := ⟨_, rfl⟩
                  rw [← hwj] at HBJ hzj d0 d1 hps
                  rw [← hwj]
                  clear hwj
                  obtain ⟨m, hm⟩ : ∃ m, m = p.2.length := ⟨_, rfl⟩
                  rw [← hm] at d1 hps hso
                  rw [← HS0.out] at hso
                  rw [hso] at hpm2
                  have HPS := Lib.hid hps
                  have HSO := Lib.hid hso
                  have HPI := Lib.hid hp
                  have HD0 := Lib.hid d0
                  have HD1 := Lib.hid d1
                  clear hps hso hp d0 d1 hm
                  go_wp2
                  go_loopw [9, 14] (fun nv qv wq => ∃ q : Nat, q ≤ m ∧ nv = .int .i64 (n0 + s0 + q : Nat) ∧ qv = .int .i64 q ∧ Below wj.heap.size wj wq) (fun _ qv _ => m - (intOf qv).toNat)
                  case atStart => exact ⟨0, by omega, rfl, rfl, Below.refl _ _⟩
                  case round =>
                    obtain ⟨q, hq, rfl, rfl, hbq⟩ := hrel
                    have HBQ := Lib.hid hbq
                    have hzq := hbq.size
                    have d0 := below_cells hbq HD0.out
                    have d1 := below_cells hbq HD1.out
                    clear hbq
                    rcases Nat.lt_or_ge q m with hql | hqg
                    · have hql' : (q : Int) < (m : Int) := by omega
                      have r1 : (0 : Int) ≤ (q : Int) := by omega
                      have hw4 : IntKind.i64.wrap ((q : Int) + 1) = (q : Int) + 1 := IntWalk.i64_in _ (by omega)
                      obtain ⟨n2, hn2⟩ : ∃ n2, n2 = n0 + s0 + q := ⟨_, rfl⟩
                      rw [← hn2]
                      have HN2 := Lib.hid hn2
                      have hn2b : n2 ≤ 20000 := by omega
                      clear hn2
                      have hw6 : IntKind.i64.wrap ((n2 : Int) + 1) = (n2 : Int) + 1 := IntWalk.i64_in _ (by omega)
                      obtain ⟨ab, s, rfl, hsq, e0, e1, -, -⟩ := (HPS.out.below HBQ.out).at q hql
                      have hpP : p ∈ mPosts L y := by rw [← HPP.out]; exact List.mem_of_getElem? HPI.out
                      have hfs := found_spot hpP (List.mem_of_getElem? hsq)
                      obtain ⟨x, -, -, i0, -, -, hsi⟩ := spot_from hpP (List.mem_of_getElem? hsq)
                      obtain ⟨s1, s2⟩ := s
                      obtain ⟨rfl, -⟩ := Prod.mk.inj hsi
                      obtain ⟨dp, hdp⟩ : ∃ dp, dp = p.1 := ⟨_, rfl⟩
                      rw [← hdp] at hfs d0
                      simp only at hfs e0 e1
                      rw [← HN.out] at hfs
                      have HFS := Lib.hid hfs
                      obtain ⟨wq, hwq⟩ : ∃ zz, zz = wr := ⟨_, rfl⟩
                      rw [← hwq] at HBQ hzq d0 d1 e0 e1
                      rw [← hwq]
                      obtain ⟨w7, hw7⟩ : ∃ zz, zz = wq.alloc (.cells #[.int .i64 (i0 : Int), .int .i64 s2] 48) := ⟨_, rfl⟩
                      have hb7 : Below wq.heap.size wq w7 := by rw [hw7]; exact (Below.refl _ wq).alloc (Nat.le_refl _) _
                      have hg7 : Blk w7 wq.heap.size 48 #[.int .i64 (i0 : Int), .int .i64 s2] := by rw [hw7]; exact Blk.new _ _ _
                      have HG7 := Lib.hid hg7
                      have HB7 := Lib.hid hb7
                      have hz7 := hb7.size
                      have hbc7 := below_then (below_then HBJ.out HBQ.out HBJ.out.size) hb7 (by omega)
                      have HD7 := Lib.hid (below_cells hb7 d0)
                      have HY7 := Lib.hid (below_cells hbc7 HYC.out)
                      have HS7 := Lib.hid ((HS4.out.below HBC.out).below hbc7)
                      have HW7 := Lib.hid hw7
                      have hz07 := hbc7.size
                      clear hwq hpP hfs hsi hsq hdp hb7 hg7 hbc7 hw7
                      go_wp2
                      rw [← HW7.out]
                      go_loopw [16, 17] (fun fv av wa => ∃ (a : Nat) (z : Bool), a ≤ N ∧ fv = .bool z ∧ av = .int .i64 a ∧ z = foundUp L dp (i0 : Int) s2 y a ∧ Below w7.heap.size w7 wa) (fun _ av _ => N - (intOf av).toNat)
                      case atStart => exact ⟨0, false, by omega, rfl, rfl, rfl, Below.refl _ _⟩
                      case round =>
                        obtain ⟨a, z, ha, rfl, rfl, hz, hba⟩ := hrel
                        have HZ := Lib.hid hz
                        have HBA := Lib.hid hba
                        have hza := hba.size
                        clear hz hba
                        rcases Nat.lt_or_ge a N with hal | hag
                        · have hal' : (a : Int) < (N : Int) := by omega
                          have r2 : (0 : Int) ≤ (a : Int) := by omega
                          have hw8 : IntKind.i64.wrap ((a : Int) + 1) = (a : Int) + 1 := IntWalk.i64_in _ (by omega)
                          obtain ⟨pv, x', B, cB, C, cC, rfl, hx', -, f0, f1, f2, -, hIB, -, hIC⟩ := (HS7.out.below HBA.out).at a hal
                          have hmd : mD L a = x' := by unfold mD; rw [List.getD_eq_getElem?_getD, hx']; rfl
                          have hxok := HW.out.ok x' (List.mem_of_getElem? hx')
                          have hsame := hxok.same
                          have HNX : Hid (foundUp L dp (i0 : Int) s2 y (a + 1) = (z || isAt x' dp (i0 : Int) s2 y)) := Lib.hid (by rw [foundUp, hmd, ← HZ.out])
                          obtain ⟨dx, hdx⟩ : ∃ dx, dx = x'.doc := ⟨_, rfl⟩
                          rw [← hdx] at f0
                          obtain ⟨lT, hlT⟩ : ∃ lT, lT = x'.T.length := ⟨_, rfl⟩
                          rw [hsame] at f2 hIC
                          rw [← hlT] at f1 f2 hIB hIC
                          clear hsame
                          have HIB := Lib.hid hIB
                          have HIC := Lib.hid hIC
                          have HDX := Lib.hid hdx
                          have HLT2 := Lib.hid hlT
                          obtain ⟨wa, hwa⟩ : ∃ zz, zz = wr := ⟨_, rfl⟩
                          rw [← hwa] at HBA hza f0 f1 f2 HIB HIC
                          rw [← hwa]
                          obtain ⟨w9, hw9⟩ : ∃ zz, zz = wa.alloc (.cells #[.int .i64 dx, .slice B lT cB, .slice C lT cC] 35) := ⟨_, rfl⟩
                          have hb9 : Below wa.heap.size wa w9 := by rw [hw9]; exact (Below.refl _ wa).alloc (Nat.le_refl _) _
                          have hg9 : Blk w9 wa.heap.size 35 #[.int .i64 dx, .slice B lT cB, .slice C lT cC] := by rw [hw9]; exact Blk.new _ _ _
                          have hb79 := below_then HBA.out hb9 HBA.out.size
                          have hg79 := HG7.out.below hb79 HG7.out.lt
                          have m0 : ∀ q, (w9.drewN q).cell? ⟨wa.heap.size, 0, none⟩ = some (.int .i64 dx) := fun _ => hg9.cell 0
                          have m1 : ∀ q, (w9.drewN q).cell? ⟨wa.heap.size, 1, none⟩ = some (.slice B lT cB) := fun _ => hg9.cell 1
                          have m2 : ∀ q, (w9.drewN q).cell? ⟨wa.heap.size, 2, none⟩ = some (.slice C lT cC) := fun _ => hg9.cell 2
                          have m3 : ∀ q, (w9.drewN q).cell? ⟨wq.heap.size, 0, none⟩ = some (.int .i64 (i0 : Int)) := fun _ => hg79.cell 0
                          have m4 : ∀ q, (w9.drewN q).cell? ⟨wq.heap.size, 1, none⟩ = some (.int .i64 s2) := fun _ => hg79.cell 1
                          have m5 : ∀ q, (w9.drewN q).cell? (ap.add (j * 2)) = some (.int .i64 dp) := fun _ => below_cells hb79 HD7.out
                          have m6 : ∀ q, (w9.drewN q).cell? (pt.add k) = some (.int .i64 y) := fun _ => below_cells hb79 HY7.out
                          have HI9 := Lib.hid (HIB.out.below hb9)
                          have HJ9 := Lib.hid (HIC.out.below hb9)
                          have HB79 := Lib.hid hb79
                          have HW9 := Lib.hid hw9
                          clear hwa hx' hmd hxok hdx hlT hIB hIC hb9 hg9 hb79 hg79 hw9
                          cases z with
                          | true =>
                            go_upto_region 35 with fail
                            rw [← HW9.out]
                            go_quiet (fail)
                            have HBN := Lib.hid (below_drewN HB79.out nq)
                            go_wp2
                            go_roundw
                            case rel => exact ⟨a + 1, true, by omega, rfl, by go_num, by rw [HNX.out]; rfl, HBN.out⟩
                            case measure => simp [intOf]; omega
                          | false =>
                            by_cases h1 : dx = dp
                            · have e1 : (dx == dp) = true := by simpa using h1
                              have E1 := Lib.hid e1
                              clear h1
                              by_cases h2 : i0 < lT
                              · have e2 : decide ((i0 : Int) < (lT : Int)) = true := decide_eq_true (by omega)
                                have E2 := Lib.hid e2
                                have i1n : (0 : Int) ≤ (i0 : Int) := by omega
                                have i2n : (i0 : Int) < (lT : Int) := by omega
                                obtain ⟨bt, tok, rfl, htk, g0, -, -⟩ := HI9.out.at i0 h2
                                obtain ⟨bs, st, rfl, hst, g1, -, -⟩ := HJ9.out.at i0 (by omega)
                                have n0' : ∀ q, (w9.drewN q).cell? (bt.add i0) = some (.int .i64 tok) := fun _ => g0
                                have n1' : ∀ q, (w9.drewN q).cell? (bs.add i0) = some (.int .i64 st) := fun _ => g1
                                have hg1 : x'.T.getD i0 0 = tok := by rw [List.getD_eq_getElem?_getD, htk]; rfl
                                have hg2 : x'.S.getD i0 0 = st := by rw [List.getD_eq_getElem?_getD, hst]; rfl
                                have HIS : Hid (isAt x' dp (i0 : Int) s2 y = (tok == y && st == s2)) := Lib.hid (by unfold isAt; rw [← HDX.out, E1.out, ← HLT2.out, E2.out, Int.toNat_natCast, hg1, hg2]; rfl)
                                clear htk hst hg1 hg2 g0 g1
                                by_cases h3 : tok = y
                                · have e3 : (tok == y) = true := by simpa using h3
                                  obtain ⟨e, he⟩ : ∃ e, e = (st == s2) := ⟨_, rfl⟩
                                  have HE4 := Lib.hid he
                                  have HE3 := Lib.hid e3
                                  have e4 := he.symm
                                  clear he h3
                                  go_upto_region 35 with fail
                                  rw [← HW9.out]
                                  go_quiet (fail)
                                  have HBN := Lib.hid (below_drewN HB79.out nq)
                                  go_wp2
                                  go_roundw
                                  case rel => exact ⟨a + 1, e, by omega, rfl, by go_num, by rw [HNX.out, HIS.out, HE3.out, ← HE4.out]; rfl, HBN.out⟩
                                  case measure => simp [intOf]; omega
                                · have e3 : (tok == y) = false := by simpa using h3
                                  have HE3 := Lib.hid e3
                                  clear h3
                                  go_upto_region 35 with fail
                                  rw [← HW9.out]
                                  go_quiet (fail)
                                  have HBN := Lib.hid (below_drewN HB79.out nq)
                                  go_wp2
                                  go_roundw
                                  case rel => exact ⟨a + 1, false, by omega, rfl, by go_num, by rw [HNX.out, HIS.out, HE3.out]; rfl, HBN.out⟩
                                  case measure => simp [intOf]; omega
                              · have e2 : decide ((i0 : Int) < (lT : Int)) = false := decide_eq_false (by omega)
                                have E2 := Lib.hid e2
                                go_upto_region 35 with fail
                                rw [← HW9.out]
                                go_quiet (fail)
                                have HBN := Lib.hid (below_drewN HB79.out nq)
                                go_wp2
                                go_roundw
                                case rel => exact ⟨a + 1, false, by omega, rfl, by go_num, by rw [HNX.out]; unfold isAt; rw [← HDX.out, E1.out, ← HLT2.out, E2.out]; rfl, HBN.out⟩
                                case measure => simp [intOf]; omega
                            · have e1 : (dx == dp) = false := by simpa using h1
                              have E1 := Lib.hid e1
                              clear h1
                              go_upto_region 35 with fail
                              rw [← HW9.out]
                              go_quiet (fail)
                              have HBN := Lib.hid (below_drewN HB79.out nq)
                              go_wp2
                              go_roundw
                              case rel => exact ⟨a + 1, false, by omega, rfl, by go_num, by rw [HNX.out]; unfold isAt; rw [← HDX.out, E1.out]; rfl, HBN.out⟩
                              case measure => simp [intOf]; omega
                        · obtain rfl : a = N := by omega
                          have hlz2 : ¬ ((a : Int) < (a : Int)) := by omega
                          obtain rfl : true = z := HFS.out.symm.trans HZ.out.symm
                          have HBF := Lib.hid (below_then HBQ.out (below_then HB7.out HBA.out HB7.out.size) HBQ.out.size)
                          go_wp2
                          go_roundw
                          case rel => exact ⟨q + 1, by omega, by rw [HN2.out]; first | rfl | (congr 1; push_cast; omega), by go_num, HBF.out⟩
                          case measure => simp [intOf]; omega
                    · obtain rfl : q = m := by omega
                      have hlz2 : ¬ ((q : Int) < (q : Int)) := by omega
                      have HBF := Lib.hid (below_then HBJ.out HBQ.out HBJ.out.size)
                      go_wp2
                      go_roundw
                      case rel => exact ⟨j + 1, by omega, by rw [HSO.out, Nat.add_assoc], by go_num, HBF.out⟩
                      case measure => simp [intOf]; omega
                · obtain rfl : j = n1 := by omega
                  have hlz2 : ¬ ((j : Int) < (j : Int)) := by omega
                  have HBF := Lib.hid (below_then HBC.out HBJ.out HBC.out.size)
                  have HTK : Hid (n0 + s0 = spotsTo L T (k + 1)) := Lib.hid (by rw [HSN.out, HS0.out, HN1.out, List.take_length])
                  go_wp2
                  go_roundw
                  case rel => exact ⟨k + 1, by omega, by rw [HTK.out], by go_num, HBF.out⟩
                  case measure => simp [intOf]; omega
          · obtain rfl : k = nT := by omega
            have hlz2 : ¬ ((k : Int) < (k : Int)) := by omega
            have hn0t : n0 = t0 := by rw [HN0.out, HNT.out, HLT.out]
            have e1 : ((n0 : Int) == (t0 : Int)) = true := by rw [hn0t]; simp
            have hcm := HK.out.many (HK.out.below HM4.out HBI.out) HW.out
            rw [← HN.out] at hcm
            have HCM := Lib.hid hcm
            have e2 : ((N : Int) == (N : Int)) = true := by simp
            have HBW := Lib.hid (below_then HB4.out HBI.out HB4.out.size)
            clear hn0t hcm
            go_wp2_with fail
            refine HCM.out.mono ?_
            rintro e w5 ⟨rfl, hb5⟩
            have HB5 := Lib.hid (below_then HBW.out hb5 HBW.out.size)
            clear hb5
            go_wp2
            go_ret
            exact ⟨rfl, HB5.out⟩
end Go.Proofs.Ytmnofmcfkchebaa
