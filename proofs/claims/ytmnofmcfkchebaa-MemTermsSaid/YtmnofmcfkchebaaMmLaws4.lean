/- MemTerms. -/
import Derived.Test.YtmnofmcfkchebaaMmLaw0
import Derived.Deep.RegionHeld3
import Derived.Deep.QuietTactic
import Derived.BigQuiet
import Derived.Deep.DeepCutAuto
namespace Go.Proofs.Ytmnofmcfkchebaa
open Go.RowKit Go.Maps Go.WideMaps
set_option linter.unusedSimpArgs false

set_option maxHeartbeats 16000000 in
set_option maxRecDepth 100000 in
theorem memTerms_any {M : World → (Nat → Prop) → Nat → List MDoc → Prop} (hK : MemOk M) (W : World) (A : Option Addr) (n c : Nat) (X : List MDoc) (hX : OnesSee W A n X) (t : Int) (ht : fits64 t) :
    Calls Try.prog 6 #[.slice A n c, .int .i64 t] W fun e w' => e = .returned (.bool true) ∧ Below W.heap.size W w' := by
  have hep := eqMemNil
  have HK := Lib.hid hK
  have HH := Lib.hid (mmHead_any hK W)
  have HX := Lib.hid hX
  have hn63 := hX.fit
  unfold maxLen at hn63
  clear hX hK
  go_enter Try.func6, Try.ntmps6
  go_wp2_with fail
  refine HH.out.mono ?_
  rintro e w1 ⟨rfl, hb1⟩
  have HB1 := Lib.hid hb1
  clear hb1 HH
  go_wp2_with fail
  refine (HK.out.new w1).mono ?_
  rintro e w2 ⟨b, F1, rfl, hb2, hm2, hf2⟩
  have HB2 := Lib.hid (below_then HB1.out hb2 HB1.out.size)
  have HM2 := Lib.hid hm2
  have HF2 : Hid (MNew W F1) := Lib.hid (fun i hi => by have h1 := hf2 i hi; have h2 := HB1.out.size; omega)
  have HG := Lib.hid (mmGreat_any w2 A n c X (HX.out.below HB2.out))
  clear hb2 hm2 hf2
  go_wp2_with fail
  refine HG.out.mono ?_
  rintro e w3 ⟨r, rfl, ⟨q3, hw3⟩, hr⟩
  have HB3 : Hid (Below W.heap.size W w3) := Lib.hid (by rw [hw3]; exact below_drewN HB2.out q3)
  have HM3 : Hid (M w3 F1 b []) := Lib.hid (HK.out.below HM2.out (by rw [hw3]; exact below_drewN (Below.refl _ w2) q3))
  clear hw3 HG
  cases r with
  | true =>
    clear hr
    go_wp2
    go_ret
    exact ⟨rfl, HB3.out⟩
  | false =>
    have HBIG := Lib.hid (hr rfl)
    have hn9 : n < 9000 := by have := HBIG.out; omega
    clear hr
    go_wp2
    go_loopw [7, 8] (fun v iv wr => ∃ (i : Nat) (F : Nat → Prop) (s : Bool), i ≤ n ∧ v = .bool s ∧ iv = .int .i64 i ∧ s = isUp X t i ∧ M wr F b (addUp X i) ∧ MNew W F ∧ Below W.heap.size W wr) (fun _ iv _ => n - (intOf iv).toNat)
    case atStart => exact ⟨0, F1, false, by omega, rfl, rfl, rfl, HM3.out, HF2.out, HB3.out⟩
    case round =>
      obtain ⟨i, F, s, hi, rfl, rfl, hs, hm, hf, hb⟩ := hrel
      have HS := Lib.hid hs
      have HM := Lib.hid hm
      have HF := Lib.hid hf
      have HB := Lib.hid hb
      clear hs hm hf hb
      rcases Nat.lt_or_ge i n with hlt | hge
      · have hlt' : (i : Int) < (n : Int) := by omega
        have p0 : (0 : Int) ≤ (i : Int) := by omega
        have hw1 : IntKind.i64.wrap ((i : Int) + 1) = (i : Int) + 1 := IntWalk.i64_in _ (by omega)
        obtain ⟨pa, x, B, cB, C, cC, rfl, hx, hxd, hfx, hcells, hadd⟩ := law_add HK.out HX.out HBIG.out HM.out HF.out HB.out hlt
        obtain ⟨D, hD⟩ : ∃ D, D = x.doc := ⟨_, rfl⟩
        obtain ⟨mT, hmT⟩ : ∃ mT, mT = x.T.length := ⟨_, rfl⟩
        obtain ⟨mS, hmS⟩ : ∃ mS, mS = x.S.length := ⟨_, rfl⟩
        obtain ⟨E, hE⟩ : ∃ E, E = mErr (addUp X i) x := ⟨_, rfl⟩
        rw [← hD] at hfx hcells hadd
        rw [← hmT] at hcells hadd
        rw [← hmS] at hcells hadd
        rw [← hE] at hadd
        have HSC : Hid (∀ u, Below W.heap.size W u → u.cell? (pa.add (i * 3)) = some (.int .i64 D) ∧ u.cell? ⟨(pa.add (i * 3)).block, (pa.add (i * 3)).off + 1, none⟩ = some (.slice B mT cB) ∧ u.cell? ⟨(pa.add (i * 3)).block, (pa.add (i * 3)).off + 2, none⟩ = some (.slice C mS cC)) := Lib.hid (fun u hu => ⟨(hcells u hu).1, (hcells u hu).2.1, (hcells u hu).2.2.1⟩)
        have HIT : Hid (∀ u, Below W.heap.size W u → IntsIn u B mT x.T) := Lib.hid (fun u hu => (hcells u hu).2.2.2.1)
        have HIS : Hid (∀ u, Below W.heap.size W u → IntsIn u C mS x.S) := Lib.hid (fun u hu => (hcells u hu).2.2.2.2)
        have HAD := Lib.hid hadd
        have HXD := Lib.hid hxd
        have HXX := Lib.hid hx
        have HDD := Lib.hid hD
        have HMT := Lib.hid hmT
        have HMS := Lib.hid hmS
        have HEE := Lib.hid hE
        have hm63 := (HIT.out W (Below.refl _ _)).1
        unfold maxLen at hm63
        clear hcells hadd hxd hx hD hmT hmS hE
        have HNX : Hid (isUp X t (i + 1) = addHas s (decide (E = 0)) x.T t mT) := Lib.hid (by rw [isUp, HXD.out, HEE.out, HMT.out, HS.out]; rfl)
        obtain ⟨dz, hdz⟩ : ∃ dz, dz = decide (E = 0) := ⟨_, rfl⟩
        rw [← hdz] at HNX
        have HDZ := Lib.hid hdz
        clear hdz
        go_upto_region 9 with fail
        refine wp_region_held_drew (S := fun w' => w'.cell? (pa.add (i * 3)) = some (.int .i64 D) ∧ w'.cell? ⟨(pa.add (i * 3)).block, (pa.add (i * 3)).off + 1, none⟩ = some (.slice B mT cB) ∧ w'.cell? ⟨(pa.add (i * 3)).block, (pa.add (i * 3)).off + 2, none⟩ = some (.slice C mS cC)) (by kernel_rfl) (HSC.out wr HB.out) (fun hHeld => ?_)
        obtain ⟨u0, hu0⟩ : ∃ zz, zz = wr.drew := ⟨_, rfl⟩
        rw [← hu0] at hHeld ⊢
        have HU0 : Hid (Below wr.heap.size wr u0) := Lib.hid (by rw [hu0]; exact (Below.refl _ wr).drew)
        clear hu0
        refine wpAnyH_take (i := 0) (oi := ?oia10) (v := ?va10) ?hia10 (by kernel_rfl) (by kernel_rfl) (by kernel_rfl) ?hQa10 (Or.inl ⟨?hwa10, ?hya10⟩) (by assumption) ?resta10
        case hia10 => (first | (simp only [List.getElem?_toArray, List.getElem?_cons_zero, List.getElem?_cons_succ]; rfl) | rfl)
        case hQa10 => exact fun _ _ _ h => h
        case hwa10 => rfl
        case hya10 => ((intro w hSw; go_simp); first | done | with_reducible rfl)
        try simp only [Act.put, List.setIfInBounds_toArray, List.set_cons_zero, List.set_cons_succ]
        refine wpAnyH_take (i := 1) (oi := ?oia21) (v := ?va21) ?hia21 (by kernel_rfl) (by kernel_rfl) (by kernel_rfl) ?hQa21 (Or.inl ⟨?hwa21, ?hya21⟩) (by assumption) ?resta21
        case hia21 => (first | (simp only [List.getElem?_toArray, List.getElem?_cons_zero, List.getElem?_cons_succ]; rfl) | rfl)
        case hQa21 => exact fun _ _ _ h => h
        case hwa21 => rfl
        case hya21 => ((intro w hSw; go_simp); first | done | with_reducible rfl)
        try simp only [Act.put, List.setIfInBounds_toArray, List.set_cons_zero, List.set_cons_succ]
        refine wpAnyH_take (i := 2) (oi := ?oia32) (v := ?va32) ?hia32 (by kernel_rfl) (by kernel_rfl) (by kernel_rfl) ?hQa32 (Or.inl ⟨?hwa32, ?hya32⟩) (by assumption) ?resta32
        case hia32 => (first | (simp only [List.getElem?_toArray, List.getElem?_cons_zero, List.getElem?_cons_succ]; rfl) | rfl)
        case hQa32 => exact fun _ _ _ h => h
        case hwa32 => rfl
        case hya32 => ((intro w hSw; go_simp); first | done | with_reducible rfl)
        try simp only [Act.put, List.setIfInBounds_toArray, List.set_cons_zero, List.set_cons_succ]
        refine wpAnyH_take (i := 6) (oi := ?oia46) (v := ?va46) ?hia46 (by kernel_rfl) (by kernel_rfl) (by kernel_rfl) ?hQa46 (Or.inl ⟨?hwa46, ?hya46⟩) (by assumption) ?resta46
        case hia46 => (first | (simp only [List.getElem?_toArray, List.getElem?_cons_zero, List.getElem?_cons_succ]; rfl) | rfl)
        case hQa46 => exact fun _ _ _ h => h
        case hwa46 => rfl
        case hya46 => ((intro w hSw; go_simp); first | done | with_reducible rfl)
        try simp only [Act.put, List.setIfInBounds_toArray, List.set_cons_zero, List.set_cons_succ]
        refine wpAnyH_take (i := 7) (oi := ?oia57) (v := ?va57) ?hia57 (by kernel_rfl) (by kernel_rfl) (by kernel_rfl) ?hQa57 (Or.inl ⟨?hwa57, ?hya57⟩) (by assumption) ?resta57
        case hia57 => (first | (simp only [List.getElem?_toArray, List.getElem?_cons_zero, List.getElem?_cons_succ]; rfl) | rfl)
        case hQa57 => exact fun _ _ _ h => h
        case hwa57 => rfl
        case hya57 => ((intro w hSw; go_simp); first | done | with_reducible rfl)
        try simp only [Act.put, List.setIfInBounds_toArray, List.set_cons_zero, List.set_cons_succ]
        refine wpAnyH_take (i := 11) (oi := ?oia611) (v := ?va611) ?hia611 (by kernel_rfl) (by kernel_rfl) (by kernel_rfl) ?hQa611 (Or.inl ⟨?hwa611, ?hya611⟩) (by assumption) ?resta611
        case hia611 => (first | (simp only [List.getElem?_toArray, List.getElem?_cons_zero, List.getElem?_cons_succ]; rfl) | rfl)
        case hQa611 => exact fun _ _ _ h => h
        case hwa611 => rfl
        case hya611 => ((intro w hSw; go_simp); first | done | with_reducible rfl)
        try simp only [Act.put, List.setIfInBounds_toArray, List.set_cons_zero, List.set_cons_succ]
        refine wpAnyH_take (i := 12) (oi := ?oia712) (v := ?va712) ?hia712 (by kernel_rfl) (by kernel_rfl) (by kernel_rfl) ?hQa712 (Or.inl ⟨?hwa712, ?hya712⟩) (by assumption) ?resta712
        case hia712 => (first | (simp only [List.getElem?_toArray, List.getElem?_cons_zero, List.getElem?_cons_succ]; rfl) | rfl)
        case hQa712 => exact fun _ _ _ h => h
        case hwa712 => rfl
        case hya712 => ((intro w hSw; go_simp); first | done | with_reducible rfl)
        try simp only [Act.put, List.setIfInBounds_toArray, List.set_cons_zero, List.set_cons_succ]
        refine wpAnyH_take (i := 3) (oi := ?oia83) (v := ?va83) ?hia83 (by kernel_rfl) (by kernel_rfl) (by kernel_rfl) ?hQa83 (Or.inl ⟨?hwa83, ?hya83⟩) (by assumption) ?resta83
        case hia83 => (first | (simp only [List.getElem?_toArray, List.getElem?_cons_zero, List.getElem?_cons_succ]; rfl) | rfl)
        case hQa83 => exact fun _ _ _ h => h
        case hwa83 => rfl
        case hya83 => ((intro w hSw; go_simp); first | done | with_reducible rfl)
        try simp only [Act.put, List.setIfInBounds_toArray, List.set_cons_zero, List.set_cons_succ]
        refine wpAnyH_take (i := 8) (oi := ?oia98) (v := ?va98) ?hia98 (by kernel_rfl) (by kernel_rfl) (by kernel_rfl) ?hQa98 (Or.inl ⟨?hwa98, ?hya98⟩) (by assumption) ?resta98
        case hia98 => (first | (simp only [List.getElem?_toArray, List.getElem?_cons_zero, List.getElem?_cons_succ]; rfl) | rfl)
        case hQa98 => exact fun _ _ _ h => h
        case hwa98 => rfl
        case hya98 => ((intro w hSw; go_simp); first | done | with_reducible rfl)
        try simp only [Act.put, List.setIfInBounds_toArray, List.set_cons_zero, List.set_cons_succ]
        refine wpAnyH_take (i := 13) (oi := ?oia1013) (v := ?va1013) ?hia1013 (by kernel_rfl) (by kernel_rfl) (by kernel_rfl) ?hQa1013 (Or.inl ⟨?hwa1013, ?hya1013⟩) (by assumption) ?resta1013
        case hia1013 => (first | (simp only [List.getElem?_toArray, List.getElem?_cons_zero, List.getElem?_cons_succ]; rfl) | rfl)
        case hQa1013 => exact fun _ _ _ h => h
        case hwa1013 => rfl
        case hya1013 => ((intro w hSw; go_simp); first | done | with_reducible rfl)
        try simp only [Act.put, List.setIfInBounds_toArray, List.set_cons_zero, List.set_cons_succ]
        refine wpAnyH_take (i := 4) (oi := ?oia114) (v := ?va114) ?hia114 (by kernel_rfl) (by kernel_rfl) (by kernel_rfl) ?hQa114 (Or.inl ⟨?hwa114, ?hya114⟩) (by assumption) ?resta114
        case hia114 => (first | (simp only [List.getElem?_toArray, List.getElem?_cons_zero, List.getElem?_cons_succ]; rfl) | rfl)
        case hQa114 => exact fun _ _ _ h => h
        case hwa114 => rfl
        case hya114 => ((intro w hSw; go_simp); first | done | with_reducible rfl)
        try simp only [Act.put, List.setIfInBounds_toArray, List.set_cons_zero, List.set_cons_succ]
        refine wpAnyH_take (i := 9) (oi := ?oia129) (v := ?va129) ?hia129 (by kernel_rfl) (by kernel_rfl) (by kernel_rfl) ?hQa129 (Or.inl ⟨?hwa129, ?hya129⟩) (by assumption) ?resta129
        case hia129 => (first | (simp only [List.getElem?_toArray, List.getElem?_cons_zero, List.getElem?_cons_succ]; rfl) | rfl)
        case hQa129 => exact fun _ _ _ h => h
        case hwa129 => rfl
        case hya129 => ((intro w hSw; go_simp); first | done | with_reducible rfl)
        try simp only [Act.put, List.setIfInBounds_toArray, List.set_cons_zero, List.set_cons_succ]
        refine wpAnyH_take (i := 14) (oi := ?oia1314) (v := ?va1314) ?hia1314 (by kernel_rfl) (by kernel_rfl) (by kernel_rfl) ?hQa1314 (Or.inl ⟨?hwa1314, ?hya1314⟩) (by assumption) ?resta1314
        case hia1314 => (first | (simp only [List.getElem?_toArray, List.getElem?_cons_zero, List.getElem?_cons_succ]; rfl) | rfl)
        case hQa1314 => exact fun _ _ _ h => h
        case hwa1314 => rfl
        case hya1314 => ((intro w hSw; go_simp); first | done | with_reducible rfl)
        try simp only [Act.put, List.setIfInBounds_toArray, List.set_cons_zero, List.set_cons_succ]
        refine wpAnyH_take (i := 5) (oi := ?oia145) (v := ?va145) ?hia145 (by kernel_rfl) (by kernel_rfl) (by kernel_rfl) ?hQa145 (Or.inl ⟨?hwa145, ?hya145⟩) (by assumption) ?resta145
        case hia145 => (first | (simp only [List.getElem?_toArray, List.getElem?_cons_zero, List.getElem?_cons_succ]; rfl) | rfl)
        case hQa145 => exact fun _ _ _ h => h
        case hwa145 => rfl
        case hya145 => ((intro w hSw; go_simp); first | done | with_reducible rfl)
        try simp only [Act.put, List.setIfInBounds_toArray, List.set_cons_zero, List.set_cons_succ]
        refine wpAnyH_take (i := 10) (oi := ?oia1510) (v := ?va1510) ?hia1510 (by kernel_rfl) (by kernel_rfl) (by kernel_rfl) ?hQa1510 (Or.inl ⟨?hwa1510, ?hya1510⟩) (by assumption) ?resta1510
        case hia1510 => (first | (simp only [List.getElem?_toArray, List.getElem?_cons_zero, List.getElem?_cons_succ]; rfl) | rfl)
        case hQa1510 => exact fun _ _ _ h => h
        case hwa1510 => rfl
        case hya1510 => ((intro w hSw; go_simp); first | done | with_reducible rfl)
        try simp only [Act.put, List.setIfInBounds_toArray, List.set_cons_zero, List.set_cons_succ]
        refine wpAnyH_take (i := 15) (oi := ?oia1615) (v := ?va1615) ?hia1615 (by kernel_rfl) (by kernel_rfl) (by kernel_rfl) ?hQa1615 (Or.inl ⟨?hwa1615, ?hya1615⟩) (by assumption) ?resta1615
        case hia1615 => (first | (simp only [List.getElem?_toArray, List.getElem?_cons_zero, List.getElem?_cons_succ]; rfl) | rfl)
        case hQa1615 => exact fun _ _ _ h => h
        case hwa1615 => rfl
        case hya1615 => ((intro w hSw; go_simp); first | done | with_reducible rfl)
        try simp only [Act.put, List.setIfInBounds_toArray, List.set_cons_zero, List.set_cons_succ]
        refine wpAnyH_ready (rs := [16]) (by kernel_rfl) (by simp) ?_
        refine AllReadyH.cons (o := ?oa17) ?ha17 ?sa17 AllReadyH.nil
        case ha17 => (simp only [List.getElem?_toArray, List.getElem?_cons_zero, List.getElem?_cons_succ]; rfl)
        case sa17 =>
          intro K hK
          go_simp
          refine (HAD.out u0 HU0.out).mono ?_
          rintro e u1 ⟨rfl, F2, hm2, hf2, hb2, hk2⟩
          have HM2 := Lib.hid hm2
          have HF2 := Lib.hid hf2
          have HB2 := Lib.hid hb2
          have hS1 := (HSC.out u1 HB2.out)
          clear hm2 hf2 hb2 hk2
          go_wp2_with fail
          refine hK.out _ _ (HSC.out _ HB2.out) (fun ha18 => ?_)
          clear hK K
          try simp only [Act.put, List.setIfInBounds_toArray, List.set_cons_zero, List.set_cons_succ]
          refine wpAnyH_take (i := 17) (oi := ?oia1917) (v := ?va1917) ?hia1917 (by kernel_rfl) (by kernel_rfl) (by kernel_rfl) ?hQa1917 (Or.inl ⟨?hwa1917, ?hya1917⟩) (by assumption) ?resta1917
          case hia1917 => (first | (simp only [List.getElem?_toArray, List.getElem?_cons_zero, List.getElem?_cons_succ]; rfl) | rfl)
          case hQa1917 => exact fun _ _ _ h => h
          case hwa1917 => rfl
          case hya1917 => ((intro w hSw; go_simp); first | done | with_reducible rfl)
          try simp only [Act.put, List.setIfInBounds_toArray, List.set_cons_zero, List.set_cons_succ]
          refine wpAnyH_done (by kernel_rfl) ?_ _
          obtain ⟨wo, hwo⟩ : ∃ zz, zz = wr := ⟨_, rfl⟩
          subst hwo
          go_wp2
          go_loopw [7, 10] (fun v kv wi => ∃ (k : Nat) (z : Bool), k ≤ mT ∧ v = .bool z ∧ kv = .int .i64 k ∧ z = addHas s dz x.T t k ∧ wi = u1) (fun _ kv _ => mT - (intOf kv).toNat)
          case atStart => exact ⟨0, s, by omega, rfl, rfl, addHas_zero _ _ _ _, rfl⟩
          case round =>
            obtain ⟨k, z, hk, rfl, rfl, hz, rfl⟩ := hrel
            have HZ := Lib.hid hz
            have HUP := Lib.hid (addHas_step HZ.out)
            obtain ⟨c0, c1, c2⟩ := HSC.out _ HB2.out
            clear hz
            rcases Decidable.em (E = 0) with rfl | hE0
            · have HD1 : Hid (dz = true) := Lib.hid (by rw [HDZ.out]; rfl)
              rcases Nat.lt_or_ge k mT with hkl | hkg
              · have hkl' : (k : Int) < (mT : Int) := by omega
                have q0 : (0 : Int) ≤ (k : Int) := by omega
                have hw2 : IntKind.i64.wrap ((k : Int) + 1) = (k : Int) + 1 := IntWalk.i64_in _ (by omega)
                obtain ⟨pt, y, rfl, hy, y0, -, -⟩ := (HIT.out _ HB2.out).at k hkl
                have HY := Lib.hid (show x.T.getD k 0 = y from by rw [List.getD_eq_getElem?_getD, hy]; rfl)
                clear hy
                cases z with
                | true =>
                  go_wp2
                  go_roundw
                  case rel => exact ⟨k + 1, true, by omega, rfl, by go_num, by rw [← HUP.out]; rfl, trivial⟩
                  case measure => simp [intOf]; omega
                | false =>
                  obtain ⟨yt, hyt⟩ : ∃ yt, yt = (y == t) := ⟨_, rfl⟩
                  have HYT := Lib.hid hyt
                  have e1 := hyt.symm
                  clear hyt
                  go_wp2
                  go_roundw
                  case rel => exact ⟨k + 1, yt, by omega, rfl, by go_num, by rw [← HUP.out, HY.out, e1, HD1.out]; rfl, trivial⟩
                  case measure => simp [intOf]; omega
              · obtain rfl : k = mT := by omega
                have hlz : ¬ ((k : Int) < (k : Int)) := by omega
                have HFN : Hid (z = isUp X t (i + 1)) := Lib.hid (HZ.out.trans HNX.out.symm)
                go_wp2
                go_roundw
                case rel => exact ⟨i + 1, F2, z, by omega, rfl, by go_num, HFN.out, HM2.out, HF2.out, HB2.out⟩
                case measure => simp [intOf]; omega
            · have dE : (E == 0) = false := by simpa using hE0
              have HFN : Hid (z = isUp X t (i + 1)) := Lib.hid (by rw [HZ.out, HNX.out]; rw [addHas_not (by rw [HDZ.out, decide_eq_false hE0]), addHas_not (by rw [HDZ.out, decide_eq_false hE0])])
              clear hE0
              rcases Nat.lt_or_ge k mT with hkl | hkg
              · have hkl' : (k : Int) < (mT : Int) := by omega
                go_wp2
                go_roundw
                case rel => exact ⟨i + 1, F2, z, by omega, rfl, by go_num, HFN.out, HM2.out, HF2.out, HB2.out⟩
                case measure => simp [intOf]; omega
              · obtain rfl : k = mT := by omega
                have hlz : ¬ ((k : Int) < (k : Int)) := by omega
                go_wp2
                go_roundw
                case rel => exact ⟨i + 1, F2, z, by omega, rfl, by go_num, HFN.out, HM2.out, HF2.out, HB2.out⟩
                case measure => simp [intOf]; omega
      · obtain rfl : i = n := by omega
        have hlz : ¬ ((i : Int) < (i : Int)) := by omega
        obtain ⟨hw, hto⟩ := adds_ok HX.out HBIG.out i (Nat.le_refl _)
        have HW := Lib.hid hw
        have HTO := Lib.hid hto
        have hct := HK.out.terms HM.out hw hto
        have HPP := Lib.hid (posts_pos (addUp X i) t)
        have HSI := Lib.hid (HS.out.trans (isUp_is X t i))
        obtain ⟨T, hT⟩ : ∃ T, T = mTerms (addUp X i) := ⟨_, rfl⟩
        rw [← hT] at hct HPP HSI
        have HCT := Lib.hid hct
        clear hw hto hct hT
        go_wp2_with fail
        refine HCT.out.mono ?_
        rintro e w4 ⟨A4, c4, rfl, hi4, -, hb4⟩
        obtain ⟨nT, hnT⟩ : ∃ nT, nT = T.length := ⟨_, rfl⟩
        rw [← hnT] at hi4
        rw [← hnT]
        have HI4 := Lib.hid hi4
        have hn4 := hi4.1
        unfold maxLen at hn4
        have HB4 := Lib.hid (below_then HB.out hb4 HB.out.size)
        have HM4 := Lib.hid (HK.out.below HM.out hb4)
        have HNT := Lib.hid hnT
        clear hi4 hb4 hnT HCT
        obtain ⟨wo, hwo⟩ : ∃ zz, zz = wr := ⟨_, rfl⟩
        subst hwo
        go_wp2
        go_loopw [12, 13] (fun v kv wi => ∃ (k : Nat) (z : Bool), k ≤ nT ∧ v = .bool z ∧ kv = .int .i64 k ∧ z = hasUp T t k ∧ wi = w4) (fun _ kv _ => nT - (intOf kv).toNat)
        case atStart => exact ⟨0, false, by omega, rfl, rfl, rfl, rfl⟩
        case round =>
          obtain ⟨k, z, hk, rfl, rfl, hz, rfl⟩ := hrel
          have HZ := Lib.hid hz
          have HUP : Hid ((z || (T.getD k 0 == t)) = hasUp T t (k + 1)) := Lib.hid (by rw [hasUp, HZ.out])
          clear hz
          rcases Nat.lt_or_ge k nT with hkl | hkg
          · have hkl' : (k : Int) < (nT : Int) := by omega
            have q0 : (0 : Int) ≤ (k : Int) := by omega
            have hw2 : IntKind.i64.wrap ((k : Int) + 1) = (k : Int) + 1 := IntWalk.i64_in _ (by omega)
            obtain ⟨pt, y, rfl, hy, y0, -, -⟩ := HI4.out.at k hkl
            have HY := Lib.hid (show T.getD k 0 = y from by rw [List.getD_eq_getElem?_getD, hy]; rfl)
            clear hy
            cases z with
            | true =>
              go_wp2
              go_roundw
              case rel => exact ⟨k + 1, true, by omega, rfl, by go_num, by rw [← HUP.out]; rfl, trivial⟩
              case measure => simp [intOf]; omega
            | false =>
              obtain ⟨yt, hyt⟩ : ∃ yt, yt = (y == t) := ⟨_, rfl⟩
              have HYT := Lib.hid hyt
              have e1 := hyt.symm
              clear hyt
              go_wp2
              go_roundw
              case rel => exact ⟨k + 1, yt, by omega, rfl, by go_num, by rw [← HUP.out, HY.out, e1]; rfl, trivial⟩
              case measure => simp [intOf]; omega
          · obtain rfl : k = nT := by omega
            have hlz2 : ¬ ((k : Int) < (k : Int)) := by omega
            obtain rfl : z = s := by rw [HZ.out, HNT.out, hasUp_all, HSI.out]
            obtain ⟨P, hP⟩ : ∃ P, P = (mPosts (addUp X i) t).length := ⟨_, rfl⟩
            have hcp := HK.out.posts HM4.out HW.out HTO.out t ht
            have HPZ : Hid (decide (0 < P) = z) := Lib.hid (by rw [hP, HPP.out, HSI.out])
            have HPE := Lib.hid hP
            have HCP := Lib.hid hcp
            clear hcp hP
            cases z with
            | true =>
              have hp0 : 0 < P := of_decide_eq_true HPZ.out
              go_wp2_with fail
              refine HCP.out.mono ?_
              rintro e w5 ⟨A5, c5, rfl, -, -, hb5⟩
              rw [← HPE.out]
              have hp1 : decide ((0 : Int) < (P : Int)) = true := decide_eq_true (by omega)
              have HB5 := Lib.hid (below_then HB4.out hb5 HB4.out.size)
              clear hb5
              go_wp2
              go_ret
              exact ⟨rfl, HB5.out⟩
            | false =>
              have hp0 : ¬ 0 < P := of_decide_eq_false HPZ.out
              go_wp2_with fail
              refine HCP.out.mono ?_
              rintro e w5 ⟨A5, c5, rfl, -, -, hb5⟩
              rw [← HPE.out]
              have hp1 : decide ((0 : Int) < (P : Int)) = false := decide_eq_false (by omega)
              have HB5 := Lib.hid (below_then HB4.out hb5 HB4.out.size)
              clear hb5
              go_wp2
              go_ret
              exact ⟨rfl, HB5.out⟩
end Go.Proofs.Ytmnofmcfkchebaa
