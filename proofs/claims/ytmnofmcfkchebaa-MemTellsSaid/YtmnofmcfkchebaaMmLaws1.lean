/- MemTells. -/
import Derived.Test.YtmnofmcfkchebaaMmLaw0
import Derived.Test.YtmnofmcfkchebaaMmTwin
import Derived.Test.YtmnofmcfkchebaaPRef3
import Derived.Test.YtmnofmcfkchebaaERef1
import Derived.Deep.RegionHeld3
import Derived.Deep.QuietTactic
import Derived.BigQuiet
import Derived.Deep.DeepCutAuto
namespace Go.Proofs.Ytmnofmcfkchebaa
open Go.RowKit Go.Maps Go.WideMaps
set_option linter.unusedSimpArgs false

set_option maxHeartbeats 16000000 in
set_option maxRecDepth 100000 in
theorem memTells_any {M : World → (Nat → Prop) → Nat → List MDoc → Prop} (hK : MemOk M) (W : World) (A : Option Addr) (n c : Nat) (X : List MDoc) (hX : OnesSee W A n X) (t : Int) (ht : fits64 t) :
    Calls Try.prog 3 #[.slice A n c, .int .i64 t] W fun e w' => e = .returned (.bool true) ∧ Below W.heap.size W w' := by
  have hep := eqMemNil
  have HK := Lib.hid hK
  have HH := Lib.hid (mmHead_any hK W)
  have HX := Lib.hid hX
  have hn63 := hX.fit
  unfold maxLen at hn63
  clear hX hK
  go_enter Try.func3, Try.ntmps3
  go_wp2_with fail
  refine HH.out.mono ?_
  rintro e w1 ⟨rfl, hb1⟩
  have HB1 := Lib.hid hb1
  clear hb1 HH
  go_wp2_with fail
  refine (HK.out.new w1).mono ?_
  rintro e w2 ⟨b, F1, rfl, hb2, hm2, hf2⟩
  have HB2 := Lib.hid (below_then HB1.out hb2 HB1.out.size)
  have HM2 := Lib.hid hm2
  have HF2 : Hid (MNew W F1) := Lib.hid (fun i hi => by have h1 := hf2 i hi; have h2 := HB1.out.size; omega)
  obtain ⟨V2, hV2⟩ : ∃ V, V = w2.alloc (.cells #[.slice none 0 0] 29) := ⟨_, rfl⟩
  have hT2 := Twin.start HK.out HM2.out HF2.out HB2.out
  rw [← hV2] at hT2
  have HV2 := Lib.hid hV2
  have HT2 := Lib.hid hT2
  have HG := Lib.hid (mmGreat_any V2 A n c X (HX.out.below hT2.hb))
  clear hb2 hm2 hf2 hV2 hT2
  go_wp2_with fail
  rw [← HV2.out]
  refine HG.out.mono ?_
  rintro e w3 ⟨r, rfl, ⟨q3, hw3⟩, hr⟩
  have HT3 := Lib.hid (HT2.out.below HK.out (w' := w3) (by rw [hw3]; exact below_drewN (Below.refl _ V2) q3))
  obtain ⟨d, hd⟩ : ∃ d, d = w2.heap.size := ⟨_, rfl⟩
  rw [← hd] at HT3 ⊢
  obtain ⟨G1, hG1⟩ : ∃ G1 : Nat → Prop, G1 = fun i => i = d := ⟨_, rfl⟩
  rw [← hG1] at HT3
  clear hw3 HG HT2 HV2 hd hG1
  cases r with
  | true =>
    clear hr
    go_wp2
    go_ret
    exact ⟨rfl, HT3.out.hb⟩
  | false =>
    have HBIG := Lib.hid (hr rfl)
    have hn9 : n < 9000 := by have := HBIG.out; omega
    clear hr
    go_wp2
    go_loopw [8] (fun iv wr => ∃ (i : Nat) (F G : Nat → Prop), i ≤ n ∧ iv = .int .i64 i ∧ Twin M W wr F b G d (addUp X i) (addUp X i)) (fun iv _ => n - (intOf iv).toNat)
    case atStart => exact ⟨0, F1, G1, by omega, rfl, HT3.out⟩
    case round =>
      obtain ⟨i, F, G, hi, rfl, htw⟩ := hrel
      have HT := Lib.hid htw
      clear htw
      rcases Nat.lt_or_ge i n with hlt | hge
      · have hlt' : (i : Int) < (n : Int) := by omega
        have p0 : (0 : Int) ≤ (i : Int) := by omega
        have hw1 : IntKind.i64.wrap ((i : Int) + 1) = (i : Int) + 1 := IntWalk.i64_in _ (by omega)
        obtain ⟨pa, x, B, cB, C, cC, rfl, hx, hxd, hfx, hcB, hcC, hcells⟩ := law_doc HX.out hlt
        obtain ⟨hw, hto⟩ := adds_ok HX.out HBIG.out i (by omega)
        have HUP : Hid (addUp X (i + 1) = mAdd (addUp X i) x) := Lib.hid (by rw [addUp, hxd])
        obtain ⟨L, hL⟩ : ∃ L, L = addUp X i := ⟨_, rfl⟩
        rw [← hL] at HT HUP hw hto
        obtain ⟨D, hD⟩ : ∃ D, D = x.doc := ⟨_, rfl⟩
        obtain ⟨mT, hmT⟩ : ∃ mT, mT = x.T.length := ⟨_, rfl⟩
        obtain ⟨mS, hmS⟩ : ∃ mS, mS = x.S.length := ⟨_, rfl⟩
        obtain ⟨E, hE⟩ : ∃ E, E = mErr L x := ⟨_, rfl⟩
        have had1 : ∀ u, Below wr.heap.size wr u → Calls Try.prog 10 #[.pointer (some ⟨b, 0, none⟩), .int .i64 D, .slice B mT cB, .slice C mS cC] u fun e w' => e = .returned (.int .i64 E) ∧ ∃ F', Twin M W w' F' b G d (mAdd L x) L := fun u hu => by
          obtain ⟨-, -, -, j1, j2, k1, k2⟩ := hcells u (below_then HT.out.hb hu HT.out.hb.size)
          rw [hD, hmT, hmS, hE]
          exact twin_add1 HK.out HT.out hu hw hto j1 j2 hcB hcC k1 k2 hfx
        have had2 : ∀ (w' u : World) (F' : Nat → Prop), Twin M W w' F' b G d (mAdd L x) L → Below w'.heap.size w' u → Calls Try.prog 11 #[.pointer (some ⟨d, 0, none⟩), .int .i64 D, .slice B mT cB, .slice C mS cC] u fun e w'' => e = .returned (.int .i64 E) ∧ ∃ G', Twin M W w'' F' b G' d (mAdd L x) (mAdd L x) := fun w' u F' t hu => by
          obtain ⟨-, -, -, j1, j2, k1, k2⟩ := hcells u (below_then t.hb hu t.hb.size)
          rw [hD, hmT, hmS, hE]
          exact twin_add2 HK.out t hu hw j1 j2 hfx
        have HAD1 := Lib.hid had1
        have HAX := Lib.hid had2
        have hwn : MWF (mAdd L x) := hw.add ⟨fun y hy => ((ones_fit HX.out x (List.mem_of_getElem? hx)).2.1 y hy).2, fun y hy => ((ones_fit HX.out x (List.mem_of_getElem? hx)).2.2 y hy).2⟩
        have HWN := Lib.hid hwn
        have HSC : Hid (∀ u, Below W.heap.size W u → u.cell? (pa.add (i * 3)) = some (.int .i64 D) ∧ u.cell? ⟨(pa.add (i * 3)).block, (pa.add (i * 3)).off + 1, none⟩ = some (.slice B mT cB) ∧ u.cell? ⟨(pa.add (i * 3)).block, (pa.add (i * 3)).off + 2, none⟩ = some (.slice C mS cC)) := Lib.hid (fun u hu => by
          obtain ⟨a0, a1, a2, -, -, -, -⟩ := hcells u hu
          rw [hD, hmT, hmS]
          exact ⟨a0, a1, a2⟩)
        have HBW := Lib.hid HT.out.hb
        clear had1 had2 hwn hx hxd hfx hcB hcC hcells hw hto hL hD hmT hmS hE
        obtain ⟨wo, hwo⟩ : ∃ zz, zz = wr := ⟨_, rfl⟩
        subst hwo
        go_upto_region 9 with fail
        refine wp_region_held_drew (S := fun w' => w'.cell? (pa.add (i * 3)) = some (.int .i64 D) ∧ w'.cell? ⟨(pa.add (i * 3)).block, (pa.add (i * 3)).off + 1, none⟩ = some (.slice B mT cB) ∧ w'.cell? ⟨(pa.add (i * 3)).block, (pa.add (i * 3)).off + 2, none⟩ = some (.slice C mS cC)) (by kernel_rfl) (HSC.out wo HBW.out) (fun hHeld => ?_)
        obtain ⟨u0, hu0⟩ : ∃ zz, zz = wo.drew := ⟨_, rfl⟩
        rw [← hu0] at hHeld ⊢
        have Hu0 : Hid (Below wo.heap.size wo u0) := Lib.hid (by rw [hu0]; exact (Below.refl _ wo).drew)
        clear hu0
        refine wpAnyH_take (i := 0) (oi := ?oia10) (v := ?va10) ?hia10 (by kernel_rfl) (by kernel_rfl) (by kernel_rfl) ?hQa10 (Or.inl ⟨?hwa10, ?hya10⟩) (by assumption) ?resta10
        case hia10 => (first | (simp only [List.getElem?_toArray, List.getElem?_cons_zero, List.getElem?_cons_succ]; rfl) | rfl)
        case hQa10 => exact fun _ _ _ h => h
        case hwa10 => rfl
        case hya10 => ((intro w hSw; go_simp); first | done | with_reducible rfl)
        try simp only [Act.put, List.setIfInBounds_toArray, List.set_cons_zero, List.set_cons_succ]
        refine wpAnyH_take (i := 1) (oi := ?oia21) (v := ?va21) ?hia21 (by kernel_rfl) (by kernel_rfl) (by kernel_rfl) ?hQa21 (Or.inl ⟨?hwa21, ?hya21⟩) (by assumption) ?resta21
        case hia21 => (first | (simp only [List.getElem?_toArray, List.getElem?_cons_zero, List.getElem?_cons_succ]; rfl) | rfl)
        case hQa21 => exact fun _ _ _ h => h
        case hwa21 => rfl
        case hya21 => ((intro w hSw; go_simp); first | done | with_reducible rfl)
        try simp only [Act.put, List.setIfInBounds_toArray, List.set_cons_zero, List.set_cons_succ]
        refine wpAnyH_take (i := 2) (oi := ?oia32) (v := ?va32) ?hia32 (by kernel_rfl) (by kernel_rfl) (by kernel_rfl) ?hQa32 (Or.inl ⟨?hwa32, ?hya32⟩) (by assumption) ?resta32
        case hia32 => (first | (simp only [List.getElem?_toArray, List.getElem?_cons_zero, List.getElem?_cons_succ]; rfl) | rfl)
        case hQa32 => exact fun _ _ _ h => h
        case hwa32 => rfl
        case hya32 => ((intro w hSw; go_simp); first | done | with_reducible rfl)
        try simp only [Act.put, List.setIfInBounds_toArray, List.set_cons_zero, List.set_cons_succ]
        refine wpAnyH_take (i := 6) (oi := ?oia46) (v := ?va46) ?hia46 (by kernel_rfl) (by kernel_rfl) (by kernel_rfl) ?hQa46 (Or.inl ⟨?hwa46, ?hya46⟩) (by assumption) ?resta46
        case hia46 => (first | (simp only [List.getElem?_toArray, List.getElem?_cons_zero, List.getElem?_cons_succ]; rfl) | rfl)
        case hQa46 => exact fun _ _ _ h => h
        case hwa46 => rfl
        case hya46 => ((intro w hSw; go_simp); first | done | with_reducible rfl)
        try simp only [Act.put, List.setIfInBounds_toArray, List.set_cons_zero, List.set_cons_succ]
        refine wpAnyH_take (i := 7) (oi := ?oia57) (v := ?va57) ?hia57 (by kernel_rfl) (by kernel_rfl) (by kernel_rfl) ?hQa57 (Or.inl ⟨?hwa57, ?hya57⟩) (by assumption) ?resta57
        case hia57 => (first | (simp only [List.getElem?_toArray, List.getElem?_cons_zero, List.getElem?_cons_succ]; rfl) | rfl)
        case hQa57 => exact fun _ _ _ h => h
        case hwa57 => rfl
        case hya57 => ((intro w hSw; go_simp); first | done | with_reducible rfl)
        try simp only [Act.put, List.setIfInBounds_toArray, List.set_cons_zero, List.set_cons_succ]
        refine wpAnyH_take (i := 11) (oi := ?oia611) (v := ?va611) ?hia611 (by kernel_rfl) (by kernel_rfl) (by kernel_rfl) ?hQa611 (Or.inl ⟨?hwa611, ?hya611⟩) (by assumption) ?resta611
        case hia611 => (first | (simp only [List.getElem?_toArray, List.getElem?_cons_zero, List.getElem?_cons_succ]; rfl) | rfl)
        case hQa611 => exact fun _ _ _ h => h
        case hwa611 => rfl
        case hya611 => ((intro w hSw; go_simp); first | done | with_reducible rfl)
        try simp only [Act.put, List.setIfInBounds_toArray, List.set_cons_zero, List.set_cons_succ]
        refine wpAnyH_take (i := 12) (oi := ?oia712) (v := ?va712) ?hia712 (by kernel_rfl) (by kernel_rfl) (by kernel_rfl) ?hQa712 (Or.inl ⟨?hwa712, ?hya712⟩) (by assumption) ?resta712
        case hia712 => (first | (simp only [List.getElem?_toArray, List.getElem?_cons_zero, List.getElem?_cons_succ]; rfl) | rfl)
        case hQa712 => exact fun _ _ _ h => h
        case hwa712 => rfl
        case hya712 => ((intro w hSw; go_simp); first | done | with_reducible rfl)
        try simp only [Act.put, List.setIfInBounds_toArray, List.set_cons_zero, List.set_cons_succ]
        refine wpAnyH_take (i := 3) (oi := ?oia83) (v := ?va83) ?hia83 (by kernel_rfl) (by kernel_rfl) (by kernel_rfl) ?hQa83 (Or.inl ⟨?hwa83, ?hya83⟩) (by assumption) ?resta83
        case hia83 => (first | (simp only [List.getElem?_toArray, List.getElem?_cons_zero, List.getElem?_cons_succ]; rfl) | rfl)
        case hQa83 => exact fun _ _ _ h => h
        case hwa83 => rfl
        case hya83 => ((intro w hSw; go_simp); first | done | with_reducible rfl)
        try simp only [Act.put, List.setIfInBounds_toArray, List.set_cons_zero, List.set_cons_succ]
        refine wpAnyH_take (i := 8) (oi := ?oia98) (v := ?va98) ?hia98 (by kernel_rfl) (by kernel_rfl) (by kernel_rfl) ?hQa98 (Or.inl ⟨?hwa98, ?hya98⟩) (by assumption) ?resta98
        case hia98 => (first | (simp only [List.getElem?_toArray, List.getElem?_cons_zero, List.getElem?_cons_succ]; rfl) | rfl)
        case hQa98 => exact fun _ _ _ h => h
        case hwa98 => rfl
        case hya98 => ((intro w hSw; go_simp); first | done | with_reducible rfl)
        try simp only [Act.put, List.setIfInBounds_toArray, List.set_cons_zero, List.set_cons_succ]
        refine wpAnyH_take (i := 13) (oi := ?oia1013) (v := ?va1013) ?hia1013 (by kernel_rfl) (by kernel_rfl) (by kernel_rfl) ?hQa1013 (Or.inl ⟨?hwa1013, ?hya1013⟩) (by assumption) ?resta1013
        case hia1013 => (first | (simp only [List.getElem?_toArray, List.getElem?_cons_zero, List.getElem?_cons_succ]; rfl) | rfl)
        case hQa1013 => exact fun _ _ _ h => h
        case hwa1013 => rfl
        case hya1013 => ((intro w hSw; go_simp); first | done | with_reducible rfl)
        try simp only [Act.put, List.setIfInBounds_toArray, List.set_cons_zero, List.set_cons_succ]
        refine wpAnyH_take (i := 4) (oi := ?oia114) (v := ?va114) ?hia114 (by kernel_rfl) (by kernel_rfl) (by kernel_rfl) ?hQa114 (Or.inl ⟨?hwa114, ?hya114⟩) (by assumption) ?resta114
        case hia114 => (first | (simp only [List.getElem?_toArray, List.getElem?_cons_zero, List.getElem?_cons_succ]; rfl) | rfl)
        case hQa114 => exact fun _ _ _ h => h
        case hwa114 => rfl
        case hya114 => ((intro w hSw; go_simp); first | done | with_reducible rfl)
        try simp only [Act.put, List.setIfInBounds_toArray, List.set_cons_zero, List.set_cons_succ]
        refine wpAnyH_take (i := 9) (oi := ?oia129) (v := ?va129) ?hia129 (by kernel_rfl) (by kernel_rfl) (by kernel_rfl) ?hQa129 (Or.inl ⟨?hwa129, ?hya129⟩) (by assumption) ?resta129
        case hia129 => (first | (simp only [List.getElem?_toArray, List.getElem?_cons_zero, List.getElem?_cons_succ]; rfl) | rfl)
        case hQa129 => exact fun _ _ _ h => h
        case hwa129 => rfl
        case hya129 => ((intro w hSw; go_simp); first | done | with_reducible rfl)
        try simp only [Act.put, List.setIfInBounds_toArray, List.set_cons_zero, List.set_cons_succ]
        refine wpAnyH_take (i := 14) (oi := ?oia1314) (v := ?va1314) ?hia1314 (by kernel_rfl) (by kernel_rfl) (by kernel_rfl) ?hQa1314 (Or.inl ⟨?hwa1314, ?hya1314⟩) (by assumption) ?resta1314
        case hia1314 => (first | (simp only [List.getElem?_toArray, List.getElem?_cons_zero, List.getElem?_cons_succ]; rfl) | rfl)
        case hQa1314 => exact fun _ _ _ h => h
        case hwa1314 => rfl
        case hya1314 => ((intro w hSw; go_simp); first | done | with_reducible rfl)
        try simp only [Act.put, List.setIfInBounds_toArray, List.set_cons_zero, List.set_cons_succ]
        refine wpAnyH_take (i := 5) (oi := ?oia145) (v := ?va145) ?hia145 (by kernel_rfl) (by kernel_rfl) (by kernel_rfl) ?hQa145 (Or.inl ⟨?hwa145, ?hya145⟩) (by assumption) ?resta145
        case hia145 => (first | (simp only [List.getElem?_toArray, List.getElem?_cons_zero, List.getElem?_cons_succ]; rfl) | rfl)
        case hQa145 => exact fun _ _ _ h => h
        case hwa145 => rfl
        case hya145 => ((intro w hSw; go_simp); first | done | with_reducible rfl)
        try simp only [Act.put, List.setIfInBounds_toArray, List.set_cons_zero, List.set_cons_succ]
        refine wpAnyH_take (i := 10) (oi := ?oia1510) (v := ?va1510) ?hia1510 (by kernel_rfl) (by kernel_rfl) (by kernel_rfl) ?hQa1510 (Or.inl ⟨?hwa1510, ?hya1510⟩) (by assumption) ?resta1510
        case hia1510 => (first | (simp only [List.getElem?_toArray, List.getElem?_cons_zero, List.getElem?_cons_succ]; rfl) | rfl)
        case hQa1510 => exact fun _ _ _ h => h
        case hwa1510 => rfl
        case hya1510 => ((intro w hSw; go_simp); first | done | with_reducible rfl)
        try simp only [Act.put, List.setIfInBounds_toArray, List.set_cons_zero, List.set_cons_succ]
        refine wpAnyH_take (i := 15) (oi := ?oia1615) (v := ?va1615) ?hia1615 (by kernel_rfl) (by kernel_rfl) (by kernel_rfl) ?hQa1615 (Or.inl ⟨?hwa1615, ?hya1615⟩) (by assumption) ?resta1615
        case hia1615 => (first | (simp only [List.getElem?_toArray, List.getElem?_cons_zero, List.getElem?_cons_succ]; rfl) | rfl)
        case hQa1615 => exact fun _ _ _ h => h
        case hwa1615 => rfl
        case hya1615 => ((intro w hSw; go_simp); first | done | with_reducible rfl)
        try simp only [Act.put, List.setIfInBounds_toArray, List.set_cons_zero, List.set_cons_succ]
        refine wpAnyH_ready (rs := [16]) (by kernel_rfl) (by simp) ?_
        refine AllReadyH.cons (o := ?oa17) ?ha17 ?sa17 AllReadyH.nil
        case ha17 => (simp only [List.getElem?_toArray, List.getElem?_cons_zero, List.getElem?_cons_succ]; rfl)
        case sa17 =>
          intro K hK
          go_simp
          refine (HAD1.out u0 Hu0.out).mono ?_
          rintro e u1 ⟨rfl, F1', ht1⟩
          have HT1' := Lib.hid ht1
          have HBU1 := Lib.hid ht1.hb
          clear ht1
          have hSa := HSC.out _ HBU1.out
          go_wp2_with fail
          refine hK.out _ _ (HSC.out _ HBU1.out) (fun ha18 => ?_)
          clear hK K
          try simp only [Act.put, List.setIfInBounds_toArray, List.set_cons_zero, List.set_cons_succ]
          refine wpAnyH_take (i := 17) (oi := ?oia1917) (v := ?va1917) ?hia1917 (by kernel_rfl) (by kernel_rfl) (by kernel_rfl) ?hQa1917 (Or.inl ⟨?hwa1917, ?hya1917⟩) (by assumption) ?resta1917
          case hia1917 => (first | (simp only [List.getElem?_toArray, List.getElem?_cons_zero, List.getElem?_cons_succ]; rfl) | rfl)
          case hQa1917 => exact fun _ _ _ h => h
          case hwa1917 => rfl
          case hya1917 => ((intro w hSw; go_simp); first | done | with_reducible rfl)
          try simp only [Act.put, List.setIfInBounds_toArray, List.set_cons_zero, List.set_cons_succ]
          refine wpAnyH_done (by kernel_rfl) ?_ _
          have HAD2 : Hid (∀ u, Below u1.heap.size u1 u → Calls Try.prog 11 #[.pointer (some ⟨d, 0, none⟩), .int .i64 D, .slice B mT cB, .slice C mS cC] u fun e w'' => e = .returned (.int .i64 E) ∧ ∃ G', Twin M W w'' F1' b G' d (mAdd L x) (mAdd L x)) := Lib.hid (fun u hu => HAX.out u1 u F1' HT1'.out hu)
          go_upto_region 10 with fail
          refine wp_region_held_drew (S := fun w' => w'.cell? (pa.add (i * 3)) = some (.int .i64 D) ∧ w'.cell? ⟨(pa.add (i * 3)).block, (pa.add (i * 3)).off + 1, none⟩ = some (.slice B mT cB) ∧ w'.cell? ⟨(pa.add (i * 3)).block, (pa.add (i * 3)).off + 2, none⟩ = some (.slice C mS cC)) (by kernel_rfl) (HSC.out u1 HBU1.out) (fun hHeld => ?_)
          obtain ⟨u2, hu2⟩ : ∃ zz, zz = u1.drew := ⟨_, rfl⟩
          rw [← hu2] at hHeld ⊢
          have Hu2 : Hid (Below u1.heap.size u1 u2) := Lib.hid (by rw [hu2]; exact (Below.refl _ u1).drew)
          clear hu2
          refine wpAnyH_take (i := 0) (oi := ?oic10) (v := ?vc10) ?hic10 (by kernel_rfl) (by kernel_rfl) (by kernel_rfl) ?hQc10 (Or.inl ⟨?hwc10, ?hyc10⟩) (by assumption) ?restc10
          case hic10 => (first | (simp only [List.getElem?_toArray, List.getElem?_cons_zero, List.getElem?_cons_succ]; rfl) | rfl)
          case hQc10 => exact fun _ _ _ h => h
          case hwc10 => rfl
          case hyc10 => ((intro w hSw; go_simp); first | done | with_reducible rfl)
          try simp only [Act.put, List.setIfInBounds_toArray, List.set_cons_zero, List.set_cons_succ]
          refine wpAnyH_take (i := 1) (oi := ?oic21) (v := ?vc21) ?hic21 (by kernel_rfl) (by kernel_rfl) (by kernel_rfl) ?hQc21 (Or.inl ⟨?hwc21, ?hyc21⟩) (by assumption) ?restc21
          case hic21 => (first | (simp only [List.getElem?_toArray, List.getElem?_cons_zero, List.getElem?_cons_succ]; rfl) | rfl)
          case hQc21 => exact fun _ _ _ h => h
          case hwc21 => rfl
          case hyc21 => ((intro w hSw; go_simp); first | done | with_reducible rfl)
          try simp only [Act.put, List.setIfInBounds_toArray, List.set_cons_zero, List.set_cons_succ]
          refine wpAnyH_take (i := 2) (oi := ?oic32) (v := ?vc32) ?hic32 (by kernel_rfl) (by kernel_rfl) (by kernel_rfl) ?hQc32 (Or.inl ⟨?hwc32, ?hyc32⟩) (by assumption) ?restc32
          case hic32 => (first | (simp only [List.getElem?_toArray, List.getElem?_cons_zero, List.getElem?_cons_succ]; rfl) | rfl)
          case hQc32 => exact fun _ _ _ h => h
          case hwc32 => rfl
          case hyc32 => ((intro w hSw; go_simp); first | done | with_reducible rfl)
          try simp only [Act.put, List.setIfInBounds_toArray, List.set_cons_zero, List.set_cons_succ]
          refine wpAnyH_take (i := 6) (oi := ?oic46) (v := ?vc46) ?hic46 (by kernel_rfl) (by kernel_rfl) (by kernel_rfl) ?hQc46 (Or.inl ⟨?hwc46, ?hyc46⟩) (by assumption) ?restc46
          case hic46 => (first | (simp only [List.getElem?_toArray, List.getElem?_cons_zero, List.getElem?_cons_succ]; rfl) | rfl)
          case hQc46 => exact fun _ _ _ h => h
          case hwc46 => rfl
          case hyc46 => ((intro w hSw; go_simp); first | done | with_reducible rfl)
          try simp only [Act.put, List.setIfInBounds_toArray, List.set_cons_zero, List.set_cons_succ]
          refine wpAnyH_take (i := 7) (oi := ?oic57) (v := ?vc57) ?hic57 (by kernel_rfl) (by kernel_rfl) (by kernel_rfl) ?hQc57 (Or.inl ⟨?hwc57, ?hyc57⟩) (by assumption) ?restc57
          case hic57 => (first | (simp only [List.getElem?_toArray, List.getElem?_cons_zero, List.getElem?_cons_succ]; rfl) | rfl)
          case hQc57 => exact fun _ _ _ h => h
          case hwc57 => rfl
          case hyc57 => ((intro w hSw; go_simp); first | done | with_reducible rfl)
          try simp only [Act.put, List.setIfInBounds_toArray, List.set_cons_zero, List.set_cons_succ]
          refine wpAnyH_take (i := 11) (oi := ?oic611) (v := ?vc611) ?hic611 (by kernel_rfl) (by kernel_rfl) (by kernel_rfl) ?hQc611 (Or.inl ⟨?hwc611, ?hyc611⟩) (by assumption) ?restc611
          case hic611 => (first | (simp only [List.getElem?_toArray, List.getElem?_cons_zero, List.getElem?_cons_succ]; rfl) | rfl)
          case hQc611 => exact fun _ _ _ h => h
          case hwc611 => rfl
          case hyc611 => ((intro w hSw; go_simp); first | done | with_reducible rfl)
          try simp only [Act.put, List.setIfInBounds_toArray, List.set_cons_zero, List.set_cons_succ]
          refine wpAnyH_take (i := 12) (oi := ?oic712) (v := ?vc712) ?hic712 (by kernel_rfl) (by kernel_rfl) (by kernel_rfl) ?hQc712 (Or.inl ⟨?hwc712, ?hyc712⟩) (by assumption) ?restc712
          case hic712 => (first | (simp only [List.getElem?_toArray, List.getElem?_cons_zero, List.getElem?_cons_succ]; rfl) | rfl)
          case hQc712 => exact fun _ _ _ h => h
          case hwc712 => rfl
          case hyc712 => ((intro w hSw; go_simp); first | done | with_reducible rfl)
          try simp only [Act.put, List.setIfInBounds_toArray, List.set_cons_zero, List.set_cons_succ]
          refine wpAnyH_take (i := 3) (oi := ?oic83) (v := ?vc83) ?hic83 (by kernel_rfl) (by kernel_rfl) (by kernel_rfl) ?hQc83 (Or.inl ⟨?hwc83, ?hyc83⟩) (by assumption) ?restc83
          case hic83 => (first | (simp only [List.getElem?_toArray, List.getElem?_cons_zero, List.getElem?_cons_succ]; rfl) | rfl)
          case hQc83 => exact fun _ _ _ h => h
          case hwc83 => rfl
          case hyc83 => ((intro w hSw; go_simp); first | done | with_reducible rfl)
          try simp only [Act.put, List.setIfInBounds_toArray, List.set_cons_zero, List.set_cons_succ]
          refine wpAnyH_take (i := 8) (oi := ?oic98) (v := ?vc98) ?hic98 (by kernel_rfl) (by kernel_rfl) (by kernel_rfl) ?hQc98 (Or.inl ⟨?hwc98, ?hyc98⟩) (by assumption) ?restc98
          case hic98 => (first | (simp only [List.getElem?_toArray, List.getElem?_cons_zero, List.getElem?_cons_succ]; rfl) | rfl)
          case hQc98 => exact fun _ _ _ h => h
          case hwc98 => rfl
          case hyc98 => ((intro w hSw; go_simp); first | done | with_reducible rfl)
          try simp only [Act.put, List.setIfInBounds_toArray, List.set_cons_zero, List.set_cons_succ]
          refine wpAnyH_take (i := 13) (oi := ?oic1013) (v := ?vc1013) ?hic1013 (by kernel_rfl) (by kernel_rfl) (by kernel_rfl) ?hQc1013 (Or.inl ⟨?hwc1013, ?hyc1013⟩) (by assumption) ?restc1013
          case hic1013 => (first | (simp only [List.getElem?_toArray, List.getElem?_cons_zero, List.getElem?_cons_succ]; rfl) | rfl)
          case hQc1013 => exact fun _ _ _ h => h
          case hwc1013 => rfl
          case hyc1013 => ((intro w hSw; go_simp); first | done | with_reducible rfl)
          try simp only [Act.put, List.setIfInBounds_toArray, List.set_cons_zero, List.set_cons_succ]
          refine wpAnyH_take (i := 4) (oi := ?oic114) (v := ?vc114) ?hic114 (by kernel_rfl) (by kernel_rfl) (by kernel_rfl) ?hQc114 (Or.inl ⟨?hwc114, ?hyc114⟩) (by assumption) ?restc114
          case hic114 => (first | (simp only [List.getElem?_toArray, List.getElem?_cons_zero, List.getElem?_cons_succ]; rfl) | rfl)
          case hQc114 => exact fun _ _ _ h => h
          case hwc114 => rfl
          case hyc114 => ((intro w hSw; go_simp); first | done | with_reducible rfl)
          try simp only [Act.put, List.setIfInBounds_toArray, List.set_cons_zero, List.set_cons_succ]
          refine wpAnyH_take (i := 9) (oi := ?oic129) (v := ?vc129) ?hic129 (by kernel_rfl) (by kernel_rfl) (by kernel_rfl) ?hQc129 (Or.inl ⟨?hwc129, ?hyc129⟩) (by assumption) ?restc129
          case hic129 => (first | (simp only [List.getElem?_toArray, List.getElem?_cons_zero, List.getElem?_cons_succ]; rfl) | rfl)
          case hQc129 => exact fun _ _ _ h => h
          case hwc129 => rfl
          case hyc129 => ((intro w hSw; go_simp); first | done | with_reducible rfl)
          try simp only [Act.put, List.setIfInBounds_toArray, List.set_cons_zero, List.set_cons_succ]
          refine wpAnyH_take (i := 14) (oi := ?oic1314) (v := ?vc1314) ?hic1314 (by kernel_rfl) (by kernel_rfl) (by kernel_rfl) ?hQc1314 (Or.inl ⟨?hwc1314, ?hyc1314⟩) (by assumption) ?restc1314
          case hic1314 => (first | (simp only [List.getElem?_toArray, List.getElem?_cons_zero, List.getElem?_cons_succ]; rfl) | rfl)
          case hQc1314 => exact fun _ _ _ h => h
          case hwc1314 => rfl
          case hyc1314 => ((intro w hSw; go_simp); first | done | with_reducible rfl)
          try simp only [Act.put, List.setIfInBounds_toArray, List.set_cons_zero, List.set_cons_succ]
          refine wpAnyH_take (i := 5) (oi := ?oic145) (v := ?vc145) ?hic145 (by kernel_rfl) (by kernel_rfl) (by kernel_rfl) ?hQc145 (Or.inl ⟨?hwc145, ?hyc145⟩) (by assumption) ?restc145
          case hic145 => (first | (simp only [List.getElem?_toArray, List.getElem?_cons_zero, List.getElem?_cons_succ]; rfl) | rfl)
          case hQc145 => exact fun _ _ _ h => h
          case hwc145 => rfl
          case hyc145 => ((intro w hSw; go_simp); first | done | with_reducible rfl)
          try simp only [Act.put, List.setIfInBounds_toArray, List.set_cons_zero, List.set_cons_succ]
          refine wpAnyH_take (i := 10) (oi := ?oic1510) (v := ?vc1510) ?hic1510 (by kernel_rfl) (by kernel_rfl) (by kernel_rfl) ?hQc1510 (Or.inl ⟨?hwc1510, ?hyc1510⟩) (by assumption) ?restc1510
          case hic1510 => (first | (simp only [List.getElem?_toArray, List.getElem?_cons_zero, List.getElem?_cons_succ]; rfl) | rfl)
          case hQc1510 => exact fun _ _ _ h => h
          case hwc1510 => rfl
          case hyc1510 => ((intro w hSw; go_simp); first | done | with_reducible rfl)
          try simp only [Act.put, List.setIfInBounds_toArray, List.set_cons_zero, List.set_cons_succ]
          refine wpAnyH_take (i := 15) (oi := ?oic1615) (v := ?vc1615) ?hic1615 (by kernel_rfl) (by kernel_rfl) (by kernel_rfl) ?hQc1615 (Or.inl ⟨?hwc1615, ?hyc1615⟩) (by assumption) ?restc1615
          case hic1615 => (first | (simp only [List.getElem?_toArray, List.getElem?_cons_zero, List.getElem?_cons_succ]; rfl) | rfl)
          case hQc1615 => exact fun _ _ _ h => h
          case hwc1615 => rfl
          case hyc1615 => ((intro w hSw; go_simp); first | done | with_reducible rfl)
          try simp only [Act.put, List.setIfInBounds_toArray, List.set_cons_zero, List.set_cons_succ]
          refine wpAnyH_ready (rs := [16]) (by kernel_rfl) (by simp) ?_
          refine AllReadyH.cons (o := ?oc17) ?hc17 ?sc17 AllReadyH.nil
          case hc17 => (simp only [List.getElem?_toArray, List.getElem?_cons_zero, List.getElem?_cons_succ]; rfl)
          case sc17 =>
            intro K hK
            go_simp
            refine (HAD2.out u2 Hu2.out).mono ?_
            rintro e u3 ⟨rfl, G2', ht3⟩
            have HT3' := Lib.hid ht3
            have HBU3 := Lib.hid ht3.hb
            clear ht3
            have hSc := HSC.out _ HBU3.out
            go_wp2_with fail
            refine hK.out _ _ (HSC.out _ HBU3.out) (fun hc18 => ?_)
            clear hK K
            try simp only [Act.put, List.setIfInBounds_toArray, List.set_cons_zero, List.set_cons_succ]
            refine wpAnyH_take (i := 17) (oi := ?oic1917) (v := ?vc1917) ?hic1917 (by kernel_rfl) (by kernel_rfl) (by kernel_rfl) ?hQc1917 (Or.inl ⟨?hwc1917, ?hyc1917⟩) (by assumption) ?restc1917
            case hic1917 => (first | (simp only [List.getElem?_toArray, List.getElem?_cons_zero, List.getElem?_cons_succ]; rfl) | rfl)
            case hQc1917 => exact fun _ _ _ h => h
            case hwc1917 => rfl
            case hyc1917 => ((intro w hSw; go_simp); first | done | with_reducible rfl)
            try simp only [Act.put, List.setIfInBounds_toArray, List.set_cons_zero, List.set_cons_succ]
            refine wpAnyH_done (by kernel_rfl) ?_ _
            have HM3 := Lib.hid (HT3'.out)
            obtain ⟨nL, hnL⟩ : ∃ nL, nL = (mAdd L x).length := ⟨_, rfl⟩
            obtain ⟨Ad, cd, hblk, -⟩ := HT3'.out.r.see (by have := HWN.out.few; omega)
            rw [← hnL] at hblk
            have HSD : Hid (∀ u, Below u3.heap.size u3 u → u.cell? ⟨d, 0, none⟩ = some (.slice Ad nL cd)) := Lib.hid (fun u hu => by
              have := (hblk.below hu hblk.lt).cell 0
              simpa using this)
            have HMN : Hid (∀ u, Below u3.heap.size u3 u → Calls Try.prog 12 #[.pointer (some ⟨b, 0, none⟩)] u fun e w' => e = .returned (.int .i64 (nL : Int)) ∧ Below u.heap.size u w') := Lib.hid (fun u hu => by
              rw [hnL]
              exact HK.out.many (HK.out.below HT3'.out.m hu) HWN.out)
            clear hnL hblk HM3
            go_upto_region 11 with fail
            refine wp_region_held_drew (S := fun w' => w'.cell? ⟨d, 0, none⟩ = some (.slice Ad nL cd)) (by kernel_rfl) (HSD.out u3 (Below.refl _ _)) (fun hHeld => ?_)
            obtain ⟨v0, hv0⟩ : ∃ zz, zz = u3.drew := ⟨_, rfl⟩
            rw [← hv0] at hHeld ⊢
            have HV0 : Hid (Below u3.heap.size u3 v0) := Lib.hid (by rw [hv0]; exact (Below.refl _ u3).drew)
            clear hv0
            refine wpAnyH_take (i := 0) (oi := ?oim10) (v := ?vm10) ?him10 (by kernel_rfl) (by kernel_rfl) (by kernel_rfl) ?hQm10 (Or.inl ⟨?hwm10, ?hym10⟩) (by assumption) ?restm10
            case him10 => (first | (simp only [List.getElem?_toArray, List.getElem?_cons_zero, List.getElem?_cons_succ]; rfl) | rfl)
            case hQm10 => exact fun _ _ _ h => h
            case hwm10 => rfl
            case hym10 => ((intro w hSw; go_simp); first | done | with_reducible rfl)
            try simp only [Act.put, List.setIfInBounds_toArray, List.set_cons_zero, List.set_cons_succ]
            refine wpAnyH_take (i := 1) (oi := ?oim21) (v := ?vm21) ?him21 (by kernel_rfl) (by kernel_rfl) (by kernel_rfl) ?hQm21 (Or.inl ⟨?hwm21, ?hym21⟩) (by assumption) ?restm21
            case him21 => (first | (simp only [List.getElem?_toArray, List.getElem?_cons_zero, List.getElem?_cons_succ]; rfl) | rfl)
            case hQm21 => exact fun _ _ _ h => h
            case hwm21 => rfl
            case hym21 => ((intro w hSw; go_simp); first | done | with_reducible rfl)
            try simp only [Act.put, List.setIfInBounds_toArray, List.set_cons_zero, List.set_cons_succ]
            refine wpAnyH_take (i := 2) (oi := ?oim32) (v := ?vm32) ?him32 (by kernel_rfl) (by kernel_rfl) (by kernel_rfl) ?hQm32 (Or.inl ⟨?hwm32, ?hym32⟩) (by assumption) ?restm32
            case him32 => (first | (simp only [List.getElem?_toArray, List.getElem?_cons_zero, List.getElem?_cons_succ]; rfl) | rfl)
            case hQm32 => exact fun _ _ _ h => h
            case hwm32 => rfl
            case hym32 => ((intro w hSw; go_simp); first | done | with_reducible rfl)
            try simp only [Act.put, List.setIfInBounds_toArray, List.set_cons_zero, List.set_cons_succ]
            refine wpAnyH_take (i := 3) (oi := ?oim43) (v := ?vm43) ?him43 (by kernel_rfl) (by kernel_rfl) (by kernel_rfl) ?hQm43 (Or.inl ⟨?hwm43, ?hym43⟩) (by assumption) ?restm43
            case him43 => (first | (simp only [List.getElem?_toArray, List.getElem?_cons_zero, List.getElem?_cons_succ]; rfl) | rfl)
            case hQm43 => exact fun _ _ _ h => h
            case hwm43 => rfl
            case hym43 => ((intro w hSw; go_simp); first | done | with_reducible rfl)
            try simp only [Act.put, List.setIfInBounds_toArray, List.set_cons_zero, List.set_cons_succ]
            refine wpAnyH_take (i := 4) (oi := ?oim54) (v := ?vm54) ?him54 (by kernel_rfl) (by kernel_rfl) (by kernel_rfl) ?hQm54 (Or.inl ⟨?hwm54, ?hym54⟩) (by assumption) ?restm54
            case him54 => (first | (simp only [List.getElem?_toArray, List.getElem?_cons_zero, List.getElem?_cons_succ]; rfl) | rfl)
            case hQm54 => exact fun _ _ _ h => h
            case hwm54 => rfl
            case hym54 => ((intro w hSw; go_simp); first | done | with_reducible rfl)
            try simp only [Act.put, List.setIfInBounds_toArray, List.set_cons_zero, List.set_cons_succ]
            refine wpAnyH_take (i := 6) (oi := ?oim66) (v := ?vm66) ?him66 (by kernel_rfl) (by kernel_rfl) (by kernel_rfl) ?hQm66 (Or.inl ⟨?hwm66, ?hym66⟩) (by assumption) ?restm66
            case him66 => (first | (simp only [List.getElem?_toArray, List.getElem?_cons_zero, List.getElem?_cons_succ]; rfl) | rfl)
            case hQm66 => exact fun _ _ _ h => h
            case hwm66 => rfl
            case hym66 => ((intro w hSw; go_simp); first | done | with_reducible rfl)
            try simp only [Act.put, List.setIfInBounds_toArray, List.set_cons_zero, List.set_cons_succ]
            refine wpAnyH_take (i := 7) (oi := ?oim77) (v := ?vm77) ?him77 (by kernel_rfl) (by kernel_rfl) (by kernel_rfl) ?hQm77 (Or.inl ⟨?hwm77, ?hym77⟩) (by assumption) ?restm77
            case him77 => (first | (simp only [List.getElem?_toArray, List.getElem?_cons_zero, List.getElem?_cons_succ]; rfl) | rfl)
            case hQm77 => exact fun _ _ _ h => h
            case hwm77 => rfl
            case hym77 => ((intro w hSw; go_simp); first | done | with_reducible rfl)
            try simp only [Act.put, List.setIfInBounds_toArray, List.set_cons_zero, List.set_cons_succ]
            refine wpAnyH_take (i := 8) (oi := ?oim88) (v := ?vm88) ?him88 (by kernel_rfl) (by kernel_rfl) (by kernel_rfl) ?hQm88 (Or.inl ⟨?hwm88, ?hym88⟩) (by assumption) ?restm88
            case him88 => (first | (simp only [List.getElem?_toArray, List.getElem?_cons_zero, List.getElem?_cons_succ]; rfl) | rfl)
            case hQm88 => exact fun _ _ _ h => h
            case hwm88 => rfl
            case hym88 => ((intro w hSw; go_simp); first | done | with_reducible rfl)
            try simp only [Act.put, List.setIfInBounds_toArray, List.set_cons_zero, List.set_cons_succ]
            refine wpAnyH_take (i := 9) (oi := ?oim99) (v := ?vm99) ?him99 (by kernel_rfl) (by kernel_rfl) (by kernel_rfl) ?hQm99 (Or.inl ⟨?hwm99, ?hym99⟩) (by assumption) ?restm99
            case him99 => (first | (simp only [List.getElem?_toArray, List.getElem?_cons_zero, List.getElem?_cons_succ]; rfl) | rfl)
            case hQm99 => exact fun _ _ _ h => h
            case hwm99 => rfl
            case hym99 => ((intro w hSw; go_simp); first | done | with_reducible rfl)
            try simp only [Act.put, List.setIfInBounds_toArray, List.set_cons_zero, List.set_cons_succ]
            refine wpAnyH_take (i := 10) (oi := ?oim1010) (v := ?vm1010) ?him1010 (by kernel_rfl) (by kernel_rfl) (by kernel_rfl) ?hQm1010 (Or.inl ⟨?hwm1010, ?hym1010⟩) (by assumption) ?restm1010
            case him1010 => (first | (simp only [List.getElem?_toArray, List.getElem?_cons_zero, List.getElem?_cons_succ]; rfl) | rfl)
            case hQm1010 => exact fun _ _ _ h => h
            case hwm1010 => rfl
            case hym1010 => ((intro w hSw; go_simp); first | done | with_reducible rfl)
            try simp only [Act.put, List.setIfInBounds_toArray, List.set_cons_zero, List.set_cons_succ]
            refine wpAnyH_ready (rs := [5]) (by kernel_rfl) (by simp) ?_
            refine AllReadyH.cons (o := ?om11) ?hm11 ?sm11 AllReadyH.nil
            case hm11 => (simp only [List.getElem?_toArray, List.getElem?_cons_zero, List.getElem?_cons_succ]; rfl)
            case sm11 =>
              intro K hK
              go_simp
              refine (HMN.out v0 HV0.out).mono ?_
              rintro e v1 ⟨rfl, hb1⟩
              have HV1 := Lib.hid (below_then HV0.out hb1 HV0.out.size)
              have hS1 := HSD.out _ HV1.out
              clear hb1
              go_wp2_with fail
              refine hK.out _ _ (HSD.out _ HV1.out) (fun hm12 => ?_)
              clear hK K
              try simp only [Act.put, List.setIfInBounds_toArray, List.set_cons_zero, List.set_cons_succ]
              refine wpAnyH_take (i := 11) (oi := ?oim1311) (v := ?vm1311) ?him1311 (by kernel_rfl) (by kernel_rfl) (by kernel_rfl) ?hQm1311 (Or.inl ⟨?hwm1311, ?hym1311⟩) (by assumption) ?restm1311
              case him1311 => (first | (simp only [List.getElem?_toArray, List.getElem?_cons_zero, List.getElem?_cons_succ]; rfl) | rfl)
              case hQm1311 => exact fun _ _ _ h => h
              case hwm1311 => rfl
              case hym1311 => ((intro w hSw; go_simp); first | done | with_reducible rfl)
              try simp only [Act.put, List.setIfInBounds_toArray, List.set_cons_zero, List.set_cons_succ]
              refine wpAnyH_take (i := 12) (oi := ?oim1412) (v := ?vm1412) ?him1412 (by kernel_rfl) (by kernel_rfl) (by kernel_rfl) ?hQm1412 (Or.inl ⟨?hwm1412, ?hym1412⟩) (by assumption) ?restm1412
              case him1412 => (first | (simp only [List.getElem?_toArray, List.getElem?_cons_zero, List.getElem?_cons_succ]; rfl) | rfl)
              case hQm1412 => exact fun _ _ _ h => h
              case hwm1412 => rfl
              case hym1412 => ((intro w hSw; go_simp); first | done | with_reducible rfl)
              try simp only [Act.put, List.setIfInBounds_toArray, List.set_cons_zero, List.set_cons_succ]
              refine wpAnyH_done (by kernel_rfl) ?_ _
              have HT4 := Lib.hid (HT3'.out.below HK.out HV1.out)
              go_wp2
              go_roundw
              case rel => exact ⟨i + 1, F1', G2', by omega, by go_num, by rw [HUP.out]; exact HT4.out⟩
              case measure => simp [intOf]; omega
      · obtain rfl : i = n := by omega
        have hlz : ¬ ((i : Int) < (i : Int)) := by omega
        obtain ⟨hw, hto⟩ := adds_ok HX.out HBIG.out i (Nat.le_refl _)
        obtain ⟨L, hL⟩ : ∃ L, L = addUp X i := ⟨_, rfl⟩
        rw [← hL] at HT hw hto
        have HW := Lib.hid hw
        have HTO := Lib.hid hto
        have HTF := Lib.hid (terms_fit hw)
        obtain ⟨T, hT⟩ : ∃ T, T = mTerms L := ⟨_, rfl⟩
        have hct := HK.out.terms HT.out.m hw hto
        rw [← hT] at hct HTF
        have HCT := Lib.hid hct
        have HTE := Lib.hid hT
        clear hw hto hL hT hct
        obtain ⟨wo, hwo⟩ : ∃ zz, zz = wr := ⟨_, rfl⟩
        subst hwo
        go_wp2_with fail
        refine HCT.out.mono ?_
        rintro e w4 ⟨A4, c4, rfl, hi4, -, hb4⟩
        have HI4 := Lib.hid hi4
        have HT4 := Lib.hid (HT.out.below HK.out hb4)
        have hdt := r12Terms_back HT4.out.r HW.out HTO.out
        rw [← HTE.out] at hdt
        have HDT := Lib.hid hdt
        clear hi4 hb4 hdt HCT
        go_wp2_with fail
        refine HDT.out.mono ?_
        rintro e w5 ⟨A5, c5, rfl, hi5, -, hb5⟩
        have HI5 := Lib.hid (HI4.out.below hb5)
        have HT5 := Lib.hid (HT4.out.below HK.out hb5)
        have hsm := r6Same_any w5 A4 A5 T.length T.length c4 c5 T T HI5.out hi5
        rw [show decide (T = T) = true by simp] at hsm
        have HSM := Lib.hid hsm
        clear hi5 hb5 hsm HDT
        go_wp2_with fail
        refine HSM.out.mono ?_
        rintro e w6 ⟨rfl, q6, hw6⟩
        have hb6 : Below w5.heap.size w5 w6 := by rw [hw6]; exact below_drewN (Below.refl _ w5) q6
        have HI6 := Lib.hid (HI5.out.below hb6)
        have HT6 := Lib.hid (HT5.out.below HK.out hb6)
        have hcp := HK.out.posts HT6.out.m HW.out HTO.out t ht
        obtain ⟨P, hP⟩ : ∃ P, P = mPosts L t := ⟨_, rfl⟩
        rw [← hP] at hcp
        have HCP := Lib.hid hcp
        have HPE := Lib.hid hP
        clear hw6 hb6 hcp hP HSM
        go_wp2_with fail
        refine HCP.out.mono ?_
        rintro e w7 ⟨A7, c7, rfl, hp7, -, hb7⟩
        have HP7 := Lib.hid hp7
        have HI7 := Lib.hid (HI6.out.below hb7)
        have HT7 := Lib.hid (HT6.out.below HK.out hb7)
        have hdp := r12Posts_back HT7.out.r HW.out t
        rw [← HPE.out] at hdp
        have HDP := Lib.hid hdp
        clear hp7 hb7 hdp HCP
        go_wp2_with fail
        refine HDP.out.mono ?_
        rintro e w8 ⟨A8, c8, rfl, hp8, -, hb8⟩
        have HI8 := Lib.hid (HI7.out.below hb8)
        have HT8 := Lib.hid (HT7.out.below HK.out hb8)
        have hsp := r9Same_any w8 A7 A8 P.length P.length c7 c8 P P (HP7.out.below hb8) hp8
        rw [show decide (P = P) = true by simp] at hsp
        have HSP := Lib.hid hsp
        clear hp8 hb8 hsp HDP
        go_wp2_with fail
        refine HSP.out.mono ?_
        rintro e w9 ⟨rfl, q9, hw9⟩
        have hb9 : Below w8.heap.size w8 w9 := by rw [hw9]; exact below_drewN (Below.refl _ w8) q9
        have hi9 := HI8.out.below hb9
        have HT9 := Lib.hid (HT8.out.below HK.out hb9)
        obtain ⟨nT, hnT⟩ : ∃ nT, nT = T.length := ⟨_, rfl⟩
        rw [← hnT] at hi9 ⊢
        have HI9 := Lib.hid hi9
        have hn4 := hi9.1
        unfold maxLen at hn4
        clear hw9 hb9 hi9 hnT HSP
        go_wp2
        go_loopw [12] (fun kv wi => ∃ k : Nat, k ≤ nT ∧ kv = .int .i64 k ∧ Below w9.heap.size w9 wi) (fun kv _ => nT - (intOf kv).toNat)
        case atStart => exact ⟨0, by omega, rfl, Below.refl _ _⟩
        case round =>
          obtain ⟨k, hk, rfl, hbk⟩ := hrel
          have HTK := Lib.hid (HT9.out.below HK.out hbk)
          have HBK := Lib.hid hbk
          clear hbk
          rcases Nat.lt_or_ge k nT with hkl | hkg
          · have hkl' : (k : Int) < (nT : Int) := by omega
            have q0 : (0 : Int) ≤ (k : Int) := by omega
            have hw2 : IntKind.i64.wrap ((k : Int) + 1) = (k : Int) + 1 := IntWalk.i64_in _ (by omega)
            obtain ⟨pt, y, hpt, hy, y0, -, -⟩ := HI9.out.at k hkl
            subst hpt
            have hyf := HTF.out y (List.mem_of_getElem? hy)
            obtain ⟨P, hP⟩ : ∃ P, P = mPosts L y := ⟨_, rfl⟩
            have HSD : Hid (∀ u, Below wr.heap.size wr u → u.cell? (pt.add k) = some (.int .i64 y)) := Lib.hid (fun u hu => below_cells (below_then HBK.out hu HBK.out.size) y0)
            have HPM : Hid (∀ u, Below wr.heap.size wr u → Calls Try.prog 17 #[.pointer (some ⟨b, 0, none⟩), .int .i64 y] u (PostsBack u P)) := Lib.hid (fun u hu => by
              rw [hP]
              exact HK.out.posts (HK.out.below HTK.out.m hu) HW.out HTO.out y (by unfold fits64; omega))
            have HPR : Hid (∀ u, Below wr.heap.size wr u → Calls Try.prog 18 #[.pointer (some ⟨d, 0, none⟩), .int .i64 y] u (PostsBack u P)) := Lib.hid (fun u hu => by
              rw [hP]
              exact r12Posts_back (HTK.out.r.below hu) HW.out y)
            clear hy y0 hyf hP
            go_upto_region 19 with fail
            refine wp_region_held_drew (S := fun w' => w'.cell? (pt.add k) = some (.int .i64 y)) (by kernel_rfl) (HSD.out wr (Below.refl _ _)) (fun hHeld => ?_)
            obtain ⟨v0, hv0⟩ : ∃ zz, zz = wr.drew := ⟨_, rfl⟩
            rw [← hv0] at hHeld ⊢
            have HV0 : Hid (Below wr.heap.size wr v0) := Lib.hid (by rw [hv0]; exact (Below.refl _ wr).drew)
            clear hv0
            refine wpAnyH_take (i := 0) (oi := ?oip10) (v := ?vp10) ?hip10 (by kernel_rfl) (by kernel_rfl) (by kernel_rfl) ?hQp10 (Or.inl ⟨?hwp10, ?hyp10⟩) (by assumption) ?restp10
            case hip10 => (first | (simp only [List.getElem?_toArray, List.getElem?_cons_zero, List.getElem?_cons_succ]; rfl) | rfl)
            case hQp10 => exact fun _ _ _ h => h
            case hwp10 => rfl
            case hyp10 => ((intro w hSw; go_simp); first | done | with_reducible rfl)
            try simp only [Act.put, List.setIfInBounds_toArray, List.set_cons_zero, List.set_cons_succ]
            refine wpAnyH_take (i := 1) (oi := ?oip21) (v := ?vp21) ?hip21 (by kernel_rfl) (by kernel_rfl) (by kernel_rfl) ?hQp21 (Or.inl ⟨?hwp21, ?hyp21⟩) (by assumption) ?restp21
            case hip21 => (first | (simp only [List.getElem?_toArray, List.getElem?_cons_zero, List.getElem?_cons_succ]; rfl) | rfl)
            case hQp21 => exact fun _ _ _ h => h
            case hwp21 => rfl
            case hyp21 => ((intro w hSw; go_simp); first | done | with_reducible rfl)
            try simp only [Act.put, List.setIfInBounds_toArray, List.set_cons_zero, List.set_cons_succ]
            refine wpAnyH_take (i := 2) (oi := ?oip32) (v := ?vp32) ?hip32 (by kernel_rfl) (by kernel_rfl) (by kernel_rfl) ?hQp32 (Or.inl ⟨?hwp32, ?hyp32⟩) (by assumption) ?restp32
            case hip32 => (first | (simp only [List.getElem?_toArray, List.getElem?_cons_zero, List.getElem?_cons_succ]; rfl) | rfl)
            case hQp32 => exact fun _ _ _ h => h
            case hwp32 => rfl
            case hyp32 => ((intro w hSw; go_simp); first | done | with_reducible rfl)
            try simp only [Act.put, List.setIfInBounds_toArray, List.set_cons_zero, List.set_cons_succ]
            refine wpAnyH_take (i := 6) (oi := ?oip46) (v := ?vp46) ?hip46 (by kernel_rfl) (by kernel_rfl) (by kernel_rfl) ?hQp46 (Or.inl ⟨?hwp46, ?hyp46⟩) (by assumption) ?restp46
            case hip46 => (first | (simp only [List.getElem?_toArray, List.getElem?_cons_zero, List.getElem?_cons_succ]; rfl) | rfl)
            case hQp46 => exact fun _ _ _ h => h
            case hwp46 => rfl
            case hyp46 => ((intro w hSw; go_simp); first | done | with_reducible rfl)
            try simp only [Act.put, List.setIfInBounds_toArray, List.set_cons_zero, List.set_cons_succ]
            refine wpAnyH_take (i := 7) (oi := ?oip57) (v := ?vp57) ?hip57 (by kernel_rfl) (by kernel_rfl) (by kernel_rfl) ?hQp57 (Or.inl ⟨?hwp57, ?hyp57⟩) (by assumption) ?restp57
            case hip57 => (first | (simp only [List.getElem?_toArray, List.getElem?_cons_zero, List.getElem?_cons_succ]; rfl) | rfl)
            case hQp57 => exact fun _ _ _ h => h
            case hwp57 => rfl
            case hyp57 => ((intro w hSw; go_simp); first | done | with_reducible rfl)
            try simp only [Act.put, List.setIfInBounds_toArray, List.set_cons_zero, List.set_cons_succ]
            refine wpAnyH_take (i := 8) (oi := ?oip68) (v := ?vp68) ?hip68 (by kernel_rfl) (by kernel_rfl) (by kernel_rfl) ?hQp68 (Or.inl ⟨?hwp68, ?hyp68⟩) (by assumption) ?restp68
            case hip68 => (first | (simp only [List.getElem?_toArray, List.getElem?_cons_zero, List.getElem?_cons_succ]; rfl) | rfl)
            case hQp68 => exact fun _ _ _ h => h
            case hwp68 => rfl
            case hyp68 => ((intro w hSw; go_simp); first | done | with_reducible rfl)
            try simp only [Act.put, List.setIfInBounds_toArray, List.set_cons_zero, List.set_cons_succ]
            refine wpAnyH_take (i := 3) (oi := ?oip73) (v := ?vp73) ?hip73 (by kernel_rfl) (by kernel_rfl) (by kernel_rfl) ?hQp73 (Or.inl ⟨?hwp73, ?hyp73⟩) (by assumption) ?restp73
            case hip73 => (first | (simp only [List.getElem?_toArray, List.getElem?_cons_zero, List.getElem?_cons_succ]; rfl) | rfl)
            case hQp73 => exact fun _ _ _ h => h
            case hwp73 => rfl
            case hyp73 => ((intro w hSw; go_simp); first | done | with_reducible rfl)
            try simp only [Act.put, List.setIfInBounds_toArray, List.set_cons_zero, List.set_cons_succ]
            refine wpAnyH_take (i := 9) (oi := ?oip89) (v := ?vp89) ?hip89 (by kernel_rfl) (by kernel_rfl) (by kernel_rfl) ?hQp89 (Or.inl ⟨?hwp89, ?hyp89⟩) (by assumption) ?restp89
            case hip89 => (first | (simp only [List.getElem?_toArray, List.getElem?_cons_zero, List.getElem?_cons_succ]; rfl) | rfl)
            case hQp89 => exact fun _ _ _ h => h
            case hwp89 => rfl
            case hyp89 => ((intro w hSw; go_simp); first | done | with_reducible rfl)
            try simp only [Act.put, List.setIfInBounds_toArray, List.set_cons_zero, List.set_cons_succ]
            refine wpAnyH_take (i := 4) (oi := ?oip94) (v := ?vp94) ?hip94 (by kernel_rfl) (by kernel_rfl) (by kernel_rfl) ?hQp94 (Or.inl ⟨?hwp94, ?hyp94⟩) (by assumption) ?restp94
            case hip94 => (first | (simp only [List.getElem?_toArray, List.getElem?_cons_zero, List.getElem?_cons_succ]; rfl) | rfl)
            case hQp94 => exact fun _ _ _ h => h
            case hwp94 => rfl
            case hyp94 => ((intro w hSw; go_simp); first | done | with_reducible rfl)
            try simp only [Act.put, List.setIfInBounds_toArray, List.set_cons_zero, List.set_cons_succ]
            refine wpAnyH_take (i := 10) (oi := ?oip1010) (v := ?vp1010) ?hip1010 (by kernel_rfl) (by kernel_rfl) (by kernel_rfl) ?hQp1010 (Or.inl ⟨?hwp1010, ?hyp1010⟩) (by assumption) ?restp1010
            case hip1010 => (first | (simp only [List.getElem?_toArray, List.getElem?_cons_zero, List.getElem?_cons_succ]; rfl) | rfl)
            case hQp1010 => exact fun _ _ _ h => h
            case hwp1010 => rfl
            case hyp1010 => ((intro w hSw; go_simp); first | done | with_reducible rfl)
            try simp only [Act.put, List.setIfInBounds_toArray, List.set_cons_zero, List.set_cons_succ]
            refine wpAnyH_ready (rs := [5]) (by kernel_rfl) (by simp) ?_
            refine AllReadyH.cons (o := ?op11) ?hp11 ?sp11 AllReadyH.nil
            case hp11 => (simp only [List.getElem?_toArray, List.getElem?_cons_zero, List.getElem?_cons_succ]; rfl)
            case sp11 =>
              intro K hK
              go_simp
              refine (HPM.out v0 HV0.out).mono ?_
              rintro e v1 ⟨A1, k1, rfl, hp1, -, hb1⟩
              have HP1 := Lib.hid hp1
              have HV1 := Lib.hid (below_then HV0.out hb1 HV0.out.size)
              have hS1 := HSD.out _ HV1.out
              clear hp1 hb1
              go_wp2_with fail
              refine hK.out _ _ (HSD.out _ HV1.out) (fun hp12 => ?_)
              clear hK K
              try simp only [Act.put, List.setIfInBounds_toArray, List.set_cons_zero, List.set_cons_succ]
              refine wpAnyH_ready (rs := [11]) (by kernel_rfl) (by simp) ?_
              refine AllReadyH.cons (o := ?op13) ?hp13 ?sp13 AllReadyH.nil
              case hp13 => (simp only [List.getElem?_toArray, List.getElem?_cons_zero, List.getElem?_cons_succ]; rfl)
              case sp13 =>
                intro K hK
                go_simp
                refine (HPR.out v1 HV1.out).mono ?_
                rintro e v2 ⟨A2, k2, rfl, hp2, -, hb2⟩
                have HP2 := Lib.hid hp2
                have HP1 := Lib.hid (HP1.out.below hb2)
                have HV2 := Lib.hid (below_then HV1.out hb2 HV1.out.size)
                have hS2 := HSD.out _ HV2.out
                clear hp2 hb2
                go_wp2_with fail
                refine hK.out _ _ (HSD.out _ HV2.out) (fun hp14 => ?_)
                clear hK K
                try simp only [Act.put, List.setIfInBounds_toArray, List.set_cons_zero, List.set_cons_succ]
                refine wpAnyH_ready (rs := [12]) (by kernel_rfl) (by simp) ?_
                refine AllReadyH.cons (o := ?op15) ?hp15 ?sp15 AllReadyH.nil
                case hp15 => (simp only [List.getElem?_toArray, List.getElem?_cons_zero, List.getElem?_cons_succ]; rfl)
                case sp15 =>
                  intro K hK
                  go_simp
                  have hss := r9Same_any v2 A1 A2 P.length P.length k1 k2 P P HP1.out HP2.out
                  rw [show decide (P = P) = true by simp] at hss
                  have HSM := Lib.hid hss
                  clear hss
                  refine HSM.out.mono ?_
                  rintro e v3 ⟨rfl, q3, hv3⟩
                  have HV3 : Hid (Below wr.heap.size wr v3) := Lib.hid (by rw [hv3]; exact below_drewN HV2.out q3)
                  have hS3 := HSD.out _ HV3.out
                  clear hv3
                  go_wp2_with fail
                  refine hK.out _ _ (HSD.out _ HV3.out) (fun hp16 => ?_)
                  clear hK K
                  try simp only [Act.put, List.setIfInBounds_toArray, List.set_cons_zero, List.set_cons_succ]
                  refine wpAnyH_take (i := 13) (oi := ?oip1713) (v := ?vp1713) ?hip1713 (by kernel_rfl) (by kernel_rfl) (by kernel_rfl) ?hQp1713 (Or.inl ⟨?hwp1713, ?hyp1713⟩) (by assumption) ?restp1713
                  case hip1713 => (first | (simp only [List.getElem?_toArray, List.getElem?_cons_zero, List.getElem?_cons_succ]; rfl) | rfl)
                  case hQp1713 => exact fun _ _ _ h => h
                  case hwp1713 => rfl
                  case hyp1713 => ((intro w hSw; go_simp); first | done | with_reducible rfl)
                  try simp only [Act.put, List.setIfInBounds_toArray, List.set_cons_zero, List.set_cons_succ]
                  refine wpAnyH_done (by kernel_rfl) ?_ _
                  have HBN := Lib.hid (below_then HBK.out HV3.out HBK.out.size)
                  go_wp2
                  go_roundw
                  case rel => exact ⟨k + 1, by omega, by go_num, HBN.out⟩
                  case measure => simp [intOf]; omega
          · obtain rfl : k = nT := by omega
            have hlz2 : ¬ ((k : Int) < (k : Int)) := by omega
            go_wp2
            go_ret
            exact ⟨rfl, HTK.out.hb⟩
end Go.Proofs.Ytmnofmcfkchebaa
