/- MemOne. -/
import Derived.Test.YtmnofmcfkchebaaMmLaw0
import Derived.Test.YtmnofmcfkchebaaMmOne0
import Derived.Test.YtmnofmcfkchebaaMmTwin
import Derived.Deep.RegionHeld3
import Derived.Deep.QuietTactic
import Derived.BigQuiet
import Derived.Deep.DeepCutAuto
namespace Go.Proofs.Ytmnofmcfkchebaa
open Go.RowKit Go.Maps Go.WideMaps
set_option linter.unusedSimpArgs false

set_option maxHeartbeats 16000000 in
set_option maxRecDepth 100000 in
theorem memOne_any {M : World → (Nat → Prop) → Nat → List MDoc → Prop} (hK : MemOk M) (W : World) (A : Option Addr) (n c : Nat) (X : List MDoc) (hX : OnesSee W A n X) (x : MDoc) (B C : Option Addr) (n1 n2 c1 c2 : Nat) (hB : IntsIn W B n1 x.T) (hC : IntsIn W C n2 x.S) (hc1 : n1 ≤ c1) (hc2 : n2 ≤ c2) (hn1 : n1 * 8 ≤ 140737488351232) (hn2 : n2 * 8 ≤ 140737488351232) (hd : fits64 x.doc) :
    Calls Try.prog 5 #[.slice A n c, .agg #[.int .i64 x.doc, .slice B n1 c1, .slice C n2 c2]] W fun e w' => e = .returned (.bool true) ∧ Below W.heap.size W w' := by
  obtain ⟨i0, hii, hz0, hz1, hz2⟩ := info_parts intInfoI
  have hep := eqMemNil
  have HK := Lib.hid hK
  obtain ⟨D, hD⟩ : ∃ D, D = x.doc := ⟨_, rfl⟩
  rw [← hD] at hd ⊢
  obtain ⟨W1, hW1⟩ : ∃ W1, W1 = W.alloc (.cells #[.int .i64 D, .slice B n1 c1, .slice C n2 c2] 35) := ⟨_, rfl⟩
  have hb01 : Below W.heap.size W W1 := by rw [hW1]; exact (Below.refl _ _).alloc (Nat.le_refl _) _
  have hbx : Blk W1 W.heap.size 35 #[.int .i64 D, .slice B n1 c1, .slice C n2 c2] := by rw [hW1]; exact Blk.new _ _ _
  have hgl := hbx.lt
  have HB01 := Lib.hid hb01
  have HX := Lib.hid (hX.below hb01)
  have hBT := hB.below hb01
  have hCS := hC.below hb01
  have HXI : Hid (∀ u, Below W1.heap.size W1 u → IntsIn u B n1 x.T ∧ IntsIn u C n2 x.S) := Lib.hid (fun u hu => ⟨hBT.below hu, hCS.below hu⟩)
  have HXC : Hid (∀ u, Below W1.heap.size W1 u → u.cell? ⟨W.heap.size, 0, none⟩ = some (.int .i64 D) ∧ u.cell? ⟨W.heap.size, 1, none⟩ = some (.slice B n1 c1) ∧ u.cell? ⟨W.heap.size, 2, none⟩ = some (.slice C n2 c2)) := Lib.hid (fun u hu => by
    have h := hbx.below hu hgl
    exact ⟨by simpa using h.cell 0, by simpa using h.cell 1, by simpa using h.cell 2⟩)
  have HONE : Hid (∀ u e g, Below W1.heap.size W1 u → Blk u g e #[.int .i64 D, .slice B n1 c1, .slice C n2 c2] → OnesSee u (some ⟨g, 0, none⟩) 1 [x]) := Lib.hid (fun u e g hu hb => ones_one (by rw [← hD]; exact hb) (by rw [← hD]; exact hd) (hBT.below hu) (hCS.below hu) hc1 hc2)
  have HXL : Hid (x.T.length = n1 ∧ x.S.length = n2) := Lib.hid ⟨hB.len, hC.len⟩
  have HXF : Hid ((∀ y ∈ x.T, -9223372036854775808 ≤ y ∧ y ≤ 9223372036854775807) ∧ ∀ y ∈ x.S, -9223372036854775808 ≤ y ∧ y ≤ 9223372036854775807) := Lib.hid ⟨hB.2.2.1, hC.2.2.1⟩
  have hn63 := hX.fit
  unfold maxLen at hn63
  have HH := Lib.hid (mmHead_any hK W1)
  have HD := Lib.hid hD
  have HW1 := Lib.hid hW1
  clear hX hK hB hC hb01 hbx hgl hBT hCS hD hW1
  go_enter Try.func5, Try.ntmps5
  go_wp2_with fail
  rw [← HW1.out]
  refine HH.out.mono ?_
  rintro e w1 ⟨rfl, hb1⟩
  have HB1 := Lib.hid hb1
  clear hb1 HH HW1
  go_wp2_with fail
  refine (HK.out.new w1).mono ?_
  rintro e w2 ⟨b, F1, rfl, hb2, hm2, hf2⟩
  have HB2 := Lib.hid (below_then HB1.out hb2 HB1.out.size)
  have HM2 := Lib.hid hm2
  have HF2 : Hid (MNew W1 F1) := Lib.hid (fun i hi => by have h1 := hf2 i hi; have h2 := HB1.out.size; omega)
  have HG := Lib.hid (mmGreat_any w2 A n c X (HX.out.below HB2.out))
  clear hb2 hm2 hf2
  go_wp2_with fail
  refine HG.out.mono ?_
  rintro e w3 ⟨r, rfl, ⟨q3, hw3⟩, hr⟩
  have HB3 : Hid (Below W1.heap.size W1 w3) := Lib.hid (by rw [hw3]; exact below_drewN HB2.out q3)
  have HM3 : Hid (M w3 F1 b []) := Lib.hid (HK.out.below HM2.out (by rw [hw3]; exact below_drewN (Below.refl _ w2) q3))
  clear hw3 HG
  cases r with
  | true =>
    clear hr
    go_wp2
    go_ret
    exact ⟨rfl, below_then HB01.out HB3.out HB01.out.size⟩
  | false =>
    have HBIG := Lib.hid (hr rfl)
    have hn9 : n < 9000 := by have := HBIG.out; omega
    clear hr
    obtain ⟨x0, x1, x2⟩ := HXC.out w3 HB3.out
    obtain ⟨V4, hV4⟩ : ∃ V4, V4 = w3.alloc (.cells #[.int .i64 D, .slice B n1 c1, .slice C n2 c2] 35) := ⟨_, rfl⟩
    have hb4 : Below W1.heap.size W1 V4 := by rw [hV4]; exact HB3.out.alloc HB3.out.size _
    have hm4 : M V4 F1 b [] := HK.out.below HM3.out (by rw [hV4]; exact (Below.refl _ w3).alloc (Nat.le_refl _) _)
    have HG2 := Lib.hid (mmGreat_any V4 (some ⟨w3.heap.size, 0, none⟩) 1 1 [x] (HONE.out V4 35 w3.heap.size hb4 (by rw [hV4]; exact Blk.new _ _ _)))
    have HV4 := Lib.hid hV4
    have HB4 := Lib.hid hb4
    have HM4 := Lib.hid hm4
    clear hV4 hb4 hm4
    go_wp2_with fail
    rw [← HV4.out]
    refine HG2.out.mono ?_
    rintro e w5 ⟨r, rfl, ⟨q5, hw5⟩, -⟩
    have HB5 : Hid (Below W1.heap.size W1 w5) := Lib.hid (by rw [hw5]; exact below_drewN HB4.out q5)
    have HM5 : Hid (M w5 F1 b []) := Lib.hid (HK.out.below HM4.out (by rw [hw5]; exact below_drewN (Below.refl _ V4) q5))
    clear hw5 HG2 x0 x1 x2 HV4
    cases r with
    | true =>
      go_wp2
      go_ret
      exact ⟨rfl, below_then HB01.out HB5.out HB01.out.size⟩
    | false =>
      go_wp2
      go_loopw [7] (fun iv wr => ∃ (i : Nat) (F : Nat → Prop), i ≤ n ∧ iv = .int .i64 i ∧ M wr F b (addUp X i) ∧ MNew W1 F ∧ Below W1.heap.size W1 wr) (fun iv _ => n - (intOf iv).toNat)
      case atStart => exact ⟨0, F1, by omega, rfl, HM5.out, HF2.out, HB5.out⟩
      case round =>
        obtain ⟨i, F, hi, rfl, hm, hf, hb⟩ := hrel
        have HM := Lib.hid hm
        have HF := Lib.hid hf
        have HB := Lib.hid hb
        clear hm hf hb
        rcases Nat.lt_or_ge i n with hlt | hge
        · have hlt' : (i : Int) < (n : Int) := by omega
          have p0 : (0 : Int) ≤ (i : Int) := by omega
          have hw1 : IntKind.i64.wrap ((i : Int) + 1) = (i : Int) + 1 := IntWalk.i64_in _ (by omega)
          obtain ⟨pa, xi, Bi, cB, Ci, cC, rfl, -, -, -, hcells, hadd⟩ := law_add HK.out HX.out HBIG.out HM.out HF.out HB.out hlt
          obtain ⟨Di, hDi⟩ : ∃ Di, Di = xi.doc := ⟨_, rfl⟩
          obtain ⟨mT, hmT⟩ : ∃ mT, mT = xi.T.length := ⟨_, rfl⟩
          obtain ⟨mS, hmS⟩ : ∃ mS, mS = xi.S.length := ⟨_, rfl⟩
          obtain ⟨E, hE⟩ : ∃ E, E = mErr (addUp X i) xi := ⟨_, rfl⟩
          rw [← hDi] at hcells hadd
          rw [← hmT] at hcells hadd
          rw [← hmS] at hcells hadd
          rw [← hE] at hadd
          have HSC : Hid (∀ u, Below W1.heap.size W1 u → u.cell? (pa.add (i * 3)) = some (.int .i64 Di) ∧ u.cell? ⟨(pa.add (i * 3)).block, (pa.add (i * 3)).off + 1, none⟩ = some (.slice Bi mT cB) ∧ u.cell? ⟨(pa.add (i * 3)).block, (pa.add (i * 3)).off + 2, none⟩ = some (.slice Ci mS cC)) := Lib.hid (fun u hu => ⟨(hcells u hu).1, (hcells u hu).2.1, (hcells u hu).2.2.1⟩)
          have HAD := Lib.hid hadd
          clear hcells hadd hDi hmT hmS hE
          obtain ⟨wo, hwo⟩ : ∃ zz, zz = wr := ⟨_, rfl⟩
          subst hwo
          go_upto_region 8 with fail
          refine wp_region_held_drew (S := fun w' => w'.cell? (pa.add (i * 3)) = some (.int .i64 Di) ∧ w'.cell? ⟨(pa.add (i * 3)).block, (pa.add (i * 3)).off + 1, none⟩ = some (.slice Bi mT cB) ∧ w'.cell? ⟨(pa.add (i * 3)).block, (pa.add (i * 3)).off + 2, none⟩ = some (.slice Ci mS cC)) (by kernel_rfl) (HSC.out wo HB.out) (fun hHeld => ?_)
          obtain ⟨u0, hu0⟩ : ∃ zz, zz = wo.drew := ⟨_, rfl⟩
          rw [← hu0] at hHeld ⊢
          have Hu0 : Hid (Below wo.heap.size wo u0) := Lib.hid (by rw [hu0]; exact (Below.refl _ wo).drew)
          clear hu0
          refine wpAnyH_take (i := 0) (oi := ?oia10) (v := ?va10) ?hia10 (by kernel_rfl) (by kernel_rfl) (by kernel_rfl) ?hQa10 (Or.inl ⟨?hwa10, ?hya10⟩) (by assumption) ?resta10
          case hia10 => (first | (simp only [List.getElem?_toArray, List.getElem?_cons_zero, List.getElem?_cons_succ]; rfl) | rfl)
          case hQa10 => exact fun _ _ _ h => h
          case hwa10 => rfl
          case hya10 => ((intro w hSw; go_simp); first | done | with_reducible rfl)
          try simp only [Act.put, List.setIfInBounds_toArray, List.set_cons_zero, List.set_cons_succ]
          refine wpAnyH_take (i := 1) (oi := ?oia21) (v := ?va21) ?hia21 (by kernel_rfl) (by kernel_rfl) (by kernel_rfl) ?hQa21 (Or.inl ⟨?hwa21, ?hya21⟩) (by assumption) ?resta21
          case hia21 => (first | (simp only [List.getElem?_toArray, List.getElem?_cons_zero, List.getElem?_cons_succ]; rfl) | rfl)
          case hQa21 => exact fun _ _ _ h => h
          case hwa21 => rfl
          case hya21 => ((intro w hSw; go_simp); first | done | with_reducible rfl)
          try simp only [Act.put, List.setIfInBounds_toArray, List.set_cons_zero, List.set_cons_succ]
          refine wpAnyH_take (i := 2) (oi := ?oia32) (v := ?va32) ?hia32 (by kernel_rfl) (by kernel_rfl) (by kernel_rfl) ?hQa32 (Or.inl ⟨?hwa32, ?hya32⟩) (by assumption) ?resta32
          case hia32 => (first | (simp only [List.getElem?_toArray, List.getElem?_cons_zero, List.getElem?_cons_succ]; rfl) | rfl)
          case hQa32 => exact fun _ _ _ h => h
          case hwa32 => rfl
          case hya32 => ((intro w hSw; go_simp); first | done | with_reducible rfl)
          try simp only [Act.put, List.setIfInBounds_toArray, List.set_cons_zero, List.set_cons_succ]
          refine wpAnyH_take (i := 6) (oi := ?oia46) (v := ?va46) ?hia46 (by kernel_rfl) (by kernel_rfl) (by kernel_rfl) ?hQa46 (Or.inl ⟨?hwa46, ?hya46⟩) (by assumption) ?resta46
          case hia46 => (first | (simp only [List.getElem?_toArray, List.getElem?_cons_zero, List.getElem?_cons_succ]; rfl) | rfl)
          case hQa46 => exact fun _ _ _ h => h
          case hwa46 => rfl
          case hya46 => ((intro w hSw; go_simp); first | done | with_reducible rfl)
          try simp only [Act.put, List.setIfInBounds_toArray, List.set_cons_zero, List.set_cons_succ]
          refine wpAnyH_take (i := 7) (oi := ?oia57) (v := ?va57) ?hia57 (by kernel_rfl) (by kernel_rfl) (by kernel_rfl) ?hQa57 (Or.inl ⟨?hwa57, ?hya57⟩) (by assumption) ?resta57
          case hia57 => (first | (simp only [List.getElem?_toArray, List.getElem?_cons_zero, List.getElem?_cons_succ]; rfl) | rfl)
          case hQa57 => exact fun _ _ _ h => h
          case hwa57 => rfl
          case hya57 => ((intro w hSw; go_simp); first | done | with_reducible rfl)
          try simp only [Act.put, List.setIfInBounds_toArray, List.set_cons_zero, List.set_cons_succ]
          refine wpAnyH_take (i := 11) (oi := ?oia611) (v := ?va611) ?hia611 (by kernel_rfl) (by kernel_rfl) (by kernel_rfl) ?hQa611 (Or.inl ⟨?hwa611, ?hya611⟩) (by assumption) ?resta611
          case hia611 => (first | (simp only [List.getElem?_toArray, List.getElem?_cons_zero, List.getElem?_cons_succ]; rfl) | rfl)
          case hQa611 => exact fun _ _ _ h => h
          case hwa611 => rfl
          case hya611 => ((intro w hSw; go_simp); first | done | with_reducible rfl)
          try simp only [Act.put, List.setIfInBounds_toArray, List.set_cons_zero, List.set_cons_succ]
          refine wpAnyH_take (i := 12) (oi := ?oia712) (v := ?va712) ?hia712 (by kernel_rfl) (by kernel_rfl) (by kernel_rfl) ?hQa712 (Or.inl ⟨?hwa712, ?hya712⟩) (by assumption) ?resta712
          case hia712 => (first | (simp only [List.getElem?_toArray, List.getElem?_cons_zero, List.getElem?_cons_succ]; rfl) | rfl)
          case hQa712 => exact fun _ _ _ h => h
          case hwa712 => rfl
          case hya712 => ((intro w hSw; go_simp); first | done | with_reducible rfl)
          try simp only [Act.put, List.setIfInBounds_toArray, List.set_cons_zero, List.set_cons_succ]
          refine wpAnyH_take (i := 3) (oi := ?oia83) (v := ?va83) ?hia83 (by kernel_rfl) (by kernel_rfl) (by kernel_rfl) ?hQa83 (Or.inl ⟨?hwa83, ?hya83⟩) (by assumption) ?resta83
          case hia83 => (first | (simp only [List.getElem?_toArray, List.getElem?_cons_zero, List.getElem?_cons_succ]; rfl) | rfl)
          case hQa83 => exact fun _ _ _ h => h
          case hwa83 => rfl
          case hya83 => ((intro w hSw; go_simp); first | done | with_reducible rfl)
          try simp only [Act.put, List.setIfInBounds_toArray, List.set_cons_zero, List.set_cons_succ]
          refine wpAnyH_take (i := 8) (oi := ?oia98) (v := ?va98) ?hia98 (by kernel_rfl) (by kernel_rfl) (by kernel_rfl) ?hQa98 (Or.inl ⟨?hwa98, ?hya98⟩) (by assumption) ?resta98
          case hia98 => (first | (simp only [List.getElem?_toArray, List.getElem?_cons_zero, List.getElem?_cons_succ]; rfl) | rfl)
          case hQa98 => exact fun _ _ _ h => h
          case hwa98 => rfl
          case hya98 => ((intro w hSw; go_simp); first | done | with_reducible rfl)
          try simp only [Act.put, List.setIfInBounds_toArray, List.set_cons_zero, List.set_cons_succ]
          refine wpAnyH_take (i := 13) (oi := ?oia1013) (v := ?va1013) ?hia1013 (by kernel_rfl) (by kernel_rfl) (by kernel_rfl) ?hQa1013 (Or.inl ⟨?hwa1013, ?hya1013⟩) (by assumption) ?resta1013
          case hia1013 => (first | (simp only [List.getElem?_toArray, List.getElem?_cons_zero, List.getElem?_cons_succ]; rfl) | rfl)
          case hQa1013 => exact fun _ _ _ h => h
          case hwa1013 => rfl
          case hya1013 => ((intro w hSw; go_simp); first | done | with_reducible rfl)
          try simp only [Act.put, List.setIfInBounds_toArray, List.set_cons_zero, List.set_cons_succ]
          refine wpAnyH_take (i := 4) (oi := ?oia114) (v := ?va114) ?hia114 (by kernel_rfl) (by kernel_rfl) (by kernel_rfl) ?hQa114 (Or.inl ⟨?hwa114, ?hya114⟩) (by assumption) ?resta114
          case hia114 => (first | (simp only [List.getElem?_toArray, List.getElem?_cons_zero, List.getElem?_cons_succ]; rfl) | rfl)
          case hQa114 => exact fun _ _ _ h => h
          case hwa114 => rfl
          case hya114 => ((intro w hSw; go_simp); first | done | with_reducible rfl)
          try simp only [Act.put, List.setIfInBounds_toArray, List.set_cons_zero, List.set_cons_succ]
          refine wpAnyH_take (i := 9) (oi := ?oia129) (v := ?va129) ?hia129 (by kernel_rfl) (by kernel_rfl) (by kernel_rfl) ?hQa129 (Or.inl ⟨?hwa129, ?hya129⟩) (by assumption) ?resta129
          case hia129 => (first | (simp only [List.getElem?_toArray, List.getElem?_cons_zero, List.getElem?_cons_succ]; rfl) | rfl)
          case hQa129 => exact fun _ _ _ h => h
          case hwa129 => rfl
          case hya129 => ((intro w hSw; go_simp); first | done | with_reducible rfl)
          try simp only [Act.put, List.setIfInBounds_toArray, List.set_cons_zero, List.set_cons_succ]
          refine wpAnyH_take (i := 14) (oi := ?oia1314) (v := ?va1314) ?hia1314 (by kernel_rfl) (by kernel_rfl) (by kernel_rfl) ?hQa1314 (Or.inl ⟨?hwa1314, ?hya1314⟩) (by assumption) ?resta1314
          case hia1314 => (first | (simp only [List.getElem?_toArray, List.getElem?_cons_zero, List.getElem?_cons_succ]; rfl) | rfl)
          case hQa1314 => exact fun _ _ _ h => h
          case hwa1314 => rfl
          case hya1314 => ((intro w hSw; go_simp); first | done | with_reducible rfl)
          try simp only [Act.put, List.setIfInBounds_toArray, List.set_cons_zero, List.set_cons_succ]
          refine wpAnyH_take (i := 5) (oi := ?oia145) (v := ?va145) ?hia145 (by kernel_rfl) (by kernel_rfl) (by kernel_rfl) ?hQa145 (Or.inl ⟨?hwa145, ?hya145⟩) (by assumption) ?resta145
          case hia145 => (first | (simp only [List.getElem?_toArray, List.getElem?_cons_zero, List.getElem?_cons_succ]; rfl) | rfl)
          case hQa145 => exact fun _ _ _ h => h
          case hwa145 => rfl
          case hya145 => ((intro w hSw; go_simp); first | done | with_reducible rfl)
          try simp only [Act.put, List.setIfInBounds_toArray, List.set_cons_zero, List.set_cons_succ]
          refine wpAnyH_take (i := 10) (oi := ?oia1510) (v := ?va1510) ?hia1510 (by kernel_rfl) (by kernel_rfl) (by kernel_rfl) ?hQa1510 (Or.inl ⟨?hwa1510, ?hya1510⟩) (by assumption) ?resta1510
          case hia1510 => (first | (simp only [List.getElem?_toArray, List.getElem?_cons_zero, List.getElem?_cons_succ]; rfl) | rfl)
          case hQa1510 => exact fun _ _ _ h => h
          case hwa1510 => rfl
          case hya1510 => ((intro w hSw; go_simp); first | done | with_reducible rfl)
          try simp only [Act.put, List.setIfInBounds_toArray, List.set_cons_zero, List.set_cons_succ]
          refine wpAnyH_take (i := 15) (oi := ?oia1615) (v := ?va1615) ?hia1615 (by kernel_rfl) (by kernel_rfl) (by kernel_rfl) ?hQa1615 (Or.inl ⟨?hwa1615, ?hya1615⟩) (by assumption) ?resta1615
          case hia1615 => (first | (simp only [List.getElem?_toArray, List.getElem?_cons_zero, List.getElem?_cons_succ]; rfl) | rfl)
          case hQa1615 => exact fun _ _ _ h => h
          case hwa1615 => rfl
          case hya1615 => ((intro w hSw; go_simp); first | done | with_reducible rfl)
          try simp only [Act.put, List.setIfInBounds_toArray, List.set_cons_zero, List.set_cons_succ]
          refine wpAnyH_ready (rs := [16]) (by kernel_rfl) (by simp) ?_
          refine AllReadyH.cons (o := ?oa17) ?ha17 ?sa17 AllReadyH.nil
          case ha17 => (simp only [List.getElem?_toArray, List.getElem?_cons_zero, List.getElem?_cons_succ]; rfl)
          case sa17 =>
            intro K hK
            go_simp
            refine (HAD.out u0 Hu0.out).mono ?_
            rintro e u1 ⟨rfl, F2, hm2, hf2, hb2, -⟩
            have HMn := Lib.hid hm2
            have HFn := Lib.hid hf2
            have HBn := Lib.hid hb2
            clear hm2 hf2 hb2
            have hSa := HSC.out _ HBn.out
            go_wp2_with fail
            refine hK.out _ _ (HSC.out _ HBn.out) (fun ha18 => ?_)
            clear hK K
            try simp only [Act.put, List.setIfInBounds_toArray, List.set_cons_zero, List.set_cons_succ]
            refine wpAnyH_done (by kernel_rfl) ?_ _
            go_wp2
            go_roundw
            case rel => exact ⟨i + 1, F2, by omega, by go_num, HMn.out, HFn.out, HBn.out⟩
            case measure => simp [intOf]; omega
        · obtain rfl : i = n := by omega
          have hlz : ¬ ((i : Int) < (i : Int)) := by omega
          obtain ⟨hw, hto⟩ := adds_ok HX.out HBIG.out i (Nat.le_refl _)
          obtain ⟨L, hL⟩ : ∃ L, L = addUp X i := ⟨_, rfl⟩
          rw [← hL] at HM hw hto
          have HWF := Lib.hid hw
          have HTO := Lib.hid hto
          have HTN : Hid (totT L ≤ 9000) := Lib.hid (by have h1 := big_tot (X := X) i; rw [← hL] at h1; have h2 := HBIG.out; omega)
          have hmn := HK.out.many HM.out hw
          obtain ⟨nL, hnL⟩ : ∃ nL, nL = L.length := ⟨_, rfl⟩
          rw [← hnL] at hmn
          have hnl4 : nL ≤ 4096 := by rw [hnL]; exact hw.few
          have HNL := Lib.hid hnL
          have HMN := Lib.hid hmn
          clear hw hto hL hnL hmn
          obtain ⟨wo, hwo⟩ : ∃ zz, zz = wr := ⟨_, rfl⟩
          subst hwo
          go_wp2_with fail
          refine HMN.out.mono ?_
          rintro e w6 ⟨rfl, hb6⟩
          have HB6 := Lib.hid (below_then HB.out hb6 HB.out.size)
          have HM6 := Lib.hid (HK.out.below HM.out hb6)
          clear hb6 HMN
          have hba : Below w6.heap.size w6 (w6.alloc (.cells #[] 3)) := (Below.refl _ w6).alloc (Nat.le_refl _) _
          obtain ⟨-, xa1, -⟩ := HXC.out _ (below_then HB6.out hba HB6.out.size)
          have HXT := Lib.hid ((HXI.out _ (below_then HB6.out hba HB6.out.size)).1.2.1)
          clear hba
          have hlF := HK.out.lt HM6.out
          go_upto_region 11 with (at_builtin; refine wpList_append_src _ rfl (.tmp 62) (.tmp 64) 33 rfl w6.heap.size 3 i0 (.int .i64 0) 8 Try.underlying33 hii hz0 hz1 hz2 rfl _ 0 [] rfl (World.ownsRow_made w6 #[] 0 (Nat.le_refl _) (Nat.zero_le _) rfl) B n1 c1 (x.T.map i64V) rfl HXT.out (i64s_one _) (by unfold maxLen; omega) (by omega) (by simp) ?_; intro v7 w7 hown hgrow hloc; rw [Nat.zero_add, List.nil_append] at hown; have HR7 := Lib.hid hown; have hb67 : Below w6.heap.size w6 w7 := (((Below.refl _ w6).alloc (Nat.le_refl _) (.cells #[] 3)).grown hgrow (by simp) (fun k e => by cases e; exact Nat.le_refl _)); have HB67 := Lib.hid hb67; clear hown hgrow hloc hb67)
          obtain ⟨A7, c7, rfl⟩ := own_slice HR7.out
          have HB7 := Lib.hid (below_then HB6.out HB67.out HB6.out.size)
          have hbb : Below w7.heap.size w7 (w7.alloc (.cells #[] 3)) := (Below.refl _ w7).alloc (Nat.le_refl _) _
          obtain ⟨-, -, xb2⟩ := HXC.out _ (below_then HB7.out hbb HB7.out.size)
          have HXS := Lib.hid ((HXI.out _ (below_then HB7.out hbb HB7.out.size)).2.2.1)
          clear hbb xa1 HXT
          go_upto_region 12 with (at_builtin; refine wpList_append_src _ rfl (.tmp 66) (.tmp 68) 33 rfl w7.heap.size 3 i0 (.int .i64 0) 8 Try.underlying33 hii hz0 hz1 hz2 rfl _ 0 [] rfl (World.ownsRow_made w7 #[] 0 (Nat.le_refl _) (Nat.zero_le _) rfl) C n2 c2 (x.S.map i64V) rfl HXS.out (i64s_one _) (by unfold maxLen; omega) (by omega) (by simp) ?_; intro v8 w8 hown hgrow hloc; rw [Nat.zero_add, List.nil_append] at hown; have HR8 := Lib.hid hown; have hb78 : Below w7.heap.size w7 w8 := (((Below.refl _ w7).alloc (Nat.le_refl _) (.cells #[] 3)).grown hgrow (by simp) (fun k e => by cases e; exact Nat.le_refl _)); have HB78 := Lib.hid hb78; clear hown hgrow hloc hb78)
          obtain ⟨A8, c8, rfl⟩ := own_slice HR8.out
          have HB8 := Lib.hid (below_then HB7.out HB78.out HB7.out.size)
          have hr78 : w8.ownsRow w6.heap.size 3 1 (.slice A7 n1 c7) n1 (x.T.map i64V) := ownsRow_block HR7.out (fun g e => HB78.out.block g (HR7.out.lt g e).2)
          have HR78 := Lib.hid hr78
          have HA7 : Hid (∀ ad, A7 = some ad → w6.heap.size ≤ ad.block ∧ ad.block < w7.heap.size) := Lib.hid (fun ad e => HR7.out.lt ad.block (by rw [e]; rfl))
          have HA8 : Hid (∀ ad, A8 = some ad → w7.heap.size ≤ ad.block ∧ ad.block < w8.heap.size) := Lib.hid (fun ad e => HR8.out.lt ad.block (by rw [e]; rfl))
          have hm8 := HK.out.below HM6.out (below_then HB67.out HB78.out HB67.out.size)
          have hca := HK.out.add hm8 HWF.out HTO.out x A7 A8 n1 n2 c7 c8 (IntsIn.own hr78 (by unfold maxLen; omega) HXF.out.1) (IntsIn.own HR8.out (by unfold maxLen; omega) HXF.out.2) (rowCap_le hr78) (rowCap_le HR8.out) (fun ad e _ hf => by have h1 := HA7.out ad e; have h2 := hlF _ hf; omega) (fun ad e _ hf => by have h1 := HA8.out ad e; have h2 := hlF _ hf; have h3 := HB67.out.size; omega) (by rw [← HD.out]; exact hd)
          obtain ⟨E, hE⟩ : ∃ E, E = mErr L x := ⟨_, rfl⟩
          obtain ⟨L2, hL2⟩ : ∃ L2, L2 = mAdd L x := ⟨_, rfl⟩
          unfold AddOut at hca
          rw [← HD.out, ← hE, ← hL2] at hca
          have HCA := Lib.hid hca
          have HEE := Lib.hid hE
          have HL2 := Lib.hid hL2
          have HLF := Lib.hid hlF
          obtain ⟨y0, -, -⟩ := HXC.out _ HB8.out
          clear hr78 hm8 hca hE hL2 hlF xb2 HXS
          go_wp2_with fail
          refine HCA.out.mono ?_
          rintro e w9 ⟨rfl, F9, hm9, hk9, hf9⟩
          have HB9 := Lib.hid (below_mine HB8.out hk9 HF.out)
          have HM9 := Lib.hid hm9
          have HF9 : Hid (∀ i, F9 i → i < w6.heap.size ∨ w8.heap.size ≤ i) := Lib.hid (fun i hi => (hf9 i hi).imp (HLF.out i) id)
          have hn7 : NumRow w9 w6.heap.size A7 n1 := (NumRow.of HR78.out HXF.out.1).below (fun i h1 h2 => hk9.block i h2 (fun hf => by have := HLF.out i hf; omega)) hk9.size
          have hn8 : NumRow w9 w7.heap.size A8 n2 := (NumRow.of HR8.out HXF.out.2).below (fun i h1 h2 => hk9.block i h2 (fun hf => by have := HLF.out i hf; have := HB67.out.size; omega)) hk9.size
          have HN7 := Lib.hid hn7
          have HN8 := Lib.hid hn8
          have hs67 := HB67.out.size
          have hs78 := HB78.out.size
          clear hm9 hk9 hf9 hn7 hn8 HCA y0
          go_wp2
          go_loopw [12] (fun iv wr => ∃ k : Nat, k ≤ n1 ∧ iv = .int .i64 k ∧ M wr F9 b L2 ∧ NumRow wr w6.heap.size A7 n1 ∧ NumRow wr w7.heap.size A8 n2 ∧ Below W1.heap.size W1 wr) (fun iv _ => n1 - (intOf iv).toNat)
          case atStart => exact ⟨0, by omega, rfl, HM9.out, HN7.out, HN8.out, HB9.out⟩
          case round =>
            obtain ⟨k, hk, rfl, hm, hn, ho, hb⟩ := hrel
            clear HM HB
            have HM := Lib.hid hm
            have HN := Lib.hid hn
            have HO := Lib.hid ho
            have HB := Lib.hid hb
            clear hm hn ho hb
            rcases Nat.lt_or_ge k n1 with hkl | hkg
            · have hkl' : (k : Int) < (n1 : Int) := by omega
              have q0 : (0 : Int) ≤ (k : Int) := by omega
              have hw2 : IntKind.i64.wrap ((k : Int) + 1) = (k : Int) + 1 := IntWalk.i64_in _ (by omega)
              obtain ⟨g, cur, y, hA, hge, hgl, hblk, hcur, hy1, hy2⟩ := HN.out k hkl
              subst hA
              have e1 : (⟨g, 0, none⟩ : Addr).add k = ⟨g, k, none⟩ := addr_at g k
              have y0 := hblk.cell k
              rw [hcur] at y0
              have yf := hblk.frozen k
              obtain ⟨z, hz, hz1, hz2⟩ : ∃ z, IntKind.i64.wrap (y + 1) = z ∧ -9223372036854775808 ≤ z ∧ z ≤ 9223372036854775807 := by
                by_cases h : y = 9223372036854775807
                · subst h
                  exact ⟨-9223372036854775808, by decide, by omega, by omega⟩
                · exact ⟨y + 1, IntWalk.i64_in _ (by omega), by omega, by omega⟩
              have hgb := HA7.out _ rfl
              simp only at hgb
              have HNX := Lib.hid (HN.out.set ⟨hz1, hz2⟩ hkl)
              have HOX := Lib.hid (HO.out.below (w' := wr.setCell ⟨g, k, none⟩ (.int .i64 z)) (fun i h1 _ => Below.heap_setCell wr ⟨g, k, none⟩ _ i (by simp only; omega)) (by rw [size_setCell']; exact Nat.le_refl _))
              have HMX := Lib.hid (HK.out.keep (w' := wr.setCell ⟨g, k, none⟩ (.int .i64 z)) HM.out (fun i hi => Below.heap_setCell wr ⟨g, k, none⟩ _ i (by have := HF9.out i hi; simp only; omega)) (by rw [size_setCell']; exact Nat.le_refl _))
              have HBX := Lib.hid (HB.out.setCell (p := ⟨g, k, none⟩) (by have := HB6.out.size; simp only; omega) (.int .i64 z))
              clear hgb hblk hcur hz1 hz2 hy1 hy2 hge hgl
              go_wp2
              go_roundw
              case rel => exact ⟨k + 1, by omega, by go_num, HMX.out, HNX.out, HOX.out, HBX.out⟩
              case measure => simp [intOf]; omega
            · obtain rfl : n1 = k := by omega
              have hlz1 : ¬ ((n1 : Int) < (n1 : Int)) := by omega
              have HM10 := HM
              have HO10 := HO
              have HB10 := HB
              clear HM HN HO HB
              obtain ⟨w10, hw10⟩ : ∃ zz, zz = wr := ⟨_, rfl⟩
              subst hw10
              go_wp2
              go_loopw [13] (fun iv wr => ∃ k : Nat, k ≤ n2 ∧ iv = .int .i64 k ∧ M wr F9 b L2 ∧ NumRow wr w7.heap.size A8 n2 ∧ Below W1.heap.size W1 wr) (fun iv _ => n2 - (intOf iv).toNat)
              case atStart => exact ⟨0, by omega, rfl, HM10.out, HO10.out, HB10.out⟩
              case round =>
                obtain ⟨k, hk, rfl, hm, hn, hb⟩ := hrel
                have HM := Lib.hid hm
                have HN := Lib.hid hn
                have HB := Lib.hid hb
                clear hm hn hb
                rcases Nat.lt_or_ge k n2 with hkl | hkg
                · have hkl' : (k : Int) < (n2 : Int) := by omega
                  have q0 : (0 : Int) ≤ (k : Int) := by omega
                  have hw2 : IntKind.i64.wrap ((k : Int) + 1) = (k : Int) + 1 := IntWalk.i64_in _ (by omega)
                  obtain ⟨g, cur, y, hA, hge, hgl, hblk, hcur, hy1, hy2⟩ := HN.out k hkl
                  subst hA
                  have e1 : (⟨g, 0, none⟩ : Addr).add k = ⟨g, k, none⟩ := addr_at g k
                  have y0 := hblk.cell k
                  rw [hcur] at y0
                  have yf := hblk.frozen k
                  obtain ⟨z, hz, hz1, hz2⟩ : ∃ z, IntKind.i64.wrap (y + 1) = z ∧ -9223372036854775808 ≤ z ∧ z ≤ 9223372036854775807 := by
                    by_cases h : y = 9223372036854775807
                    · subst h
                      exact ⟨-9223372036854775808, by decide, by omega, by omega⟩
                    · exact ⟨y + 1, IntWalk.i64_in _ (by omega), by omega, by omega⟩
                  have hgb := HA8.out _ rfl
                  simp only at hgb
                  have HNX := Lib.hid (HN.out.set ⟨hz1, hz2⟩ hkl)
                  
                  have HMX := Lib.hid (HK.out.keep (w' := wr.setCell ⟨g, k, none⟩ (.int .i64 z)) HM.out (fun i hi => Below.heap_setCell wr ⟨g, k, none⟩ _ i (by have := HF9.out i hi; simp only; omega)) (by rw [size_setCell']; exact Nat.le_refl _))
                  have HBX := Lib.hid (HB.out.setCell (p := ⟨g, k, none⟩) (by have := HB6.out.size; simp only; omega) (.int .i64 z))
                  clear hgb hblk hcur hz1 hz2 hy1 hy2 hge hgl
                  go_wp2
                  go_roundw
                  case rel => exact ⟨k + 1, by omega, by go_num, HMX.out, HNX.out, HBX.out⟩
                  case measure => simp [intOf]; omega
                · obtain rfl : n2 = k := by omega
                  have hlz2 : ¬ ((n2 : Int) < (n2 : Int)) := by omega
                  clear HN HN7 HN8 HO10 HM10 HB10
                  rcases Decidable.em (E = 0) with rfl | hE0
                  · have hok := mErr_ok HEE.out.symm
                    have hL2e : L2 = L ++ [x] := by rw [HL2.out]; exact mAdd_yes HEE.out.symm
                    have hwf2 : MWF L2 := by rw [HL2.out]; exact HWF.out.add ⟨fun y hy => (HXF.out.1 y hy).2, fun y hy => (HXF.out.2 y hy).2⟩
                    have hto2 : totT L2 ≤ 20000 := by
                      have h1 : totT [x] = x.T.length := by simp [totT]
                      have h2 := HTN.out
                      rw [hL2e, totT_append, h1]
                      omega
                    have hsl : x.S.length = x.T.length := hok.2.2.2.2.1
                    have hk1 := HXL.out
                    obtain rfl : n1 = n2 := by omega
                    have HL2E := Lib.hid hL2e
                    have HWF2 := Lib.hid hwf2
                    have HTO2 := Lib.hid hto2
                    have HSL := Lib.hid hsl
                    clear hok hL2e hwf2 hto2 hsl hk1
                    have HM10 := HM
                    have HB10 := HB
                    clear HM HB
                    obtain ⟨w10, hw10⟩ : ∃ zz, zz = wr := ⟨_, rfl⟩
                    subst hw10
                    go_wp2
                    go_loopw [14] (fun iv wr => ∃ i : Nat, i ≤ n1 ∧ iv = .int .i64 i ∧ M wr F9 b L2 ∧ Below W1.heap.size W1 wr) (fun iv _ => n1 - (intOf iv).toNat)
                    case atStart => exact ⟨0, by omega, rfl, HM10.out, HB10.out⟩
                    case round =>
                      obtain ⟨j, hj, rfl, hm, hb⟩ := hrel
                      have HM := Lib.hid hm
                      have HB := Lib.hid hb
                      obtain ⟨x0, x1, x2⟩ := HXC.out _ hb
                      clear hm hb
                      rcases Nat.lt_or_ge j n1 with hjl | hjg
                      · have hjl' : (j : Int) < (n1 : Int) := by omega
                        have q0 : (0 : Int) ≤ (j : Int) := by omega
                        have hw3 : IntKind.i64.wrap ((j : Int) + 1) = (j : Int) + 1 := IntWalk.i64_in _ (by omega)
                        obtain ⟨pt, y, hpt, hy, y0, hy1, hy2⟩ := (HXI.out _ HB.out).1.at j hjl
                        subst hpt
                        have hyd : x.T.getD j 0 = y := by rw [List.getD_eq_getElem?_getD, hy]; rfl
                        obtain ⟨P0, hP0⟩ := posts_last (L := L) (x := x) (i := j) (by have := HXL.out.1; omega)
                        have hpt := pos_there (x := x) (i := j) (by have := HXL.out.1; omega)
                        rw [← HL2E.out, hyd] at hP0
                        rw [hyd] at hpt
                        have hcp := HK.out.posts HM.out HWF2.out HTO2.out y (by unfold fits64; omega)
                        rw [hP0, ← HD.out] at hcp
                        have HSPOT : Hid (∀ (k : Nat) (p : Int × Int), (mSpots x y)[k]? = some p → p.1 = (j : Int) → p.2 = x.S.getD j 0) := Lib.hid (fun k p h e => spot_at h e)
                        obtain ⟨s, hs⟩ : ∃ s, s = mSpots x y := ⟨_, rfl⟩
                        have hsl2 : s.length ≤ n1 := by
                          rw [hs]
                          have h1 := spotUp_len x y x.T.length
                          have h2 := HXL.out.1
                          unfold mSpots
                          omega
                        rw [← hs] at hcp hpt HSPOT
                        have HCP := Lib.hid hcp
                        have HPT := Lib.hid hpt
                        clear hy hyd hP0 hpt hcp hs hy1 hy2
                        go_wp2_with fail
                        refine HCP.out.mono ?_
                        rintro e w11 ⟨A11, c11, rfl, hp11, hpc, hb11⟩
                        obtain ⟨np, hnp⟩ : ∃ np, np = P0.length := ⟨_, rfl⟩
                        obtain ⟨nz, hnz⟩ : ∃ nz, nz = np + 1 := ⟨_, rfl⟩
                        have hpl : (P0 ++ [(D, s)]).length = nz := by simp [hnp, hnz]
                        rw [hpl] at hp11 hpc ⊢
                        have HB11 := Lib.hid (below_then HB.out hb11 HB.out.size)
                        have HM11 := Lib.hid (HK.out.below HM.out hb11)
                        obtain ⟨pp, xx, SA, sc, hpp, hxx, -, r0, r1, hsc, hsp⟩ := hp11.at np (by omega)
                        subst hpp
                        rw [List.getElem?_append_right (by omega), show np - P0.length = 0 by omega] at hxx
                        obtain rfl : (D, s) = xx := Option.some.inj hxx
                        simp only at r0 r1 hsc hsp
                        obtain ⟨ns, hns⟩ : ∃ ns, ns = s.length := ⟨_, rfl⟩
                        rw [← hns] at r1 hsc hsp
                        have hsn : ns ≤ n1 := by rw [hns]; exact hsl2
                        have hnpm := hp11.fit
                        unfold maxLen at hnpm
                        rw [← hns] at HPT
                        have HSP := Lib.hid hsp
                        have hwq : IntKind.i64.wrap ((nz : Int) - 1) = (np : Int) := by rw [IntWalk.i64_in _ (by omega)]; omega
                        have z0 : ((nz : Int) == 0) = false := by simp; omega
                        have q1 : (0 : Int) ≤ (np : Int) := by omega
                        have q2 : (np : Int) < (nz : Int) := by omega
                        obtain ⟨z10, z11, z12⟩ := HXC.out _ HB11.out
                        have z10q : ∀ q, (w11.drewN q).cell? ⟨W.heap.size, 0, none⟩ = some (.int .i64 D) := fun q => z10
                        have r0q : ∀ q, (w11.drewN q).cell? (pp.add (np * 2)) = some (.int .i64 D) := fun q => r0
                        clear hsl2 hp11 hpc hpl hnp hnz hb11 hxx hns hsp HCP x0 x1 x2 y0 z11
                        go_upto_region 27 with fail
                        go_quiet (fail)
                        go_wp2
                        go_loopw [17, 18] (fun v kv wi => ∃ (k q : Nat) (z : Bool), k ≤ ns ∧ v = .bool z ∧ kv = .int .i64 k ∧ z = posUp s j k ∧ wi = w11.drewN q) (fun _ kv _ => ns - (intOf kv).toNat)
                        case atStart => exact ⟨0, _, false, by omega, rfl, rfl, rfl, rfl⟩
                        case round =>
                          obtain ⟨k, q, z, hk, rfl, rfl, hz, hwr⟩ := hrel
                          have HZ := Lib.hid hz
                          have HWR := Lib.hid hwr
                          clear hz hwr z10q r0q
                          rcases Nat.lt_or_ge k ns with hkl | hkg
                          · have hkl' : (k : Int) < (ns : Int) := by omega
                            have q3 : (0 : Int) ≤ (k : Int) := by omega
                            have hw4 : IntKind.i64.wrap ((k : Int) + 1) = (k : Int) + 1 := IntWalk.i64_in _ (by omega)
                            obtain ⟨ps, ⟨p1, p2⟩, hps, hpk, s0, s1, -, -⟩ := HSP.out.at k hkl
                            subst hps
                            have HPU : Hid (posUp s j (k + 1) = (z || (p1 == (j : Int)))) := Lib.hid (by rw [posUp, ← HZ.out, List.getD_eq_getElem?_getD, hpk]; rfl)
                            have HP2 : Hid (p1 = (j : Int) → p2 = x.S.getD j 0) := Lib.hid (HSPOT.out k _ hpk)
                            have s0q : ∀ k', (wr.drewN k').cell? (ps.add (k * 2)) = some (.int .i64 p1) := fun k' => by rw [HWR.out]; exact s0
                            have s1q : ∀ k', (wr.drewN k').cell? ⟨(ps.add (k * 2)).block, (ps.add (k * 2)).off + 1, none⟩ = some (.int .i64 p2) := fun k' => by rw [HWR.out]; exact s1
                            clear hpk s0 s1
                            go_upto_region 34 with fail
                            cases z with
                            | true =>
                              go_quiet (fail)
                              go_wp2
                              go_roundw
                              case rel => exact ⟨k + 1, _, true, by omega, rfl, by go_num, by rw [HPU.out]; rfl, by rw [HWR.out, World.drewN_drewN]⟩
                              case measure => simp [intOf]; omega
                            | false =>
                              rcases Decidable.em (p1 = (j : Int)) with rfl | hne
                              · obtain ⟨pc, zS, hpc, hzs, t0, -, -⟩ := (HXI.out _ HB11.out).2.at j hjl
                                subst hpc
                                obtain rfl : p2 = zS := by rw [HP2.out rfl, List.getD_eq_getElem?_getD, hzs]; rfl
                                have z12q : ∀ k', (wr.drewN k').cell? ⟨W.heap.size, 2, none⟩ = some (.slice (some pc) n1 c2) := fun k' => by rw [HWR.out]; exact z12
                                have t0q : ∀ k', (wr.drewN k').cell? (pc.add j) = some (.int .i64 p2) := fun k' => by rw [HWR.out]; exact t0
                                have e1 : ((j : Int) == (j : Int)) = true := by simp
                                have e2 : (p2 == p2) = true := by simp
                                have d9 : decide ((j : Int) < (n1 : Int)) = true := decide_eq_true (by omega)
                                clear hzs t0
                                go_quiet (fail)
                                go_wp2
                                go_roundw
                                case rel => exact ⟨k + 1, _, true, by omega, rfl, by go_num, by rw [HPU.out, e1]; rfl, by rw [HWR.out, World.drewN_drewN]⟩
                                case measure => simp [intOf]; omega
                              · have e1 : (p1 == (j : Int)) = false := by simpa using hne
                                clear hne
                                go_quiet (fail)
                                go_wp2
                                go_roundw
                                case rel => exact ⟨k + 1, _, false, by omega, rfl, by go_num, by rw [HPU.out, e1]; rfl, by rw [HWR.out, World.drewN_drewN]⟩
                                case measure => simp [intOf]; omega
                          · obtain rfl : ns = k := by omega
                            have hlz5 : ¬ ((ns : Int) < (ns : Int)) := by omega
                            obtain rfl : z = true := by rw [HZ.out, HPT.out]
                            have hbw : Below w11.heap.size w11 wr := by rw [HWR.out]; exact below_drewN (Below.refl _ w11) q
                            have HMN2 := Lib.hid (HK.out.below HM11.out hbw)
                            have HBN2 := Lib.hid (below_then HB11.out hbw HB11.out.size)
                            clear hbw
                            go_wp2
                            go_roundw
                            case rel => exact ⟨j + 1, by omega, by go_num, HMN2.out, HBN2.out⟩
                            case measure => simp [intOf]; omega
                      · obtain rfl : n1 = j := by omega
                        have hlz4 : ¬ ((n1 : Int) < (n1 : Int)) := by omega
                        obtain ⟨nM, hnM⟩ : ∃ nM, nM = L2.length := ⟨_, rfl⟩
                        have hmn := HK.out.many HM.out HWF2.out
                        rw [← hnM] at hmn
                        have hnm : nM = nL + 1 := by rw [hnM, HL2E.out, HNL.out]; simp
                        have hwm : IntKind.i64.wrap ((nL : Int) + 1) = (nM : Int) := by rw [IntWalk.i64_in _ (by omega)]; omega
                        have HMN := Lib.hid hmn
                        clear hnM hmn hnm x0 x2
                        go_wp2_with fail
                        refine HMN.out.mono ?_
                        rintro e w11 ⟨rfl, hb11⟩
                        have HB11 := Lib.hid (below_then HB.out hb11 HB.out.size)
                        clear hb11
                        go_wp2
                        go_ret
                        exact ⟨rfl, below_then HB01.out HB11.out HB01.out.size⟩
                  · have dE : (E != 0) = true := by simpa using hE0
                    have hL2e : L2 = L := by rw [HL2.out]; exact mAdd_no (by rw [← HEE.out]; exact hE0)
                    have hmn := HK.out.many (by rw [hL2e] at HM; exact HM.out) HWF.out
                    rw [← HNL.out] at hmn
                    have HMN := Lib.hid hmn
                    clear hE0 hL2e hmn
                    go_wp2_with fail
                    refine HMN.out.mono ?_
                    rintro e w11 ⟨rfl, hb11⟩
                    have HB11 := Lib.hid (below_then HB.out hb11 HB.out.size)
                    clear hb11
                    go_wp2
                    go_ret
                    exact ⟨rfl, below_then HB01.out HB11.out HB01.out.size⟩
end Go.Proofs.Ytmnofmcfkchebaa
