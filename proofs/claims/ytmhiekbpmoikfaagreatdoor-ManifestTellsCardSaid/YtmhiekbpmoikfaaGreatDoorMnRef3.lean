/- The document's Put. -/
import Derived.Test.YtmhiekbpmoikfaaGreatDoorMnRef2
import Derived.Test.YtmhiekbpmoikfaaGreatDoorZp10
import Derived.Test.YtmhiekbpmoikfaaGreatDoorZp2
import Derived.Deep.RegionHeld3
namespace Go.Proofs.YtmhiekbpmoikfaaGreatDoor
open Go.RowKit Go.Maps Go.WideMaps
set_option linter.unusedSimpArgs false

set_option maxHeartbeats 16000000 in
set_option maxRecDepth 100000 in
theorem r15Put_any (w : World) (m : Mf) (A : Option Addr) (n c : Nat) (h : RefsIn w A n m.refs) (hc : n ≤ c) :
    Calls Tryz.prog 13 #[.agg #[.int .i64 m.gen, .int .i64 m.next, .slice A n c]] w (MPutOut w m) := by
  obtain ⟨i0, hi, hz0, hz1, hz2⟩ := info_parts byteInfo
  have HI := Lib.hid h
  have HLN := Lib.hid h.len
  obtain ⟨w1, hw1⟩ : ∃ w1, w1 = w.alloc (.cells #[.int .i64 m.gen, .int .i64 m.next, .slice A n c] 24) := ⟨_, rfl⟩
  obtain ⟨bm, hbm⟩ : ∃ b, b = w.heap.size := ⟨_, rfl⟩
  have HK1 : Hid (Blk w1 bm 24 #[.int .i64 m.gen, .int .i64 m.next, .slice A n c]) := Lib.hid (by rw [hw1, hbm]; exact Blk.new _ _ _)
  have HB1 : Hid (Below w.heap.size w w1) := Lib.hid (by rw [hw1]; exact (Below.refl _ w).alloc (Nat.le_refl _) _)
  have HCK := Lib.hid (r15Check_any w1 m A n c (h.below HB1.out) hc)
  have HWW := Lib.hid hw1
  have HBM := Lib.hid hbm
  have HC1 : Hid (∀ u : World, Below w1.heap.size w1 u → u.cell? ⟨bm, 0, none⟩ = some (.int .i64 m.gen) ∧ u.cell? ⟨bm, 1, none⟩ = some (.int .i64 m.next) ∧ u.cell? ⟨bm, 2, none⟩ = some (.slice A n c)) := Lib.hid (fun u hu => by
    have h1 := HK1.out.below hu HK1.out.lt
    exact ⟨h1.cell 0, h1.cell 1, h1.cell 2⟩)
  obtain ⟨k0, k1, k2⟩ := HC1.out w1 (Below.refl _ _)
  clear hw1 hbm h
  go_enter Tryz.func13, Tryz.ntmps13
  go_upto_region 1 with fail
  rw [← HWW.out, ← HBM.out]
  go_wp2_with fail
  refine HCK.out.mono ?_
  rintro e w2 ⟨rfl, hb2⟩
  have HB2 := Lib.hid hb2
  have HBW2 := Lib.hid (below_then HB1.out hb2 HB1.out.size)
  clear hb2 HCK k0 k1 k2
  by_cases hm : mOk m
  case neg =>
    have HE : Hid (mErr m = 1) := Lib.hid (by unfold mErr; rw [if_neg hm])
    rw [HE.out]
    have HM := Lib.hid hm
    clear hm
    go_wp2
    go_ret2
    exact ⟨HBW2.out, fun e => absurd e HM.out, fun _ => rfl⟩
  have HE : Hid (mErr m = 0) := Lib.hid (by unfold mErr; rw [if_pos hm])
  rw [HE.out]
  have htop := hm.1
  unfold mTop maxNum at htop
  rw [HLN.out] at htop
  have HFIT := Lib.hid (mOk_fit hm)
  have HM := Lib.hid hm
  obtain ⟨g, hgg⟩ : ∃ g : Nat, (g : Int) = m.gen := ⟨m.gen.toNat, by omega⟩
  obtain ⟨x, hxx⟩ : ∃ x : Nat, (x : Int) = m.next := ⟨m.next.toNat, by omega⟩
  have HGG : Hid (m.gen.toNat = g ∧ m.next.toNat = x) := Lib.hid ⟨by omega, by omega⟩
  rw [← hgg, ← hxx] at htop HC1
  clear hgg hxx hm HE
  have hpg := putL_len g (by omega)
  have hpx := putL_len x (by omega)
  have hpn := putL_len n (by omega)
  have hwg : IntKind.u64.wrap (g : Int) = (g : Int) := IntWalk.u64_in _ (by omega)
  have hwx : IntKind.u64.wrap (x : Int) = (x : Int) := IntWalk.u64_in _ (by omega)
  have hwn : IntKind.u64.wrap (n : Int) = (n : Int) := IntWalk.u64_in _ (by omega)
  have HC : Hid (∀ u : World, Below w2.heap.size w2 u → u.cell? ⟨bm, 0, none⟩ = some (.int .i64 g) ∧ u.cell? ⟨bm, 1, none⟩ = some (.int .i64 x) ∧ u.cell? ⟨bm, 2, none⟩ = some (.slice A n c)) := Lib.hid (fun u hu => HC1.out u (below_then HB2.out hu HB2.out.size))
  go_wp2_with fail
  refine wp_region_held_drew (S := fun w' => w'.cell? ⟨bm, 0, none⟩ = some (.int .i64 g) ∧ w'.cell? ⟨bm, 1, none⟩ = some (.int .i64 x) ∧ w'.cell? ⟨bm, 2, none⟩ = some (.slice A n c)) (by kernel_rfl) (HC.out _ (Below.refl _ _).drew) (fun hHeld => ?_)
  obtain ⟨u, hu⟩ : ∃ u, u = w2.drew := ⟨_, rfl⟩
  rw [← hu] at hHeld ⊢
  have HU : Hid (Below w2.heap.size w2 u) := Lib.hid (by rw [hu]; exact (Below.refl _ w2).drew)
  clear hu
  refine wpAnyH_take (i := 0) (oi := ?oia0) (v := ?va0) ?hia0 (by kernel_rfl) (by kernel_rfl) (by kernel_rfl) ?hQa0 (Or.inl ⟨?hwa0, ?hya0⟩) (by assumption) ?resta0
  case hia0 => (first | (simp only [List.getElem?_toArray, List.getElem?_cons_zero, List.getElem?_cons_succ]; rfl) | rfl)
  case hQa0 => exact fun _ _ _ h => h
  case hwa0 => rfl
  case hya0 => ((intro w hSw; go_simp); first | done | with_reducible rfl)
  try simp only [Act.put, List.setIfInBounds_toArray, List.set_cons_zero, List.set_cons_succ]
  refine wpAnyH_take (i := 1) (oi := ?oia1) (v := ?va1) ?hia1 (by kernel_rfl) (by kernel_rfl) (by kernel_rfl) ?hQa1 (Or.inl ⟨?hwa1, ?hya1⟩) (by assumption) ?resta1
  case hia1 => (first | (simp only [List.getElem?_toArray, List.getElem?_cons_zero, List.getElem?_cons_succ]; rfl) | rfl)
  case hQa1 => exact fun _ _ _ h => h
  case hwa1 => rfl
  case hya1 => ((intro w hSw; go_simp); first | done | with_reducible rfl)
  try simp only [Act.put, List.setIfInBounds_toArray, List.set_cons_zero, List.set_cons_succ]
  refine wpAnyH_take (i := 2) (oi := ?oia2) (v := ?va2) ?hia2 (by kernel_rfl) (by kernel_rfl) (by kernel_rfl) ?hQa2 (Or.inl ⟨?hwa2, ?hya2⟩) (by assumption) ?resta2
  case hia2 => (first | (simp only [List.getElem?_toArray, List.getElem?_cons_zero, List.getElem?_cons_succ]; rfl) | rfl)
  case hQa2 => exact fun _ _ _ h => h
  case hwa2 => rfl
  case hya2 => ((intro w hSw; go_simp); first | done | with_reducible rfl)
  try simp only [Act.put, List.setIfInBounds_toArray, List.set_cons_zero, List.set_cons_succ]
  refine wpAnyH_take (i := 4) (oi := ?oia4) (v := ?va4) ?hia4 (by kernel_rfl) (by kernel_rfl) (by kernel_rfl) ?hQa4 (Or.inl ⟨?hwa4, ?hya4⟩) (by assumption) ?resta4
  case hia4 => (first | (simp only [List.getElem?_toArray, List.getElem?_cons_zero, List.getElem?_cons_succ]; rfl) | rfl)
  case hQa4 => exact fun _ _ _ h => h
  case hwa4 => rfl
  case hya4 => ((intro w hSw; go_simp); first | done | with_reducible rfl)
  try simp only [Act.put, List.setIfInBounds_toArray, List.set_cons_zero, List.set_cons_succ]
  refine wpAnyH_take (i := 5) (oi := ?oia5) (v := ?va5) ?hia5 (by kernel_rfl) (by kernel_rfl) (by kernel_rfl) ?hQa5 (Or.inl ⟨?hwa5, ?hya5⟩) (by assumption) ?resta5
  case hia5 => (first | (simp only [List.getElem?_toArray, List.getElem?_cons_zero, List.getElem?_cons_succ]; rfl) | rfl)
  case hQa5 => exact fun _ _ _ h => h
  case hwa5 => rfl
  case hya5 => ((intro w hSw; go_simp); first | done | with_reducible rfl)
  try simp only [Act.put, List.setIfInBounds_toArray, List.set_cons_zero, List.set_cons_succ]
  refine wpAnyH_take (i := 6) (oi := ?oia6) (v := ?va6) ?hia6 (by kernel_rfl) (by kernel_rfl) (by kernel_rfl) ?hQa6 (Or.inl ⟨?hwa6, ?hya6⟩) (by assumption) ?resta6
  case hia6 => (first | (simp only [List.getElem?_toArray, List.getElem?_cons_zero, List.getElem?_cons_succ]; rfl) | rfl)
  case hQa6 => exact fun _ _ _ h => h
  case hwa6 => rfl
  case hya6 => ((intro w hSw; go_simp); first | done | with_reducible rfl)
  try simp only [Act.put, List.setIfInBounds_toArray, List.set_cons_zero, List.set_cons_succ]
  refine wpAnyH_ready (rs := [3]) (by kernel_rfl) (by simp) ?_
  refine AllReadyH.cons (o := ?ob) ?hcb ?stb AllReadyH.nil
  case hcb => (simp only [List.getElem?_toArray, List.getElem?_cons_zero, List.getElem?_cons_succ]; rfl)
  intro K hK
  go_simp
  refine (r3Put_any u g (by omega)).mono ?_
  rintro e u1 ⟨v1, rfl, ho1, hb1⟩
  obtain ⟨A1, c1, hv1⟩ := own_slice ho1
  subst hv1
  have HU1 := Lib.hid (below_then HU.out hb1 HU.out.size)
  have HO1 := Lib.hid (Go.Joins.ownsRow_le ho1 HU.out.size)
  clear ho1 hb1
  go_wp2_with fail
  refine hK.out _ _ (HC.out _ HU1.out) (fun _ => ?_)
  clear hK K
  try simp only [Act.put, List.setIfInBounds_toArray, List.set_cons_zero, List.set_cons_succ]
  refine wpAnyH_ready (rs := [7]) (by kernel_rfl) (by simp) ?_
  refine AllReadyH.cons (o := ?oc) ?hcc ?stc AllReadyH.nil
  case hcc => (simp only [List.getElem?_toArray, List.getElem?_cons_zero, List.getElem?_cons_succ]; rfl)
  intro K hK
  go_simp
  refine (r3Put_any u1 x (by omega)).mono ?_
  rintro e u2 ⟨v2, rfl, ho2, hb2⟩
  obtain ⟨A2, c2, hv2⟩ := own_slice ho2
  subst hv2
  have HU2 := Lib.hid (below_then HU1.out hb2 HU1.out.size)
  have HO2 := Lib.hid (ownsRow_block HO1.out fun i hi => hb2.block i (HO1.out.lt i hi).2)
  have HI2 := Lib.hid (BytesIn.own ho2 (by unfold maxLen; omega))
  clear ho2 hb2 HO1
  go_wp2_with fail
  refine hK.out _ _ (HC.out _ HU2.out) (fun _ => ?_)
  clear hK K
  try simp only [Act.put, List.setIfInBounds_toArray, List.set_cons_zero, List.set_cons_succ]
  refine wpAnyH_ready (rs := [8]) (by kernel_rfl) (by simp) ?_
  refine AllReadyH.cons (o := ?od) ?hcd ?std AllReadyH.nil
  case hcd => (simp only [List.getElem?_toArray, List.getElem?_cons_zero, List.getElem?_cons_succ]; rfl)
  intro K hK
  refine step_append_src _ rfl (.tmp 16) (.tmp 20) 25 rfl w2.heap.size 5 i0 (.int .u8 0) 1 Tryz.underlying25 hi hz0 hz1 hz2 rfl (.slice A1 (putL g).length c1) (putL g).length _ rfl HO2.out A2 (putL x).length c2 _ rfl HI2.out.2.1 (u8_one _) (by unfold maxLen; omega) (by omega) HU2.out.size ?_
  intro v3 u3 hown3 hgrow3 _
  obtain ⟨A3, c3, hv3⟩ := own_slice hown3
  subst hv3
  rw [← List.map_append] at hown3
  have HU3 := Lib.hid (HU2.out.grown hgrow3 HU2.out.size (fun k hk => (HO2.out.lt k hk).1))
  have HO3 := Lib.hid hown3
  clear hown3 hgrow3 HO2 HI2
  refine hK.out _ _ (HC.out _ HU3.out) (fun _ => ?_)
  clear hK K
  try simp only [Act.put, List.setIfInBounds_toArray, List.set_cons_zero, List.set_cons_succ]
  refine wpAnyH_take (i := 9) (oi := ?oie9) (v := ?ve9) ?hie9 (by kernel_rfl) (by kernel_rfl) (by kernel_rfl) ?hQe9 (Or.inl ⟨?hwe9, ?hye9⟩) (by assumption) ?reste9
  case hie9 => (first | (simp only [List.getElem?_toArray, List.getElem?_cons_zero, List.getElem?_cons_succ]; rfl) | rfl)
  case hQe9 => exact fun _ _ _ h => h
  case hwe9 => rfl
  case hye9 => ((intro w hSw; go_simp); first | done | with_reducible rfl)
  try simp only [Act.put, List.setIfInBounds_toArray, List.set_cons_zero, List.set_cons_succ]
  refine wpAnyH_done (by kernel_rfl) ?_ _
  obtain ⟨k0, k1, k2⟩ := HC.out _ HU3.out
  go_wp2_with fail
  refine (r3Put_any _ n (by omega)).mono ?_
  rintro e yf ⟨wfv, rfl, hof, hbf⟩
  obtain ⟨Pf, pf, hvf⟩ := own_slice hof
  subst hvf
  have HBf := Lib.hid (below_then HU3.out hbf HU3.out.size)
  have HOf := Lib.hid (ownsRow_block HO3.out fun i hi => hbf.block i (HO3.out.lt i hi).2)
  have HIf := Lib.hid (BytesIn.own hof (by unfold maxLen; omega))
  have hsf := HBf.out.size
  clear hof hbf
  go_wp2_with (at_builtin; refine wpList_append_src _ rfl (.tmp 22) (.tmp 27) 25 rfl w2.heap.size 5 i0 (.int .u8 0) 1 Tryz.underlying25 hi hz0 hz1 hz2 rfl _ _ _ rfl HOf.out _ _ pf _ rfl HIf.out.2.1 (u8_one _) (by unfold maxLen; omega) (by omega) hsf ?_; intro qf zf hown hgrow _; obtain ⟨Qf, rf, hqf⟩ := own_slice hown; subst hqf; rw [← List.map_append] at hown; have HRf := Lib.hid hown; have HDf := Lib.hid (HBf.out.grown hgrow HBf.out.size (fun g hg => (HOf.out.lt g hg).1)); clear hown hgrow)
  obtain ⟨Y0, hY0⟩ : ∃ Y0, Y0 = putL g ++ putL x ++ putL n := ⟨_, rfl⟩
  have hl0 : (putL g).length + (putL x).length + (putL n).length = Y0.length := by rw [hY0]; simp only [List.length_append]
  rw [← hY0] at HRf
  have HST : Hid (zf.ownsRow w2.heap.size 5 1 (.slice Qf ((putL g).length + (putL x).length + (putL n).length) rf) Y0.length (Y0.map byteV)) := Lib.hid (by rw [← hl0]; exact HRf.out)
  have hy0 : Y0.length ≤ 30 := by omega
  have HY0 := Lib.hid hY0
  obtain ⟨vf, hvf⟩ : ∃ z, z = Value.slice Qf ((putL g).length + (putL x).length + (putL n).length) rf := ⟨_, rfl⟩
  rw [← hvf] at HST ⊢
  clear hl0 hY0 hvf HRf hpg hpx
  go_wp2_with fail
  go_loopw [5, 6] (fun v kv wr => ∃ (k : Nat) (Y : List UInt8), k ≤ n ∧ kv = .int .i64 k ∧ wr.ownsRow w2.heap.size 5 1 v Y.length (Y.map byteV) ∧ Y = Y0 ++ refsB m.refs k ∧ Below w2.heap.size w2 wr) (fun _ kv _ => n - (intOf kv).toNat)
  case atStart => exact ⟨0, Y0, by omega, rfl, HST.out, by unfold refsB; simp, HDf.out⟩
  case round =>
    obtain ⟨k, Y, hk, rfl, hown, hY, hb⟩ := hrel
    have hYl : Y.length ≤ 30 + 40 * k := by
      have h1 := refsB_len HFIT.out k (by rw [HLN.out]; exact hk)
      rw [hY, List.length_append]
      omega
    have HY := Lib.hid hY
    have HB := Lib.hid hb
    have HO := Lib.hid hown
    obtain ⟨Ay, cy, hv⟩ := own_slice hown
    subst hv
    obtain ⟨k0, k1, k2⟩ := HC.out wr hb
    clear hown hY hb
    rcases Nat.lt_or_ge k n with hlt | hge
    · have hlt' : (k : Int) < (n : Int) := by omega
      have p0 : (0 : Int) ≤ (k : Int) := by omega
      have hw1 : IntKind.i64.wrap ((k : Int) + 1) = (k : Int) + 1 := IntWalk.i64_in _ (by omega)
      obtain ⟨r, hr⟩ : ∃ r, m.refs[k]? = some r := ⟨_, List.getElem?_eq_getElem (by rw [HLN.out]; exact hlt)⟩
      obtain ⟨pa, rfl, -, c0, c1, c2, c3, -⟩ := (HI.out.below (below_then HBW2.out HB.out HBW2.out.size)).at_ k r hr
      obtain ⟨⟨a1, a2⟩, ⟨b1, b2⟩, ⟨v1, v2⟩, d1, d2⟩ := HFIT.out r (List.mem_of_getElem? hr)
      unfold maxNum at a2 b2 v2 d2
      obtain ⟨a, ha⟩ : ∃ a : Nat, r.num = (a : Int) := ⟨r.num.toNat, by omega⟩
      obtain ⟨b, hb⟩ : ∃ b : Nat, r.docs = (b : Int) := ⟨r.docs.toNat, by omega⟩
      obtain ⟨v, hv⟩ : ∃ v : Nat, r.level = (v : Int) := ⟨r.level.toNat, by omega⟩
      obtain ⟨d, hd⟩ : ∃ d : Nat, r.dels = (d : Int) := ⟨r.dels.toNat, by omega⟩
      have HRB : Hid (refsB m.refs (k + 1) = refsB m.refs k ++ (putL a ++ putL b ++ putL v ++ putL d)) := Lib.hid (by
        rw [refsB, List.getD_eq_getElem?_getD, hr, Option.getD_some]
        unfold refB
        rw [ha, hb, hv, hd]
        rfl)
      rw [ha] at c0 a2
      rw [hb] at c1 b2
      rw [hv] at c2 v2
      rw [hd] at c3 d2
      have hwa : IntKind.u64.wrap (a : Int) = (a : Int) := IntWalk.u64_in _ (by omega)
      have hwb : IntKind.u64.wrap (b : Int) = (b : Int) := IntWalk.u64_in _ (by omega)
      have hwv : IntKind.u64.wrap (v : Int) = (v : Int) := IntWalk.u64_in _ (by omega)
      have hwd : IntKind.u64.wrap (d : Int) = (d : Int) := IntWalk.u64_in _ (by omega)
      have hpa := putL_len a (by omega)
      have hpb := putL_len b (by omega)
      have hpv := putL_len v (by omega)
      have hpd := putL_len d (by omega)
      clear hr a1 b1 v1 d1 ha hb hv hd
      obtain ⟨wo, hwo⟩ : ∃ zz, zz = wr := ⟨_, rfl⟩
      subst hwo
      go_upto_region 10 with fail
      obtain ⟨br, hbr⟩ : ∃ z, z = wo.heap.size := ⟨_, rfl⟩
      obtain ⟨wa, hwae⟩ : ∃ z, z = wo.alloc (.cells #[.int .i64 a, .int .i64 b, .int .i64 v, .int .i64 d] 88) := ⟨_, rfl⟩
      have HKA : Hid (Blk wa br 88 #[.int .i64 a, .int .i64 b, .int .i64 v, .int .i64 d]) := Lib.hid (by rw [hwae, hbr]; exact Blk.new _ _ _)
      have HBA : Hid (Below w2.heap.size w2 wa) := Lib.hid (by rw [hwae]; exact HB.out.alloc HB.out.size _)
      have HOA : Hid (wa.ownsRow w2.heap.size 5 1 (.slice Ay Y.length cy) Y.length (Y.map byteV)) := Lib.hid (by rw [hwae]; exact own_alloc HO.out _)
      rw [← hwae, ← hbr]
      clear hwae hbr c0 c1 c2 c3 k0 k1 k2
      have rrg := HKA.out.cell 0
      simp only [List.getElem?_toArray, List.getElem?_cons_zero, List.getElem?_cons_succ] at rrg
      go_wp2_with fail
      refine (r3Put_any _ a (by omega)).mono ?_
      rintro e yg ⟨wgv, rfl, hog, hbg⟩
      obtain ⟨Pg, pg, hvg⟩ := own_slice hog
      subst hvg
      have HBg := Lib.hid (below_then HBA.out hbg HBA.out.size)
      have HOg := Lib.hid (ownsRow_block HOA.out fun i hi => hbg.block i (HOA.out.lt i hi).2)
      have HKg := Lib.hid (HKA.out.below hbg HKA.out.lt)
      have HIg := Lib.hid (BytesIn.own hog (by unfold maxLen; omega))
      have hsg := HBg.out.size
      have HNg := Lib.hid (own_blk_ne HOg.out HKg.out (by decide))
      clear hog hbg
      go_wp2_with (at_builtin; refine wpList_append_src _ rfl (.tmp 41) (.tmp 45) 25 rfl w2.heap.size 5 i0 (.int .u8 0) 1 Tryz.underlying25 hi hz0 hz1 hz2 rfl _ _ _ rfl HOg.out _ _ pg _ rfl HIg.out.2.1 (u8_one _) (by unfold maxLen; omega) (by omega) hsg ?_; intro qg zg hown hgrow _; have HLg := Lib.hid (HKg.out.grown hgrow (fun e => HNg.out e.symm)); have rng := HLg.out.cell 1; simp only [List.getElem?_toArray, List.getElem?_cons_zero, List.getElem?_cons_succ] at rng; obtain ⟨Qg, rg, hqg⟩ := own_slice hown; subst hqg; rw [← List.map_append] at hown; have HRg := Lib.hid hown; have HDg := Lib.hid (HBg.out.grown hgrow HBg.out.size (fun g hg => (HOg.out.lt g hg).1)); clear hown hgrow)
      refine (r3Put_any _ b (by omega)).mono ?_
      rintro e yh ⟨whv, rfl, hoh, hbh⟩
      obtain ⟨Ph, ph, hvh⟩ := own_slice hoh
      subst hvh
      have HBh := Lib.hid (below_then HDg.out hbh HDg.out.size)
      have HOh := Lib.hid (ownsRow_block HRg.out fun i hi => hbh.block i (HRg.out.lt i hi).2)
      have HKh := Lib.hid (HLg.out.below hbh HLg.out.lt)
      have HIh := Lib.hid (BytesIn.own hoh (by unfold maxLen; omega))
      have hsh := HBh.out.size
      have HNh := Lib.hid (own_blk_ne HOh.out HKh.out (by decide))
      clear hoh hbh
      go_wp2_with (at_builtin; refine wpList_append_src _ rfl (.tmp 47) (.tmp 51) 25 rfl w2.heap.size 5 i0 (.int .u8 0) 1 Tryz.underlying25 hi hz0 hz1 hz2 rfl _ _ _ rfl HOh.out _ _ ph _ rfl HIh.out.2.1 (u8_one _) (by unfold maxLen; omega) (by omega) hsh ?_; intro qh zh hown hgrow _; have HLh := Lib.hid (HKh.out.grown hgrow (fun e => HNh.out e.symm)); have rnh := HLh.out.cell 2; simp only [List.getElem?_toArray, List.getElem?_cons_zero, List.getElem?_cons_succ] at rnh; obtain ⟨Qh, rh, hqh⟩ := own_slice hown; subst hqh; rw [← List.map_append] at hown; have HRh := Lib.hid hown; have HDh := Lib.hid (HBh.out.grown hgrow HBh.out.size (fun g hg => (HOh.out.lt g hg).1)); clear hown hgrow)
      refine (r3Put_any _ v (by omega)).mono ?_
      rintro e yi ⟨wiv, rfl, hoi, hbi⟩
      obtain ⟨Pi, pi, hvi⟩ := own_slice hoi
      subst hvi
      have HBi := Lib.hid (below_then HDh.out hbi HDh.out.size)
      have HOi := Lib.hid (ownsRow_block HRh.out fun i hi => hbi.block i (HRh.out.lt i hi).2)
      have HKi := Lib.hid (HLh.out.below hbi HLh.out.lt)
      have HIi := Lib.hid (BytesIn.own hoi (by unfold maxLen; omega))
      have hsi := HBi.out.size
      have HNi := Lib.hid (own_blk_ne HOi.out HKi.out (by decide))
      clear hoi hbi
      go_wp2_with (at_builtin; refine wpList_append_src _ rfl (.tmp 53) (.tmp 57) 25 rfl w2.heap.size 5 i0 (.int .u8 0) 1 Tryz.underlying25 hi hz0 hz1 hz2 rfl _ _ _ rfl HOi.out _ _ pi _ rfl HIi.out.2.1 (u8_one _) (by unfold maxLen; omega) (by omega) hsi ?_; intro qi zi hown hgrow _; have HLi := Lib.hid (HKi.out.grown hgrow (fun e => HNi.out e.symm)); have rni := HLi.out.cell 3; simp only [List.getElem?_toArray, List.getElem?_cons_zero, List.getElem?_cons_succ] at rni; obtain ⟨Qi, ri, hqi⟩ := own_slice hown; subst hqi; rw [← List.map_append] at hown; have HRi := Lib.hid hown; have HDi := Lib.hid (HBi.out.grown hgrow HBi.out.size (fun g hg => (HOi.out.lt g hg).1)); clear hown hgrow)
      refine (r3Put_any _ d (by omega)).mono ?_
      rintro e yj ⟨wjv, rfl, hoj, hbj⟩
      obtain ⟨Pj, pj, hvj⟩ := own_slice hoj
      subst hvj
      have HBj := Lib.hid (below_then HDi.out hbj HDi.out.size)
      have HOj := Lib.hid (ownsRow_block HRi.out fun i hi => hbj.block i (HRi.out.lt i hi).2)
      have HKj := Lib.hid (HLi.out.below hbj HLi.out.lt)
      have HIj := Lib.hid (BytesIn.own hoj (by unfold maxLen; omega))
      have hsj := HBj.out.size
      have HNj := Lib.hid (own_blk_ne HOj.out HKj.out (by decide))
      clear hoj hbj
      go_wp2_with (at_builtin; refine wpList_append_src _ rfl (.tmp 59) (.tmp 63) 25 rfl w2.heap.size 5 i0 (.int .u8 0) 1 Tryz.underlying25 hi hz0 hz1 hz2 rfl _ _ _ rfl HOj.out _ _ pj _ rfl HIj.out.2.1 (u8_one _) (by unfold maxLen; omega) (by omega) hsj ?_; intro qj zj hown hgrow _; have HLj := Lib.hid (HKj.out.grown hgrow (fun e => HNj.out e.symm)); have rnj := HLj.out.cell 4; simp only [List.getElem?_toArray, List.getElem?_cons_zero, List.getElem?_cons_succ] at rnj; obtain ⟨Qj, rj, hqj⟩ := own_slice hown; subst hqj; rw [← List.map_append] at hown; have HRj := Lib.hid hown; have HDj := Lib.hid (HBj.out.grown hgrow HBj.out.size (fun g hg => (HOj.out.lt g hg).1)); clear hown hgrow)
      go_wp2
      go_roundw
      case rel =>
        obtain ⟨Y', hY'⟩ : ∃ Y', Y' = Y ++ putL a ++ putL b ++ putL v ++ putL d := ⟨_, rfl⟩
        have hl : Y.length + (putL a).length + (putL b).length + (putL v).length + (putL d).length = Y'.length := by rw [hY']; simp only [List.length_append]
        refine ⟨k + 1, Y', by omega, by go_num, ?_, ?_, HDj.out⟩
        · rw [← hl, hY']
          exact HRj.out
        · rw [hY', HY.out, HRB.out]
          simp only [List.append_assoc]
      case measure => simp [intOf]; omega
    · have hlz : ¬ ((k : Int) < (n : Int)) := by omega
      have HKN : Hid (k = n) := Lib.hid (by omega)
      have HMB : Hid (mBody m = Y) := Lib.hid (by
        rw [HY.out, HY0.out]
        unfold mBody
        rw [HLN.out, HGG.out.1, HGG.out.2, HKN.out])
      have hbl := mBody_len HM.out
      rw [HMB.out] at hbl
      have hbi := BytesIn.own HO.out (by unfold maxLen; omega)
      have HCF := Lib.hid (r4Put_any wr Ay Y.length cy Y hbi (by omega))
      rw [← HMB.out] at HCF
      clear hbi
      have HPB : Hid (putF (mBody m) = mPutB m) := Lib.hid rfl
      rw [HPB.out] at HCF
      rw [HMB.out] at HCF
      obtain ⟨wo, hwo⟩ : ∃ zz, zz = wr := ⟨_, rfl⟩
      subst hwo
      go_wp2_with fail
      refine HCF.out.mono ?_
      rintro e w4 ⟨v4, rfl, ho4, hb4⟩
      obtain ⟨A4, c4, hv4⟩ := own_slice ho4
      subst hv4
      have HB4 := Lib.hid (below_then (below_then HBW2.out HB.out HBW2.out.size) hb4 (Nat.le_trans HBW2.out.size HB.out.size))
      have HO4 := Lib.hid (Go.Joins.ownsRow_le ho4 (Nat.le_trans HBW2.out.size HB.out.size))
      clear ho4 hb4
      go_wp2
      go_ret2
      exact ⟨HB4.out, fun _ => ⟨A4, c4, rfl, HO4.out⟩, fun e => absurd HM.out e⟩
end Go.Proofs.YtmhiekbpmoikfaaGreatDoor
