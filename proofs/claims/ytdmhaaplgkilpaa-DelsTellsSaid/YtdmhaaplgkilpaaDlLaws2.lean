/- DelsBack. -/
import Derived.Test.YtdmhaaplgkilpaaDlLaws3
import Derived.Test.YtdmhaaplgkilpaaLRef8
import Derived.Test.YtdmhaaplgkilpaaKStr
import Derived.Test.YtdmhaaplgkilpaaFProg2
import Derived.Deep.RegionHeld3
namespace Go.Proofs.Ytdmhaaplgkilpaa
open Go.RowKit Go.Maps Go.WideMaps
set_option linter.unusedSimpArgs false

theorem dPut_len {s : DSt} (hn : s.n ≤ 64) : (dPut s).length ≤ 14 := by
  rw [(dPut_one hn).1]
  omega
theorem lv_get {D : DelsSt} (hD : DelsOk D) {W w : World} (hb : Below W.heap.size W w) (A : Option Addr) (n c : Nat) (x : Nm) (hx : BytesIn w A n x) (hc : n ≤ c) (hn : n ≤ 1000000) :
    Calls Try.prog 8 #[.slice A n c] w fun e w' => Below w.heap.size w w' ∧ match dGet x with
      | none => e = .returned (.tuple #[.pointer none, .int .i64 3])
      | some s => ∃ b, e = .returned (.tuple #[.pointer (some ⟨b, 0, none⟩), .int .i64 0]) ∧ Lv D W w' b s := by
  refine (hD.get w A n c x hx hc hn).mono ?_
  rintro e w' ⟨h1, h2⟩
  refine ⟨h1, ?_⟩
  cases hg : dGet x with
  | none => rw [hg] at h2; exact h2
  | some s =>
    rw [hg] at h2
    obtain ⟨b, F, rfl, h3, h4⟩ := h2
    exact ⟨b, rfl, ⟨F, h3, fun i hi => Nat.le_trans hb.size (h4 i hi)⟩, below_then hb h1 hb.size⟩

set_option maxHeartbeats 16000000 in
set_option maxRecDepth 100000 in
theorem delsBack_any {D : DelsSt} (hD : DelsOk D) (W : World) (m : Nat) (hm : m < 256) (A : Option Addr) (n c : Nat) (l : List Int) (hl : IntsIn W A n l) (B : Option Addr) (k d : Nat) (r : Nm) (hr : BytesIn W B k r) (hkd : k ≤ d) :
    Calls Try.prog 4 #[.int .u8 m, .slice A n c, .slice B k d] W fun e w' => e = .returned (.bool true) ∧ Below W.heap.size W w' := by
  have hep := eqDelsNil
  have hnp := neDelsNil
  have HK := Lib.hid hD
  have HH := Lib.hid (dlHead_any hD W)
  have HX := Lib.hid hl
  have HY := Lib.hid hr
  have hn63 := hl.1
  have hk63 := hr.1
  unfold maxLen at hn63 hk63
  have hwm : IntKind.i64.wrap (m : Int) = (m : Int) := IntWalk.i64_in _ (by omega)
  clear hD hl hr
  go_enter Try.func4, Try.ntmps4
  go_wp2_with fail
  refine HH.out.mono ?_
  rintro e w1 ⟨rfl, hb1⟩
  have HB1 := Lib.hid hb1
  clear hb1 HH
  by_cases hm64 : m ≤ 64
  · go_wp2_with fail
    refine (lv_new HK.out HB1.out m hm64).mono ?_
    rintro e w2 ⟨b, rfl, hl2⟩
    have HL2 := Lib.hid hl2
    clear hl2
    by_cases h5 : 500 < n
    · have h5' : (500 : Int) < (n : Int) := by omega
      go_wp2
      go_ret
      exact ⟨rfl, HL2.out.below⟩
    by_cases h6 : 5000 < k
    · have h5' : ¬ (500 : Int) < (n : Int) := by omega
      have h6' : (5000 : Int) < (k : Int) := by omega
      go_wp2
      go_ret
      exact ⟨rfl, HL2.out.below⟩
    have h5' : ¬ (500 : Int) < (n : Int) := by omega
    have h6' : ¬ (5000 : Int) < (k : Int) := by omega
    go_wp2
    go_loopw [9] (fun iv wr => ∃ (i : Nat), i ≤ n ∧ iv = .int .i64 i ∧ Lv D W wr b (dUp (dNew m) l i)) (fun iv _ => n - (intOf iv).toNat)
    case atStart => exact ⟨0, by omega, rfl, HL2.out⟩
    case round =>
      obtain ⟨i, hi, rfl, hlv⟩ := hrel
      have HV := Lib.hid hlv
      clear hlv
      rcases Nat.lt_or_ge i n with hlt | hge
      · have hlt' : (i : Int) < (n : Int) := by omega
        have p0 : (0 : Int) ≤ (i : Int) := by omega
        have hw1 : IntKind.i64.wrap ((i : Int) + 1) = (i : Int) + 1 := IntWalk.i64_in _ (by omega)
        obtain ⟨pa, y, rfl, hy, y0, -, -⟩ := (HX.out.below HV.out.below).at i hlt
        have HYY := Lib.hid hy
        have HFY := Lib.hid (ints_fit HX.out hy)
        clear hy
        go_wp2_with fail
        refine (lv_add HK.out HV.out y HFY.out).mono ?_
        rintro e w3 ⟨rfl, hl3⟩
        rw [← dUp_take HYY.out] at hl3
        have HL3 := Lib.hid hl3
        clear hl3 y0
        go_wp2
        go_roundw
        case rel => exact ⟨i + 1, by omega, by go_num, HL3.out⟩
        case measure => simp [intOf]; omega
      · have hlz : ¬ ((i : Int) < (n : Int)) := by omega
        obtain ⟨s, hs⟩ : ∃ s, s = dUp (dNew m) l i := ⟨_, rfl⟩
        rw [← hs] at HV
        clear hs
        obtain ⟨wo, hwo⟩ : ∃ zz, zz = wr := ⟨_, rfl⟩
        subst hwo
        have hfew := HV.out.few HK.out
        have HCP := Lib.hid (lv_put HK.out HV.out)
        have hpl := dPut_len hfew
        have hgp := dGet_put hfew
        have HGP := Lib.hid hgp
        obtain ⟨P, hP⟩ : ∃ P, P = dPut s := ⟨_, rfl⟩
        rw [← hP] at HCP hpl HGP
        obtain ⟨nP, hnP⟩ : ∃ nP, nP = P.length := ⟨_, rfl⟩
        unfold BytesBack at HCP
        rw [← hnP] at HCP hpl
        clear hP hnP hgp
        go_wp2_with fail
        refine HCP.out.mono ?_
        rintro e w3 ⟨A3, c3, rfl, hi3, hc3, -, hb3⟩
        have HV3 := Lib.hid (HV.out.later HK.out hb3)
        have HI3 := Lib.hid hi3
        clear hi3 hb3 HCP HV
        go_wp2_with fail
        refine (lv_get HK.out HV3.out.below A3 nP c3 P HI3.out hc3 (by omega)).mono ?_
        rintro e w4 ⟨hb4, hg4⟩
        rw [HGP.out] at hg4
        obtain ⟨bx, rfl, hx4⟩ := hg4
        have HX4 : Hid (Lv D W w4 bx s) := Lib.hid (hx4.same HK.out (put_same s))
        have HV4 := Lib.hid (HV3.out.later HK.out hb4)
        clear hb4 hx4 HI3 HV3 HGP
        go_wp2_with fail
        refine (lv_size HK.out HX4.out).mono ?_
        rintro e w5 ⟨rfl, q5, hw5⟩
        have HX5 : Hid (Lv D W w5 bx s) := Lib.hid (by rw [hw5]; exact HX4.out.drewN HK.out q5)
        have HV5 : Hid (Lv D W w5 b s) := Lib.hid (by rw [hw5]; exact HV4.out.drewN HK.out q5)
        clear hw5 HX4 HV4
        go_wp2_with fail
        refine (lv_size HK.out HV5.out).mono ?_
        rintro e w6 ⟨rfl, q6, hw6⟩
        have HX6 : Hid (Lv D W w6 bx s) := Lib.hid (by rw [hw6]; exact HX5.out.drewN HK.out q6)
        have HV6 : Hid (Lv D W w6 b s) := Lib.hid (by rw [hw6]; exact HV5.out.drewN HK.out q6)
        have HM6 := Lib.hid (lv_many HK.out HX6.out)
        obtain ⟨M, hM⟩ : ∃ M, M = dMany s := ⟨_, rfl⟩
        have HMM := Lib.hid hM
        rw [← hM] at HM6
        clear hw6 HX5 HV5 hM
        go_wp2_with fail
        refine HM6.out.mono ?_
        rintro e w7 ⟨rfl, q7, hw7⟩
        have HX7 : Hid (Lv D W w7 bx s) := Lib.hid (by rw [hw7]; exact HX6.out.drewN HK.out q7)
        have HV7 : Hid (Lv D W w7 b s) := Lib.hid (by rw [hw7]; exact HV6.out.drewN HK.out q7)
        have HM7 := Lib.hid (lv_many HK.out HV7.out)
        rw [← HMM.out] at HM7
        clear hw7 HX6 HV6 HM6
        go_wp2_with fail
        refine HM7.out.mono ?_
        rintro e w8 ⟨rfl, q8, hw8⟩
        have HX8 : Hid (Lv D W w8 bx s) := Lib.hid (by rw [hw8]; exact HX7.out.drewN HK.out q8)
        have HV8 : Hid (Lv D W w8 b s) := Lib.hid (by rw [hw8]; exact HV7.out.drewN HK.out q8)
        have HL8 := Lib.hid (lv_live HK.out HX8.out)
        obtain ⟨L, hL⟩ : ∃ L, L = dLive s := ⟨_, rfl⟩
        have HLL := Lib.hid hL
        rw [← hL] at HL8
        clear hw8 HX7 HV7 HM7 hL
        go_wp2_with fail
        refine HL8.out.mono ?_
        rintro e w9 ⟨A9, c9, rfl, hi9, -, hb9⟩
        have HX9 := Lib.hid (HX8.out.later HK.out hb9)
        have HV9 := Lib.hid (HV8.out.later HK.out hb9)
        have HI9 := Lib.hid hi9
        have HL9 := Lib.hid (lv_live HK.out HV9.out)
        rw [← HLL.out] at HL9
        clear hi9 hb9 HX8 HV8 HL8
        go_wp2_with fail
        refine HL9.out.mono ?_
        rintro e w10 ⟨A10, c10, rfl, hi10, -, hb10⟩
        have HV10 := Lib.hid (HV9.out.later HK.out hb10)
        have HI10 := Lib.hid hi10
        have HJ10 := Lib.hid (HI9.out.below hb10)
        clear hi10 hb10 HX9 HV9 HI9 HL9
        go_wp2_with fail
        refine (r3Same_any w10 A9 A10 _ _ c9 c10 L L HJ10.out HI10.out).mono ?_
        rintro e w11 ⟨rfl, q11, hw11⟩
        rw [decide_eq_true (rfl : L = L)]
        have HB11 : Hid (Below W.heap.size W w11) := Lib.hid (by rw [hw11]; exact below_drewN HV10.out.below q11)
        clear hw11 HV10 HI10 HJ10 HMM HLL
        have HG := Lib.hid (lv_get HK.out HB11.out B k d r (HY.out.below HB11.out) hkd (by omega))
        cases hgr : dGet r with
        | none =>
          rw [hgr] at HG
          clear hgr
          go_wp2_with fail
          refine HG.out.mono ?_
          rintro e w12 ⟨hb12, hg12⟩
          subst hg12
          have HB12 := Lib.hid (below_then HB11.out hb12 HB11.out.size)
          clear hb12 HG
          go_wp2
          go_ret
          exact ⟨rfl, HB12.out⟩
        | some t =>
          rw [hgr] at HG
          obtain ⟨hbk, -⟩ := dGet_back hgr
          have HBK := Lib.hid hbk
          clear hgr hbk
          go_wp2_with fail
          refine HG.out.mono ?_
          rintro e w12 ⟨hb12, by_, rfl, hy12⟩
          have HB12 := Lib.hid (below_then HB11.out hb12 HB11.out.size)
          have HY12 := Lib.hid hy12
          clear hb12 hy12 HG
          have HCV : Hid (∀ u : World, Below W.heap.size W u → (convert 23 9 (.slice B k d)).run Try.prog u = .ok (.string ⟨r.toArray⟩) u) := Lib.hid (fun u hu => str_of (HY.out.below hu) d)
          have HPY : Hid (∀ u : World, Below w12.heap.size w12 u → Calls Try.prog 21 #[.pointer (some ⟨by_, 0, none⟩)] u (BytesBack u r)) := Lib.hid (fun u hu => by
            have := lv_put HK.out (HY12.out.later HK.out hu)
            rw [HBK.out] at this
            exact this)
          have hbeq : (r == r) = true := by simp
          go_wp2_with fail
          refine wp_region_held_drew (S := fun w' => (convert 23 9 (.slice B k d)).run Try.prog w' = .ok (.string ⟨r.toArray⟩) w') (by kernel_rfl) (HCV.out _ HB12.out.drew) (fun hHeld => ?_)
          obtain ⟨u, hu⟩ : ∃ u, u = w12.drew := ⟨_, rfl⟩
          rw [← hu] at hHeld ⊢
          have HU : Hid (Below w12.heap.size w12 u) := Lib.hid (by rw [hu]; exact (Below.refl _ w12).drew)
          clear hu
          refine wpAnyH_take (i := 0) (oi := ?oia0) (v := ?va0) ?hia0 (by kernel_rfl) (by kernel_rfl) (by kernel_rfl) ?hQa0 (Or.inl ⟨?hwa0, ?hya0⟩) (by assumption) ?resta0
          case hia0 => (first | (simp only [List.getElem?_toArray, List.getElem?_cons_zero, List.getElem?_cons_succ]; rfl) | rfl)
          case hQa0 => exact fun _ _ _ h => h
          case hwa0 => rfl
          case hya0 => ((intro w hSw; go_simp); first | done | with_reducible rfl)
          try simp only [Act.put, List.setIfInBounds_toArray, List.set_cons_zero, List.set_cons_succ]
          refine wpAnyH_take (i := 1) (oi := ?oia1) (v := ?va1) ?hia1 (by kernel_rfl) (by kernel_rfl) (by kernel_rfl) ?hQa1 (Or.inl ⟨?hwa1, ?hya1⟩) (by assumption) ?resta1
          case hia1 => (first | (simp only [List.getElem?_toArray, List.getElem?_cons_zero, List.getElem?_cons_succ]; rfl) | rfl)
          case hQa1 => exact fun _ _ _ h => h
          case hwa1 => rfl
          case hya1 => ((intro w hSw; go_simp); first | done | with_reducible rfl)
          try simp only [Act.put, List.setIfInBounds_toArray, List.set_cons_zero, List.set_cons_succ]
          refine wpAnyH_take (i := 2) (oi := ?oia2) (v := ?va2) ?hia2 (by kernel_rfl) (by kernel_rfl) (by kernel_rfl) ?hQa2 (Or.inl ⟨?hwa2, ?hya2⟩) (by assumption) ?resta2
          case hia2 => (first | (simp only [List.getElem?_toArray, List.getElem?_cons_zero, List.getElem?_cons_succ]; rfl) | rfl)
          case hQa2 => exact fun _ _ _ h => h
          case hwa2 => rfl
          case hya2 => ((intro w hSw; go_simp); first | done | with_reducible rfl)
          try simp only [Act.put, List.setIfInBounds_toArray, List.set_cons_zero, List.set_cons_succ]
          refine wpAnyH_take (i := 3) (oi := ?oia3) (v := ?va3) ?hia3 (by kernel_rfl) (by kernel_rfl) (by kernel_rfl) ?hQa3 (Or.inl ⟨?hwa3, ?hya3⟩) (by assumption) ?resta3
          case hia3 => (first | (simp only [List.getElem?_toArray, List.getElem?_cons_zero, List.getElem?_cons_succ]; rfl) | rfl)
          case hQa3 => exact fun _ _ _ h => h
          case hwa3 => rfl
          case hya3 => ((intro w hSw; go_simp); first | done | with_reducible rfl)
          try simp only [Act.put, List.setIfInBounds_toArray, List.set_cons_zero, List.set_cons_succ]
          refine wpAnyH_take (i := 4) (oi := ?oia4) (v := ?va4) ?hia4 (by kernel_rfl) (by kernel_rfl) (by kernel_rfl) ?hQa4 (Or.inl ⟨?hwa4, ?hya4⟩) (by assumption) ?resta4
          case hia4 => (first | (simp only [List.getElem?_toArray, List.getElem?_cons_zero, List.getElem?_cons_succ]; rfl) | rfl)
          case hQa4 => exact fun _ _ _ h => h
          case hwa4 => rfl
          case hya4 => ((intro w hSw; go_simp); first | done | with_reducible rfl)
          try simp only [Act.put, List.setIfInBounds_toArray, List.set_cons_zero, List.set_cons_succ]
          refine wpAnyH_take (i := 5) (oi := ?oia5) (v := ?va5) ?hia5 (by kernel_rfl) (by kernel_rfl) (by kernel_rfl) ?hQa5 (Or.inl ⟨?hwa5, ?hya5⟩) (by assumption) ?resta5
          case hia5 => (first | (simp only [List.getElem?_toArray, List.getElem?_cons_zero, List.getElem?_cons_succ]; rfl) | rfl)
          case hQa5 => exact fun _ _ _ h => h
          case hwa5 => rfl
          case hya5 => ((intro w hSw; go_simp); first | done | with_reducible rfl)
          try simp only [Act.put, List.setIfInBounds_toArray, List.set_cons_zero, List.set_cons_succ]
          refine wpAnyH_take (i := 6) (oi := ?oia6) (v := ?va6) ?hia6 (by kernel_rfl) (by kernel_rfl) (by kernel_rfl) ?hQa6 (Or.inl ⟨?hwa6, ?hya6⟩) (by assumption) ?resta6
          case hia6 => (first | (simp only [List.getElem?_toArray, List.getElem?_cons_zero, List.getElem?_cons_succ]; rfl) | rfl)
          case hQa6 => exact fun _ _ _ h => h
          case hwa6 => rfl
          case hya6 => ((intro w hSw; go_simp); first | done | with_reducible rfl)
          try simp only [Act.put, List.setIfInBounds_toArray, List.set_cons_zero, List.set_cons_succ]
          refine wpAnyH_take (i := 9) (oi := ?oia9) (v := ?va9) ?hia9 (by kernel_rfl) (by kernel_rfl) (by kernel_rfl) ?hQa9 (Or.inl ⟨?hwa9, ?hya9⟩) (by assumption) ?resta9
          case hia9 => (first | (simp only [List.getElem?_toArray, List.getElem?_cons_zero, List.getElem?_cons_succ]; rfl) | rfl)
          case hQa9 => exact fun _ _ _ h => h
          case hwa9 => rfl
          case hya9 => ((intro w hSw; go_simp); first | done | with_reducible rfl)
          try simp only [Act.put, List.setIfInBounds_toArray, List.set_cons_zero, List.set_cons_succ]
          refine wpAnyH_take (i := 10) (oi := ?oia10) (v := ?va10) ?hia10 (by kernel_rfl) (by kernel_rfl) (by kernel_rfl) ?hQa10 (Or.inl ⟨?hwa10, ?hya10⟩) (by assumption) ?resta10
          case hia10 => (first | (simp only [List.getElem?_toArray, List.getElem?_cons_zero, List.getElem?_cons_succ]; rfl) | rfl)
          case hQa10 => exact fun _ _ _ h => h
          case hwa10 => rfl
          case hya10 => ((intro w hSw; go_simp); first | done | with_reducible rfl)
          try simp only [Act.put, List.setIfInBounds_toArray, List.set_cons_zero, List.set_cons_succ]
          refine wpAnyH_ready (rs := [7]) (by kernel_rfl) (by simp) ?_
          refine AllReadyH.cons (o := ?ob) ?hcb ?stb AllReadyH.nil
          case hcb => (simp only [List.getElem?_toArray, List.getElem?_cons_zero, List.getElem?_cons_succ]; rfl)
          intro K hK
          go_simp
          refine (HPY.out u HU.out).mono ?_
          rintro e u2 ⟨A13, c13, rfl, hi13, -, -, hb13⟩
          have HB13 := Lib.hid (below_then HB12.out (below_then HU.out hb13 HU.out.size) HB12.out.size)
          have HI13 := Lib.hid hi13
          clear hi13 hb13
          go_wp2_with fail
          refine hK.out _ _ (HCV.out _ HB13.out) (fun _ => ?_)
          clear hK K
          refine heldMore (S' := fun w' => (convert 23 9 (.slice B k d)).run Try.prog w' = .ok (.string ⟨r.toArray⟩) w' ∧ (convert 23 9 (.slice A13 r.length c13)).run Try.prog w' = .ok (.string ⟨r.toArray⟩) w') (fun w h => h.1) _ _ _ _ ?_
          have hHeld2 : (fun w' => (convert 23 9 (.slice B k d)).run Try.prog w' = .ok (.string ⟨r.toArray⟩) w' ∧ (convert 23 9 (.slice A13 r.length c13)).run Try.prog w' = .ok (.string ⟨r.toArray⟩) w') u2 := ⟨HCV.out _ HB13.out, str_of HI13.out c13⟩
          try simp only [Act.put, List.setIfInBounds_toArray, List.set_cons_zero, List.set_cons_succ]
          refine wpAnyH_take (i := 8) (oi := ?oic8) (v := ?vc8) ?hic8 (by kernel_rfl) (by kernel_rfl) (by kernel_rfl) ?hQc8 (Or.inl ⟨?hwc8, ?hyc8⟩) (by assumption) ?restc8
          case hic8 => (first | (simp only [List.getElem?_toArray, List.getElem?_cons_zero, List.getElem?_cons_succ]; rfl) | rfl)
          case hQc8 => exact fun _ _ _ h => h
          case hwc8 => rfl
          case hyc8 => ((intro w hSw; obtain ⟨hs1, hs2⟩ := hSw; go_simp); first | done | with_reducible rfl)
          try simp only [Act.put, List.setIfInBounds_toArray, List.set_cons_zero, List.set_cons_succ]
          refine wpAnyH_take (i := 11) (oi := ?oic11) (v := ?vc11) ?hic11 (by kernel_rfl) (by kernel_rfl) (by kernel_rfl) ?hQc11 (Or.inl ⟨?hwc11, ?hyc11⟩) (by assumption) ?restc11
          case hic11 => (first | (simp only [List.getElem?_toArray, List.getElem?_cons_zero, List.getElem?_cons_succ]; rfl) | rfl)
          case hQc11 => exact fun _ _ _ h => h
          case hwc11 => rfl
          case hyc11 => ((intro w hSw; obtain ⟨hs1, hs2⟩ := hSw; go_simp); first | done | with_reducible rfl)
          try simp only [Act.put, List.setIfInBounds_toArray, List.set_cons_zero, List.set_cons_succ]
          refine wpAnyH_take (i := 12) (oi := ?oic12) (v := ?vc12) ?hic12 (by kernel_rfl) (by kernel_rfl) (by kernel_rfl) ?hQc12 (Or.inl ⟨?hwc12, ?hyc12⟩) (by assumption) ?restc12
          case hic12 => (first | (simp only [List.getElem?_toArray, List.getElem?_cons_zero, List.getElem?_cons_succ]; rfl) | rfl)
          case hQc12 => exact fun _ _ _ h => h
          case hwc12 => rfl
          case hyc12 => ((intro w hSw; obtain ⟨hs1, hs2⟩ := hSw; go_simp); first | done | with_reducible rfl)
          try simp only [Act.put, List.setIfInBounds_toArray, List.set_cons_zero, List.set_cons_succ]
          refine wpAnyH_take (i := 13) (oi := ?oic13) (v := ?vc13) ?hic13 (by kernel_rfl) (by kernel_rfl) (by kernel_rfl) ?hQc13 (Or.inl ⟨?hwc13, ?hyc13⟩) (by assumption) ?restc13
          case hic13 => (first | (simp only [List.getElem?_toArray, List.getElem?_cons_zero, List.getElem?_cons_succ]; rfl) | rfl)
          case hQc13 => exact fun _ _ _ h => h
          case hwc13 => rfl
          case hyc13 => ((intro w hSw; obtain ⟨hs1, hs2⟩ := hSw; go_simp); first | done | with_reducible rfl)
          try simp only [Act.put, List.setIfInBounds_toArray, List.set_cons_zero, List.set_cons_succ]
          refine wpAnyH_done (by kernel_rfl) ?_ _
          go_wp2
          go_ret
          exact ⟨rfl, HB13.out⟩
  · have hm64' : (64 : Int) < (m : Int) := by omega
    go_wp2_with fail
    refine (lv_none HK.out w1 m (by unfold fits64; omega) (by omega)).mono ?_
    rintro e w2 ⟨rfl, hb2⟩
    have HB2 := Lib.hid (below_then HB1.out hb2 HB1.out.size)
    clear hb2
    by_cases h5 : 500 < n
    · have h5' : (500 : Int) < (n : Int) := by omega
      go_wp2
      go_ret
      exact ⟨rfl, HB2.out⟩
    by_cases h6 : 5000 < k
    · have h5' : ¬ (500 : Int) < (n : Int) := by omega
      have h6' : (5000 : Int) < (k : Int) := by omega
      go_wp2
      go_ret
      exact ⟨rfl, HB2.out⟩
    have h5' : ¬ (500 : Int) < (n : Int) := by omega
    have h6' : ¬ (5000 : Int) < (k : Int) := by omega
    go_wp2
    go_ret
    exact ⟨rfl, HB2.out⟩
end Go.Proofs.Ytdmhaaplgkilpaa
