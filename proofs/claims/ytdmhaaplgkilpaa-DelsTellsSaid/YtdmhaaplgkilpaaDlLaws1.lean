/- DelsTells. -/
import Derived.Test.YtdmhaaplgkilpaaDlLaws2
import Derived.Test.YtdmhaaplgkilpaaDlRef2
import Derived.Test.YtdmhaaplgkilpaaDlRef3
import Derived.Test.YtdmhaaplgkilpaaDlRef4
namespace Go.Proofs.Ytdmhaaplgkilpaa
open Go.RowKit Go.Maps Go.WideMaps
set_option linter.unusedSimpArgs false

/-- The program's and the document's, side by side and apart. -/
def Two (D : DelsSt) (W w : World) (b : Nat) (s : DSt) (rb : Nat) (t : DSt) : Prop := ∃ F L v, D w F b s ∧ RAt w W.heap.size rb t L v ∧ (∀ i, F i → W.heap.size ≤ i) ∧ ¬ F rb ∧ (∀ g, v.ownBlock = some g → ¬ F g) ∧ Below W.heap.size W w
theorem Two.lv {D : DelsSt} {W w : World} {b rb : Nat} {s t : DSt} (h : Two D W w b s rb t) : Lv D W w b s := by
  obtain ⟨F, L, v, h1, h2, h3, h4, h5, h6⟩ := h
  exact ⟨⟨F, h1, h3⟩, h6⟩
theorem Two.below {D : DelsSt} {W w : World} {b rb : Nat} {s t : DSt} (h : Two D W w b s rb t) : Below W.heap.size W w := h.lv.below
theorem Two.later {D : DelsSt} {W w w' : World} {b rb : Nat} {s t : DSt} (h : Two D W w b s rb t) (hD : DelsOk D) (hb : Below w.heap.size w w') : Two D W w' b s rb t := by
  obtain ⟨F, L, v, h1, h2, h3, h4, h5, h6⟩ := h
  exact ⟨F, L, v, hD.below h1 hb, h2.later hb, h3, h4, h5, below_then h6 hb h6.size⟩
theorem two_new {D : DelsSt} (hD : DelsOk D) {W w w' : World} {b rb : Nat} {s t : DSt} {L : List Int} {v : Value} (h : Lv D W w b s) (hr : RAt w' w.heap.size rb t L v) (hb : Below w.heap.size w w') : Two D W w' b s rb t := by
  obtain ⟨F, h1, h2⟩ := h.at_
  exact ⟨F, L, v, hD.below h1 hb, ⟨hr.blk, Go.Joins.ownsRow_le hr.row h.below.size, hr.few, hr.rng, hr.mem, hr.cnt, Nat.le_trans h.below.size hr.new⟩, h2, fun hF => by have := hD.lt h1 _ hF; have := hr.new; omega, fun g hg hF => by have h3 := hD.lt h1 _ hF; have h4 := (hr.row.lt g hg).1; omega, below_then h.below hb h.below.size⟩
theorem two_addD {D : DelsSt} (hD : DelsOk D) {W w : World} {b rb : Nat} {s t : DSt} (h : Two D W w b s rb t) (i : Int) (hi : fits64 i) :
    Calls Try.prog 16 #[.pointer (some ⟨b, 0, none⟩), .int .i64 i] w fun e w' => e = .returned (.bool (dCan s i)) ∧ Two D W w' b (dAdd s i) rb t := by
  obtain ⟨F, L, v, h1, h2, h3, h4, h5, h6⟩ := h
  refine (hD.add h1 i hi).mono ?_
  rintro e w' ⟨rfl, F', k1, k2, k3⟩
  refine ⟨rfl, F', L, v, k1, h2.keep k2 h4 h5, fun j hj => ?_, fun hj => ?_, fun g hg hj => ?_, h6.trans (k2.toBelow h6.size h3)⟩
  · rcases k3 j hj with h7 | h7
    · exact h3 j h7
    · exact Nat.le_trans h6.size h7
  · rcases k3 rb hj with h7 | h7
    · exact h4 h7
    · have := h2.blk.lt
      omega
  · rcases k3 g hj with h7 | h7
    · exact h5 g hg h7
    · have := (h2.row.lt g hg).2
      omega
theorem two_addR {D : DelsSt} (hD : DelsOk D) {W w : World} {b rb : Nat} {s t : DSt} (h : Two D W w b s rb t) (i : Int) (hi : fits64 i) :
    Calls Try.prog 17 #[.pointer (some ⟨rb, 0, none⟩), .int .i64 i] w fun e w' => e = .returned (.bool (dCan t i)) ∧ Two D W w' b s rb (dAdd t i) := by
  obtain ⟨F, L, v, h1, h2, h3, h4, h5, h6⟩ := h
  refine (r14Add_any h2 h6.size i hi).mono ?_
  rintro e w' ⟨rfl, L', v', k1, k2, k3⟩
  refine ⟨rfl, F, L', v', hD.keep h1 (fun j hj => k2.block j (hD.lt h1 j hj) (fun e => ?_)) k2.size, k1, h3, h4, fun g hg hj => ?_, h6.trans (k2.toBelow h6.size (fun j hj => ?_))⟩
  · rcases e with rfl | e
    · exact h4 hj
    · exact h5 j e hj
  · rcases k3 with k3 | k3
    · exact h5 g (k3 ▸ hg) hj
    · have h7 := k3 g hg
      have h8 := hD.lt h1 g hj
      omega
  · rcases hj with rfl | hj
    · exact h2.new
    · exact (h2.row.lt j hj).1
theorem rcell {w : World} {base b : Nat} {s : DSt} {L : List Int} {v : Value} (h : RAt w base b s L v) : w.cell? ⟨b, 0, none⟩ = some (.int .i64 s.n) := by
  have c0 := h.blk.cell 0
  simpa only [List.getElem?_toArray, List.getElem?_cons_zero, List.getElem?_cons_succ] using c0
theorem eqR14Nil (w : World) (p : Option Addr) : (binOp .eql 29 (.pointer p) (.pointer none)).run Try.prog w = .ok (.bool p.isNone) w := by
  have h : ∀ d : Nat, (Op.equalIn (d + 1) 29 (.pointer p) (.pointer none)).run Try.prog w = .ok p.isNone w := fun d => by
    cases p <;> simp [Op.equalIn, run_underlying Try.underlying29]
  simp only [binOp]
  simp [Op.equal, Op.maxDepth, h 9999]
theorem neR14Nil (w : World) (p : Option Addr) : (binOp .neq 29 (.pointer p) (.pointer none)).run Try.prog w = .ok (.bool !p.isNone) w := by
  have h : ∀ d : Nat, (Op.equalIn (d + 1) 29 (.pointer p) (.pointer none)).run Try.prog w = .ok p.isNone w := fun d => by
    cases p <;> simp [Op.equalIn, run_underlying Try.underlying29]
  simp only [binOp]
  simp [Op.equal, Op.maxDepth, h 9999]

set_option maxHeartbeats 32000000 in
set_option maxRecDepth 100000 in
theorem delsTells_any {D : DelsSt} (hD : DelsOk D) (W : World) (n : Int) (hnf : fits64 n) (A : Option Addr) (m c : Nat) (l : List Int) (hl : IntsIn W A m l) (B : Option Addr) (k d : Nat) (r : Nm) (hr : BytesIn W B k r) (hkd : k ≤ d) :
    Calls Try.prog 3 #[.int .i64 n, .slice A m c, .slice B k d] W fun e w' => e = .returned (.bool true) ∧ Below W.heap.size W w' := by
  have hep := eqDelsNil
  have hnp := neDelsNil
  have her := eqR14Nil
  have hnr := neR14Nil
  have HK := Lib.hid hD
  have HH := Lib.hid (dlHead_any hD W)
  have HX := Lib.hid hl
  have HY := Lib.hid hr
  have hn63 := hl.1
  have hk63 := hr.1
  unfold maxLen at hn63 hk63
  clear hD hl hr
  go_enter Try.func3, Try.ntmps3
  go_wp2_with fail
  refine HH.out.mono ?_
  rintro e w1 ⟨rfl, hb1⟩
  have HB1 := Lib.hid hb1
  clear hb1 HH
  by_cases h5 : 500 < m
  · have h5' : (500 : Int) < (m : Int) := by omega
    go_wp2
    go_ret
    exact ⟨rfl, HB1.out⟩
  by_cases h6 : 5000 < k
  · have h5' : ¬ (500 : Int) < (m : Int) := by omega
    have h6' : (5000 : Int) < (k : Int) := by omega
    go_wp2
    go_ret
    exact ⟨rfl, HB1.out⟩
  have h5' : ¬ (500 : Int) < (m : Int) := by omega
  have h6' : ¬ (5000 : Int) < (k : Int) := by omega
  go_wp2_with fail
  refine (lv_get HK.out HB1.out B k d r (HY.out.below HB1.out) hkd (by omega)).mono ?_
  rintro e w2 ⟨hb2, hg2⟩
  have HB2 := Lib.hid (below_then HB1.out hb2 HB1.out.size)
  have HG2 := Lib.hid hg2
  have HCR := Lib.hid (r14Get_any w2 B k d r (HY.out.below HB2.out) hkd (by omega))
  clear hb2 hg2
  cases hgr : dGet r with
  | none =>
    have hg2 := HG2.out
    rw [hgr] at hg2
    subst hg2
    have HGR := Lib.hid hgr
    clear HG2 hgr
    go_wp2_with fail
    refine HCR.out.mono ?_
    rintro e w3 ⟨hb3, hg3⟩
    rw [HGR.out] at hg3
    subst hg3
    have HB3 := Lib.hid (below_then HB2.out hb3 HB2.out.size)
    clear hb3 HCR
    go_wp2_with fail
    go_quiet (fail)
    obtain ⟨wq, hwq⟩ : ∃ wq, wq = w3.drewN nq := ⟨_, rfl⟩
    rw [← hwq]
    have HBQ : Hid (Below W.heap.size W wq) := Lib.hid (by rw [hwq]; exact below_drewN HB3.out nq)
    clear hwq HB2 HB3 HGR
    by_cases hN : 0 ≤ n ∧ n ≤ 64
    · obtain ⟨N, rfl⟩ := Int.eq_ofNat_of_zero_le hN.1
      have hN64 : N ≤ 64 := by omega
      go_wp2_with fail
      refine (lv_new HK.out HBQ.out N hN64).mono ?_
      rintro e w8 ⟨b, rfl, hl8⟩
      have HL8 := Lib.hid hl8
      clear hl8
      go_wp2_with fail
      refine (r14New_yes w8 N hN64).mono ?_
      rintro e w9 ⟨rfl, hr9, hb9⟩
      obtain ⟨rb, hrb⟩ : ∃ rb, rb = w8.heap.size := ⟨_, rfl⟩
      have HT9 : Hid (Two D W w9 b (dNew N) rb (dNew N)) := Lib.hid (by rw [hrb]; exact two_new HK.out HL8.out hr9 hb9)
      rw [← hrb]
      clear hr9 hb9 hrb HL8
      go_wp2
      go_loopw [14] (fun iv wr => ∃ (i : Nat), i ≤ m ∧ iv = .int .i64 i ∧ Two D W wr b (dUp (dNew N) l i) rb (dUp (dNew N) l i)) (fun iv _ => m - (intOf iv).toNat)
      case atStart => exact ⟨0, by omega, rfl, HT9.out⟩
      case round =>
        obtain ⟨i, hi, rfl, ht⟩ := hrel
        have HT := Lib.hid ht
        clear ht
        rcases Nat.lt_or_ge i m with hlt | hge
        · have hlt' : (i : Int) < (m : Int) := by omega
          have p0 : (0 : Int) ≤ (i : Int) := by omega
          have hw1 : IntKind.i64.wrap ((i : Int) + 1) = (i : Int) + 1 := IntWalk.i64_in _ (by omega)
          obtain ⟨pa, x, rfl, hx, x0, -, -⟩ := (HX.out.below HT.out.below).at i hlt
          have HXC : Hid (∀ u : World, Below W.heap.size W u → u.cell? (pa.add i) = some (.int .i64 x)) := Lib.hid (fun u hu => by
            obtain ⟨pb, y, hpb, hy, y0, -, -⟩ := (HX.out.below hu).at i hlt
            obtain rfl := Option.some.inj hpb
            rw [hx] at hy
            obtain rfl := Option.some.inj hy
            exact y0)
          have HNX := Lib.hid (dUp_take (s := dNew N) hx)
          have HFX := Lib.hid (ints_fit HX.out hx)
          obtain ⟨s, hs⟩ : ∃ s, s = dUp (dNew N) l i := ⟨_, rfl⟩
          rw [← hs] at HT HNX
          obtain ⟨wo, hwo⟩ : ∃ zz, zz = wr := ⟨_, rfl⟩
          subst hwo
          clear hx hs
          go_wp2_with fail
          refine (two_addD HK.out HT.out x HFX.out).mono ?_
          rintro e w10 ⟨rfl, ht10⟩
          have HT10 := Lib.hid ht10
          have y0 := HXC.out w10 HT10.out.below
          clear ht10 x0
          go_wp2_with fail
          refine (two_addR HK.out HT10.out x HFX.out).mono ?_
          rintro e w11 ⟨rfl, ht11⟩
          have HT11 := Lib.hid ht11
          have z0 : ∀ q, (w11.drewN q).cell? (pa.add i) = some (.int .i64 x) := fun q => HXC.out w11 HT11.out.below
          obtain ⟨tc, htc⟩ : ∃ tc, tc = dCan s x := ⟨_, rfl⟩
          rw [← htc]
          have d1 : (tc != tc) = false := by simp
          obtain ⟨F2, L2, v2, -, hr2, -, -, -, -⟩ := HT11.out
          have HR2 := Lib.hid hr2
          obtain ⟨A2, c2, hv2⟩ := own_slice hr2.row
          subst hv2
          obtain ⟨s2, hs2⟩ : ∃ s2, s2 = dAdd s x := ⟨_, rfl⟩
          rw [← hs2] at HR2 HNX
          have HT12 : Hid (Two D W w11 b s2 rb s2) := Lib.hid (by rw [hs2]; exact HT11.out)
          have hcnt := HR2.out.cnt
          obtain ⟨M, hM⟩ : ∃ M, M = dMany s2 := ⟨_, rfl⟩
          rw [← hM] at hcnt
          have k1 : ∀ q, (w11.drewN q).cell? ⟨rb, 1, none⟩ = some (.slice A2 M c2) := fun q => by
            have c1 := HR2.out.blk.cell 1
            simp only [List.getElem?_toArray, List.getElem?_cons_zero, List.getElem?_cons_succ] at c1
            rw [← hcnt]
            exact c1
          have HHD : Hid (∀ q, Calls Try.prog 18 #[.pointer (some ⟨b, 0, none⟩), .int .i64 x] (w11.drewN q) fun e w' => e = .returned (.bool (dHas s2 x)) ∧ ∃ p, w' = w11.drewN p) := Lib.hid (fun q => by
            refine (lv_has HK.out (HT12.out.lv.drewN HK.out q) x HFX.out).mono ?_
            rintro e w' ⟨rfl, p, rfl⟩
            exact ⟨rfl, q + p, drewN_add _ _ _⟩)
          have HHR : Hid (∀ q, Calls Try.prog 19 #[.pointer (some ⟨rb, 0, none⟩), .int .i64 x] (w11.drewN q) fun e w' => e = .returned (.bool (dHas s2 x)) ∧ ∃ p, w' = w11.drewN p) := Lib.hid (fun q => by
            refine (r14Has_any (HR2.out.drewN q) x).mono ?_
            rintro e w' ⟨rfl, rfl⟩
            exact ⟨rfl, q, rfl⟩)
          have HMN : Hid (∀ q, Calls Try.prog 20 #[.pointer (some ⟨b, 0, none⟩)] (w11.drewN q) fun e w' => e = .returned (.int .i64 M) ∧ ∃ p, w' = w11.drewN p) := Lib.hid (fun q => by
            rw [hM]
            refine (lv_many HK.out (HT12.out.lv.drewN HK.out q)).mono ?_
            rintro e w' ⟨rfl, p, rfl⟩
            exact ⟨rfl, q + p, drewN_add _ _ _⟩)
          obtain ⟨th, hth⟩ : ∃ th, th = dHas s2 x := ⟨_, rfl⟩
          rw [← hth] at HHD HHR
          have d2 : (th != th) = false := by simp
          have d3 : ((M : Int) != (M : Int)) = false := by simp
          clear htc hs2 hM hth hcnt HT11 HT10 HT hr2
          go_wp2_with fail
          go_quiet (first | (go_at_call 18; exact HHD.out _) | (go_at_call 19; exact HHR.out _) | (go_at_call 20; exact HMN.out _))
          go_wp2
          go_roundw
          case rel => exact ⟨i + 1, by omega, by go_num, by rw [HNX.out]; exact HT12.out.later HK.out (below_drewN (Below.refl _ _) _)⟩
          case measure => simp [intOf]; omega
        · have hlz : ¬ ((i : Int) < (m : Int)) := by omega
          obtain ⟨s, hs⟩ : ∃ s, s = dUp (dNew N) l i := ⟨_, rfl⟩
          rw [← hs] at HT
          clear hs
          have hbeq : (dPut s == dPut s) = true := by simp
          obtain ⟨wo, hwo⟩ : ∃ zz, zz = wr := ⟨_, rfl⟩
          subst hwo
          go_wp2_with fail
          refine wp_region_held_drew (S := fun _ => True) (by kernel_rfl) trivial (fun hHeld => ?_)
          obtain ⟨u, hu⟩ : ∃ u, u = wo.drew := ⟨_, rfl⟩
          rw [← hu]
          have HU : Hid (Below wo.heap.size wo u) := Lib.hid (by rw [hu]; exact (Below.refl _ wo).drew)
          clear hu
          refine wpAnyH_take (i := 0) (oi := ?oiyh0) (v := ?vyh0) ?hiyh0 (by kernel_rfl) (by kernel_rfl) (by kernel_rfl) ?hQyh0 (Or.inl ⟨?hwyh0, ?hyyh0⟩) (by assumption) ?restyh0
          case hiyh0 => (first | (simp only [List.getElem?_toArray, List.getElem?_cons_zero, List.getElem?_cons_succ]; rfl) | rfl)
          case hQyh0 => exact fun _ _ _ h => h
          case hwyh0 => rfl
          case hyyh0 => ((intro w hSw; go_simp); first | done | with_reducible rfl)
          try simp only [Act.put, List.setIfInBounds_toArray, List.set_cons_zero, List.set_cons_succ]
          refine wpAnyH_take (i := 1) (oi := ?oiyh1) (v := ?vyh1) ?hiyh1 (by kernel_rfl) (by kernel_rfl) (by kernel_rfl) ?hQyh1 (Or.inl ⟨?hwyh1, ?hyyh1⟩) (by assumption) ?restyh1
          case hiyh1 => (first | (simp only [List.getElem?_toArray, List.getElem?_cons_zero, List.getElem?_cons_succ]; rfl) | rfl)
          case hQyh1 => exact fun _ _ _ h => h
          case hwyh1 => rfl
          case hyyh1 => ((intro w hSw; go_simp); first | done | with_reducible rfl)
          try simp only [Act.put, List.setIfInBounds_toArray, List.set_cons_zero, List.set_cons_succ]
          refine wpAnyH_take (i := 2) (oi := ?oiyh2) (v := ?vyh2) ?hiyh2 (by kernel_rfl) (by kernel_rfl) (by kernel_rfl) ?hQyh2 (Or.inl ⟨?hwyh2, ?hyyh2⟩) (by assumption) ?restyh2
          case hiyh2 => (first | (simp only [List.getElem?_toArray, List.getElem?_cons_zero, List.getElem?_cons_succ]; rfl) | rfl)
          case hQyh2 => exact fun _ _ _ h => h
          case hwyh2 => rfl
          case hyyh2 => ((intro w hSw; go_simp); first | done | with_reducible rfl)
          try simp only [Act.put, List.setIfInBounds_toArray, List.set_cons_zero, List.set_cons_succ]
          refine wpAnyH_take (i := 4) (oi := ?oiyh4) (v := ?vyh4) ?hiyh4 (by kernel_rfl) (by kernel_rfl) (by kernel_rfl) ?hQyh4 (Or.inl ⟨?hwyh4, ?hyyh4⟩) (by assumption) ?restyh4
          case hiyh4 => (first | (simp only [List.getElem?_toArray, List.getElem?_cons_zero, List.getElem?_cons_succ]; rfl) | rfl)
          case hQyh4 => exact fun _ _ _ h => h
          case hwyh4 => rfl
          case hyyh4 => ((intro w hSw; go_simp); first | done | with_reducible rfl)
          try simp only [Act.put, List.setIfInBounds_toArray, List.set_cons_zero, List.set_cons_succ]
          refine wpAnyH_ready (rs := [3]) (by kernel_rfl) (by simp) ?_
          refine AllReadyH.cons (o := ?oyi) ?hcyi ?styi AllReadyH.nil
          case hcyi => (simp only [List.getElem?_toArray, List.getElem?_cons_zero, List.getElem?_cons_succ]; rfl)
          intro K hK
          go_simp
          refine (lv_live HK.out (HT.out.lv.later HK.out HU.out)).mono ?_
          rintro e x1 ⟨A5, c5, rfl, hi5, -, hb5⟩
          have HT1 := Lib.hid ((HT.out.later HK.out HU.out).later HK.out hb5)
          have HI5 := Lib.hid hi5
          clear hi5 hb5
          go_wp2_with fail
          refine hK.out _ _ trivial (fun _ => ?_)
          clear hK K
          try simp only [Act.put, List.setIfInBounds_toArray, List.set_cons_zero, List.set_cons_succ]
          refine wpAnyH_ready (rs := [5]) (by kernel_rfl) (by simp) ?_
          refine AllReadyH.cons (o := ?oyj) ?hcyj ?styj AllReadyH.nil
          case hcyj => (simp only [List.getElem?_toArray, List.getElem?_cons_zero, List.getElem?_cons_succ]; rfl)
          intro K hK
          go_simp
          obtain ⟨F1, L1, v1, -, hr1, -, -, -, -⟩ := HT1.out
          refine (r14Live_any hr1).mono ?_
          rintro e x2 ⟨A6, c6, rfl, hi6, -, hb6⟩
          have HT2 := Lib.hid (HT1.out.later HK.out hb6)
          have HI6 := Lib.hid hi6
          have HJ6 := Lib.hid (HI5.out.below hb6)
          clear hi6 hb6 hr1 HT1 HI5
          go_wp2_with fail
          refine hK.out _ _ trivial (fun _ => ?_)
          clear hK K
          try simp only [Act.put, List.setIfInBounds_toArray, List.set_cons_zero, List.set_cons_succ]
          refine wpAnyH_ready (rs := [6]) (by kernel_rfl) (by simp) ?_
          refine AllReadyH.cons (o := ?oyk) ?hcyk ?styk AllReadyH.nil
          case hcyk => (simp only [List.getElem?_toArray, List.getElem?_cons_zero, List.getElem?_cons_succ]; rfl)
          intro K hK
          go_simp
          refine (r3Same_any x2 A5 A6 _ _ c5 c6 _ _ HJ6.out HI6.out).mono ?_
          rintro e x3 ⟨rfl, q3, hx3⟩
          rw [decide_eq_true (rfl : dLive s = dLive s)]
          have HT3 : Hid (Two D W x3 b s rb s) := Lib.hid (by rw [hx3]; exact HT2.out.later HK.out (below_drewN (Below.refl _ _) q3))
          clear hx3 HI6 HJ6 HT2
          go_wp2_with fail
          refine hK.out _ _ trivial (fun _ => ?_)
          clear hK K
          try simp only [Act.put, List.setIfInBounds_toArray, List.set_cons_zero, List.set_cons_succ]
          refine wpAnyH_take (i := 7) (oi := ?oiyl7) (v := ?vyl7) ?hiyl7 (by kernel_rfl) (by kernel_rfl) (by kernel_rfl) ?hQyl7 (Or.inl ⟨?hwyl7, ?hyyl7⟩) (by assumption) ?restyl7
          case hiyl7 => (first | (simp only [List.getElem?_toArray, List.getElem?_cons_zero, List.getElem?_cons_succ]; rfl) | rfl)
          case hQyl7 => exact fun _ _ _ h => h
          case hwyl7 => rfl
          case hyyl7 => ((intro w hSw; go_simp); first | done | with_reducible rfl)
          try simp only [Act.put, List.setIfInBounds_toArray, List.set_cons_zero, List.set_cons_succ]
          refine wpAnyH_take (i := 8) (oi := ?oiyl8) (v := ?vyl8) ?hiyl8 (by kernel_rfl) (by kernel_rfl) (by kernel_rfl) ?hQyl8 (Or.inl ⟨?hwyl8, ?hyyl8⟩) (by assumption) ?restyl8
          case hiyl8 => (first | (simp only [List.getElem?_toArray, List.getElem?_cons_zero, List.getElem?_cons_succ]; rfl) | rfl)
          case hQyl8 => exact fun _ _ _ h => h
          case hwyl8 => rfl
          case hyyl8 => ((intro w hSw; go_simp); first | done | with_reducible rfl)
          try simp only [Act.put, List.setIfInBounds_toArray, List.set_cons_zero, List.set_cons_succ]
          refine wpAnyH_take (i := 9) (oi := ?oiyl9) (v := ?vyl9) ?hiyl9 (by kernel_rfl) (by kernel_rfl) (by kernel_rfl) ?hQyl9 (Or.inl ⟨?hwyl9, ?hyyl9⟩) (by assumption) ?restyl9
          case hiyl9 => (first | (simp only [List.getElem?_toArray, List.getElem?_cons_zero, List.getElem?_cons_succ]; rfl) | rfl)
          case hQyl9 => exact fun _ _ _ h => h
          case hwyl9 => rfl
          case hyyl9 => ((intro w hSw; go_simp); first | done | with_reducible rfl)
          try simp only [Act.put, List.setIfInBounds_toArray, List.set_cons_zero, List.set_cons_succ]
          refine wpAnyH_take (i := 12) (oi := ?oiyl12) (v := ?vyl12) ?hiyl12 (by kernel_rfl) (by kernel_rfl) (by kernel_rfl) ?hQyl12 (Or.inl ⟨?hwyl12, ?hyyl12⟩) (by assumption) ?restyl12
          case hiyl12 => (first | (simp only [List.getElem?_toArray, List.getElem?_cons_zero, List.getElem?_cons_succ]; rfl) | rfl)
          case hQyl12 => exact fun _ _ _ h => h
          case hwyl12 => rfl
          case hyyl12 => ((intro w hSw; go_simp); first | done | with_reducible rfl)
          try simp only [Act.put, List.setIfInBounds_toArray, List.set_cons_zero, List.set_cons_succ]
          refine wpAnyH_ready (rs := [10]) (by kernel_rfl) (by simp) ?_
          refine AllReadyH.cons (o := ?oym) ?hcym ?stym AllReadyH.nil
          case hcym => (simp only [List.getElem?_toArray, List.getElem?_cons_zero, List.getElem?_cons_succ]; rfl)
          intro K hK
          go_simp
          refine (lv_put HK.out HT3.out.lv).mono ?_
          rintro e x4 ⟨A7, c7, rfl, hi7, -, -, hb7⟩
          have HT4 := Lib.hid (HT3.out.later HK.out hb7)
          have HI7 := Lib.hid hi7
          clear hi7 hb7 HT3
          go_wp2_with fail
          refine hK.out _ _ trivial (fun _ => ?_)
          clear hK K
          refine heldMore (S' := fun w' => True ∧ (convert 23 9 (.slice A7 (dPut s).length c7)).run Try.prog w' = .ok (.string ⟨(dPut s).toArray⟩) w') (fun _ _ => trivial) _ _ _ _ ?_
          have hHeld4 : (fun w' => True ∧ (convert 23 9 (.slice A7 (dPut s).length c7)).run Try.prog w' = .ok (.string ⟨(dPut s).toArray⟩) w') x4 := ⟨trivial, str_of HI7.out c7⟩
          try simp only [Act.put, List.setIfInBounds_toArray, List.set_cons_zero, List.set_cons_succ]
          refine wpAnyH_take (i := 11) (oi := ?oiyn11) (v := ?vyn11) ?hiyn11 (by kernel_rfl) (by kernel_rfl) (by kernel_rfl) ?hQyn11 (Or.inl ⟨?hwyn11, ?hyyn11⟩) (by assumption) ?restyn11
          case hiyn11 => (first | (simp only [List.getElem?_toArray, List.getElem?_cons_zero, List.getElem?_cons_succ]; rfl) | rfl)
          case hQyn11 => exact fun _ _ _ h => h
          case hwyn11 => rfl
          case hyyn11 => ((intro w hSw; obtain ⟨-, hs2⟩ := hSw; go_simp); first | done | with_reducible rfl)
          try simp only [Act.put, List.setIfInBounds_toArray, List.set_cons_zero, List.set_cons_succ]
          refine wpAnyH_ready (rs := [13]) (by kernel_rfl) (by simp) ?_
          refine AllReadyH.cons (o := ?oyo) ?hcyo ?styo AllReadyH.nil
          case hcyo => (simp only [List.getElem?_toArray, List.getElem?_cons_zero, List.getElem?_cons_succ]; rfl)
          intro K hK
          go_simp
          obtain ⟨F4, L4, v4, -, hr4, -, -, -, -⟩ := HT4.out
          refine (r14Put_any hr4).mono ?_
          rintro e x5 ⟨A8, c8, rfl, hi8, hb8⟩
          have HT5 := Lib.hid (HT4.out.later HK.out hb8)
          have HI8 := Lib.hid hi8
          have HI9 := Lib.hid (HI7.out.below hb8)
          clear hi8 hb8 hr4 HT4 HI7
          go_wp2_with fail
          refine hK.out _ _ ⟨trivial, str_of HI9.out c7⟩ (fun _ => ?_)
          clear hK K
          refine heldMore (S' := fun w' => True ∧ (convert 23 9 (.slice A8 (dPut s).length c8)).run Try.prog w' = .ok (.string ⟨(dPut s).toArray⟩) w' ∧ (convert 23 9 (.slice A7 (dPut s).length c7)).run Try.prog w' = .ok (.string ⟨(dPut s).toArray⟩) w') (fun w h => ⟨trivial, h.2.2⟩) _ _ _ _ ?_
          have hHeld5 : (fun w' => True ∧ (convert 23 9 (.slice A8 (dPut s).length c8)).run Try.prog w' = .ok (.string ⟨(dPut s).toArray⟩) w' ∧ (convert 23 9 (.slice A7 (dPut s).length c7)).run Try.prog w' = .ok (.string ⟨(dPut s).toArray⟩) w') x5 := ⟨trivial, str_of HI8.out c8, str_of HI9.out c7⟩
          try simp only [Act.put, List.setIfInBounds_toArray, List.set_cons_zero, List.set_cons_succ]
          refine wpAnyH_take (i := 14) (oi := ?oiyp14) (v := ?vyp14) ?hiyp14 (by kernel_rfl) (by kernel_rfl) (by kernel_rfl) ?hQyp14 (Or.inl ⟨?hwyp14, ?hyyp14⟩) (by assumption) ?restyp14
          case hiyp14 => (first | (simp only [List.getElem?_toArray, List.getElem?_cons_zero, List.getElem?_cons_succ]; rfl) | rfl)
          case hQyp14 => exact fun _ _ _ h => h
          case hwyp14 => rfl
          case hyyp14 => ((intro w hSw; obtain ⟨-, hs2, hs3⟩ := hSw; go_simp); first | done | with_reducible rfl)
          try simp only [Act.put, List.setIfInBounds_toArray, List.set_cons_zero, List.set_cons_succ]
          refine wpAnyH_take (i := 15) (oi := ?oiyp15) (v := ?vyp15) ?hiyp15 (by kernel_rfl) (by kernel_rfl) (by kernel_rfl) ?hQyp15 (Or.inl ⟨?hwyp15, ?hyyp15⟩) (by assumption) ?restyp15
          case hiyp15 => (first | (simp only [List.getElem?_toArray, List.getElem?_cons_zero, List.getElem?_cons_succ]; rfl) | rfl)
          case hQyp15 => exact fun _ _ _ h => h
          case hwyp15 => rfl
          case hyyp15 => ((intro w hSw; obtain ⟨-, hs2, hs3⟩ := hSw; go_simp); first | done | with_reducible rfl)
          try simp only [Act.put, List.setIfInBounds_toArray, List.set_cons_zero, List.set_cons_succ]
          refine wpAnyH_take (i := 16) (oi := ?oiyp16) (v := ?vyp16) ?hiyp16 (by kernel_rfl) (by kernel_rfl) (by kernel_rfl) ?hQyp16 (Or.inl ⟨?hwyp16, ?hyyp16⟩) (by assumption) ?restyp16
          case hiyp16 => (first | (simp only [List.getElem?_toArray, List.getElem?_cons_zero, List.getElem?_cons_succ]; rfl) | rfl)
          case hQyp16 => exact fun _ _ _ h => h
          case hwyp16 => rfl
          case hyyp16 => ((intro w hSw; obtain ⟨-, hs2, hs3⟩ := hSw; go_simp); first | done | with_reducible rfl)
          try simp only [Act.put, List.setIfInBounds_toArray, List.set_cons_zero, List.set_cons_succ]
          refine wpAnyH_take (i := 17) (oi := ?oiyp17) (v := ?vyp17) ?hiyp17 (by kernel_rfl) (by kernel_rfl) (by kernel_rfl) ?hQyp17 (Or.inl ⟨?hwyp17, ?hyyp17⟩) (by assumption) ?restyp17
          case hiyp17 => (first | (simp only [List.getElem?_toArray, List.getElem?_cons_zero, List.getElem?_cons_succ]; rfl) | rfl)
          case hQyp17 => exact fun _ _ _ h => h
          case hwyp17 => rfl
          case hyyp17 => ((intro w hSw; obtain ⟨-, hs2, hs3⟩ := hSw; go_simp); first | done | with_reducible rfl)
          try simp only [Act.put, List.setIfInBounds_toArray, List.set_cons_zero, List.set_cons_succ]
          refine wpAnyH_done (by kernel_rfl) ?_ _
          go_wp2
          go_ret
          exact ⟨rfl, HT5.out.below⟩
    · go_wp2_with fail
      refine (lv_none HK.out wq n hnf hN).mono ?_
      rintro e w8 ⟨rfl, hb8⟩
      have HB8 := Lib.hid (below_then HBQ.out hb8 HBQ.out.size)
      clear hb8
      go_wp2_with fail
      refine (r14New_no w8 n hN).mono ?_
      rintro e w9 ⟨rfl, rfl⟩
      go_wp2
      go_ret
      exact ⟨rfl, HB8.out⟩
  | some s =>
    have hg2 := HG2.out
    rw [hgr] at hg2
    obtain ⟨bx, rfl, hx2⟩ := hg2
    have HGR := Lib.hid hgr
    have HX2 := Lib.hid hx2
    clear HG2 hgr hx2
    go_wp2_with fail
    refine HCR.out.mono ?_
    rintro e w3 ⟨hb3, hg3⟩
    rw [HGR.out] at hg3
    obtain ⟨by_, Ly, vy, rfl, hy3⟩ := hg3
    have HX3 := Lib.hid (HX2.out.later HK.out hb3)
    have HY3 := Lib.hid hy3
    clear hb3 hy3 HCR HX2
    go_wp2_with fail
    refine wp_region_held_drew (S := fun w' => w'.cell? ⟨by_, 0, none⟩ = some (.int .i64 s.n)) (by kernel_rfl) (rcell (HY3.out.drewN 1)) (fun hHeld => ?_)
    obtain ⟨u, hu⟩ : ∃ u, u = w3.drew := ⟨_, rfl⟩
    rw [← hu] at hHeld ⊢
    have HU : Hid (Below w3.heap.size w3 u) := Lib.hid (by rw [hu]; exact (Below.refl _ w3).drew)
    clear hu
    refine wpAnyH_take (i := 0) (oi := ?oia0) (v := ?va0) ?hia0 (by kernel_rfl) (by kernel_rfl) (by kernel_rfl) ?hQa0 (Or.inl ⟨?hwa0, ?hya0⟩) (by assumption) ?resta0
    case hia0 => (first | (simp only [List.getElem?_toArray, List.getElem?_cons_zero, List.getElem?_cons_succ]; rfl) | rfl)
    case hQa0 => exact fun _ _ _ h => h
    case hwa0 => rfl
    case hya0 => ((intro w hSw; go_simp); first | done | with_reducible rfl)
    try simp only [Act.put, List.setIfInBounds_toArray, List.set_cons_zero, List.set_cons_succ]
    refine wpAnyH_take (i := 1) (oi := ?oia1) (v := ?va1) ?hia1 (by kernel_rfl) (by kernel_rfl) (by kernel_rfl) ?hQa1 (Or.inl ⟨?hwa1, ?hya1⟩) (by assumption) ?resta1
    case hia1 => (first | (simp only [List.getElem?_toArray, List.getElem?_cons_zero, List.getElem?_cons_succ]; rfl) | rfl)
    case hQa1 => exact fun _ _ _ h => h
    case hwa1 => rfl
    case hya1 => ((intro w hSw; go_simp); first | done | with_reducible rfl)
    try simp only [Act.put, List.setIfInBounds_toArray, List.set_cons_zero, List.set_cons_succ]
    refine wpAnyH_take (i := 2) (oi := ?oia2) (v := ?va2) ?hia2 (by kernel_rfl) (by kernel_rfl) (by kernel_rfl) ?hQa2 (Or.inl ⟨?hwa2, ?hya2⟩) (by assumption) ?resta2
    case hia2 => (first | (simp only [List.getElem?_toArray, List.getElem?_cons_zero, List.getElem?_cons_succ]; rfl) | rfl)
    case hQa2 => exact fun _ _ _ h => h
    case hwa2 => rfl
    case hya2 => ((intro w hSw; go_simp); first | done | with_reducible rfl)
    try simp only [Act.put, List.setIfInBounds_toArray, List.set_cons_zero, List.set_cons_succ]
    refine wpAnyH_take (i := 3) (oi := ?oia3) (v := ?va3) ?hia3 (by kernel_rfl) (by kernel_rfl) (by kernel_rfl) ?hQa3 (Or.inl ⟨?hwa3, ?hya3⟩) (by assumption) ?resta3
    case hia3 => (first | (simp only [List.getElem?_toArray, List.getElem?_cons_zero, List.getElem?_cons_succ]; rfl) | rfl)
    case hQa3 => exact fun _ _ _ h => h
    case hwa3 => rfl
    case hya3 => ((intro w hSw; go_simp); first | done | with_reducible rfl)
    try simp only [Act.put, List.setIfInBounds_toArray, List.set_cons_zero, List.set_cons_succ]
    refine wpAnyH_take (i := 4) (oi := ?oia4) (v := ?va4) ?hia4 (by kernel_rfl) (by kernel_rfl) (by kernel_rfl) ?hQa4 (Or.inl ⟨?hwa4, ?hya4⟩) (by assumption) ?resta4
    case hia4 => (first | (simp only [List.getElem?_toArray, List.getElem?_cons_zero, List.getElem?_cons_succ]; rfl) | rfl)
    case hQa4 => exact fun _ _ _ h => h
    case hwa4 => rfl
    case hya4 => ((intro w hSw; go_simp); first | done | with_reducible rfl)
    try simp only [Act.put, List.setIfInBounds_toArray, List.set_cons_zero, List.set_cons_succ]
    refine wpAnyH_take (i := 5) (oi := ?oia5) (v := ?va5) ?hia5 (by kernel_rfl) (by kernel_rfl) (by kernel_rfl) ?hQa5 (Or.inl ⟨?hwa5, ?hya5⟩) (by assumption) ?resta5
    case hia5 => (first | (simp only [List.getElem?_toArray, List.getElem?_cons_zero, List.getElem?_cons_succ]; rfl) | rfl)
    case hQa5 => exact fun _ _ _ h => h
    case hwa5 => rfl
    case hya5 => ((intro w hSw; go_simp); first | done | with_reducible rfl)
    try simp only [Act.put, List.setIfInBounds_toArray, List.set_cons_zero, List.set_cons_succ]
    refine wpAnyH_take (i := 6) (oi := ?oia6) (v := ?va6) ?hia6 (by kernel_rfl) (by kernel_rfl) (by kernel_rfl) ?hQa6 (Or.inl ⟨?hwa6, ?hya6⟩) (by assumption) ?resta6
    case hia6 => (first | (simp only [List.getElem?_toArray, List.getElem?_cons_zero, List.getElem?_cons_succ]; rfl) | rfl)
    case hQa6 => exact fun _ _ _ h => h
    case hwa6 => rfl
    case hya6 => ((intro w hSw; go_simp); first | done | with_reducible rfl)
    try simp only [Act.put, List.setIfInBounds_toArray, List.set_cons_zero, List.set_cons_succ]
    refine wpAnyH_take (i := 7) (oi := ?oia7) (v := ?va7) ?hia7 (by kernel_rfl) (by kernel_rfl) (by kernel_rfl) ?hQa7 (Or.inl ⟨?hwa7, ?hya7⟩) (by assumption) ?resta7
    case hia7 => (first | (simp only [List.getElem?_toArray, List.getElem?_cons_zero, List.getElem?_cons_succ]; rfl) | rfl)
    case hQa7 => exact fun _ _ _ h => h
    case hwa7 => rfl
    case hya7 => ((intro w hSw; go_simp); first | done | with_reducible rfl)
    try simp only [Act.put, List.setIfInBounds_toArray, List.set_cons_zero, List.set_cons_succ]
    refine wpAnyH_take (i := 8) (oi := ?oia8) (v := ?va8) ?hia8 (by kernel_rfl) (by kernel_rfl) (by kernel_rfl) ?hQa8 (Or.inl ⟨?hwa8, ?hya8⟩) (by assumption) ?resta8
    case hia8 => (first | (simp only [List.getElem?_toArray, List.getElem?_cons_zero, List.getElem?_cons_succ]; rfl) | rfl)
    case hQa8 => exact fun _ _ _ h => h
    case hwa8 => rfl
    case hya8 => ((intro w hSw; go_simp); first | done | with_reducible rfl)
    try simp only [Act.put, List.setIfInBounds_toArray, List.set_cons_zero, List.set_cons_succ]
    refine wpAnyH_take (i := 9) (oi := ?oia9) (v := ?va9) ?hia9 (by kernel_rfl) (by kernel_rfl) (by kernel_rfl) ?hQa9 (Or.inl ⟨?hwa9, ?hya9⟩) (by assumption) ?resta9
    case hia9 => (first | (simp only [List.getElem?_toArray, List.getElem?_cons_zero, List.getElem?_cons_succ]; rfl) | rfl)
    case hQa9 => exact fun _ _ _ h => h
    case hwa9 => rfl
    case hya9 => ((intro w hSw; go_simp); first | done | with_reducible rfl)
    try simp only [Act.put, List.setIfInBounds_toArray, List.set_cons_zero, List.set_cons_succ]
    refine wpAnyH_take (i := 10) (oi := ?oia10) (v := ?va10) ?hia10 (by kernel_rfl) (by kernel_rfl) (by kernel_rfl) ?hQa10 (Or.inl ⟨?hwa10, ?hya10⟩) (by assumption) ?resta10
    case hia10 => (first | (simp only [List.getElem?_toArray, List.getElem?_cons_zero, List.getElem?_cons_succ]; rfl) | rfl)
    case hQa10 => exact fun _ _ _ h => h
    case hwa10 => rfl
    case hya10 => ((intro w hSw; go_simp); first | done | with_reducible rfl)
    try simp only [Act.put, List.setIfInBounds_toArray, List.set_cons_zero, List.set_cons_succ]
    refine wpAnyH_take (i := 11) (oi := ?oia11) (v := ?va11) ?hia11 (by kernel_rfl) (by kernel_rfl) (by kernel_rfl) ?hQa11 (Or.inl ⟨?hwa11, ?hya11⟩) (by assumption) ?resta11
    case hia11 => (first | (simp only [List.getElem?_toArray, List.getElem?_cons_zero, List.getElem?_cons_succ]; rfl) | rfl)
    case hQa11 => exact fun _ _ _ h => h
    case hwa11 => rfl
    case hya11 => ((intro w hSw; go_simp); first | done | with_reducible rfl)
    try simp only [Act.put, List.setIfInBounds_toArray, List.set_cons_zero, List.set_cons_succ]
    refine wpAnyH_take (i := 12) (oi := ?oia12) (v := ?va12) ?hia12 (by kernel_rfl) (by kernel_rfl) (by kernel_rfl) ?hQa12 (Or.inl ⟨?hwa12, ?hya12⟩) (by assumption) ?resta12
    case hia12 => (first | (simp only [List.getElem?_toArray, List.getElem?_cons_zero, List.getElem?_cons_succ]; rfl) | rfl)
    case hQa12 => exact fun _ _ _ h => h
    case hwa12 => rfl
    case hya12 => ((intro w hSw; go_simp); first | done | with_reducible rfl)
    try simp only [Act.put, List.setIfInBounds_toArray, List.set_cons_zero, List.set_cons_succ]
    refine wpAnyH_take (i := 13) (oi := ?oia13) (v := ?va13) ?hia13 (by kernel_rfl) (by kernel_rfl) (by kernel_rfl) ?hQa13 (Or.inl ⟨?hwa13, ?hya13⟩) (by assumption) ?resta13
    case hia13 => (first | (simp only [List.getElem?_toArray, List.getElem?_cons_zero, List.getElem?_cons_succ]; rfl) | rfl)
    case hQa13 => exact fun _ _ _ h => h
    case hwa13 => rfl
    case hya13 => ((intro w hSw; go_simp); first | done | with_reducible rfl)
    try simp only [Act.put, List.setIfInBounds_toArray, List.set_cons_zero, List.set_cons_succ]
    refine wpAnyH_take (i := 14) (oi := ?oia14) (v := ?va14) ?hia14 (by kernel_rfl) (by kernel_rfl) (by kernel_rfl) ?hQa14 (Or.inl ⟨?hwa14, ?hya14⟩) (by assumption) ?resta14
    case hia14 => (first | (simp only [List.getElem?_toArray, List.getElem?_cons_zero, List.getElem?_cons_succ]; rfl) | rfl)
    case hQa14 => exact fun _ _ _ h => h
    case hwa14 => rfl
    case hya14 => ((intro w hSw; go_simp); first | done | with_reducible rfl)
    try simp only [Act.put, List.setIfInBounds_toArray, List.set_cons_zero, List.set_cons_succ]
    refine wpAnyH_take (i := 15) (oi := ?oia15) (v := ?va15) ?hia15 (by kernel_rfl) (by kernel_rfl) (by kernel_rfl) ?hQa15 (Or.inl ⟨?hwa15, ?hya15⟩) (by assumption) ?resta15
    case hia15 => (first | (simp only [List.getElem?_toArray, List.getElem?_cons_zero, List.getElem?_cons_succ]; rfl) | rfl)
    case hQa15 => exact fun _ _ _ h => h
    case hwa15 => rfl
    case hya15 => ((intro w hSw; go_simp); first | done | with_reducible rfl)
    try simp only [Act.put, List.setIfInBounds_toArray, List.set_cons_zero, List.set_cons_succ]
    refine wpAnyH_take (i := 16) (oi := ?oia16) (v := ?va16) ?hia16 (by kernel_rfl) (by kernel_rfl) (by kernel_rfl) ?hQa16 (Or.inl ⟨?hwa16, ?hya16⟩) (by assumption) ?resta16
    case hia16 => (first | (simp only [List.getElem?_toArray, List.getElem?_cons_zero, List.getElem?_cons_succ]; rfl) | rfl)
    case hQa16 => exact fun _ _ _ h => h
    case hwa16 => rfl
    case hya16 => ((intro w hSw; go_simp); first | done | with_reducible rfl)
    try simp only [Act.put, List.setIfInBounds_toArray, List.set_cons_zero, List.set_cons_succ]
    refine wpAnyH_take (i := 17) (oi := ?oia17) (v := ?va17) ?hia17 (by kernel_rfl) (by kernel_rfl) (by kernel_rfl) ?hQa17 (Or.inl ⟨?hwa17, ?hya17⟩) (by assumption) ?resta17
    case hia17 => (first | (simp only [List.getElem?_toArray, List.getElem?_cons_zero, List.getElem?_cons_succ]; rfl) | rfl)
    case hQa17 => exact fun _ _ _ h => h
    case hwa17 => rfl
    case hya17 => ((intro w hSw; go_simp); first | done | with_reducible rfl)
    try simp only [Act.put, List.setIfInBounds_toArray, List.set_cons_zero, List.set_cons_succ]
    refine wpAnyH_take (i := 18) (oi := ?oia18) (v := ?va18) ?hia18 (by kernel_rfl) (by kernel_rfl) (by kernel_rfl) ?hQa18 (Or.inl ⟨?hwa18, ?hya18⟩) (by assumption) ?resta18
    case hia18 => (first | (simp only [List.getElem?_toArray, List.getElem?_cons_zero, List.getElem?_cons_succ]; rfl) | rfl)
    case hQa18 => exact fun _ _ _ h => h
    case hwa18 => rfl
    case hya18 => ((intro w hSw; go_simp); first | done | with_reducible rfl)
    try simp only [Act.put, List.setIfInBounds_toArray, List.set_cons_zero, List.set_cons_succ]
    refine wpAnyH_take (i := 20) (oi := ?oia20) (v := ?va20) ?hia20 (by kernel_rfl) (by kernel_rfl) (by kernel_rfl) ?hQa20 (Or.inl ⟨?hwa20, ?hya20⟩) (by assumption) ?resta20
    case hia20 => (first | (simp only [List.getElem?_toArray, List.getElem?_cons_zero, List.getElem?_cons_succ]; rfl) | rfl)
    case hQa20 => exact fun _ _ _ h => h
    case hwa20 => rfl
    case hya20 => ((intro w hSw; go_simp); first | done | with_reducible rfl)
    try simp only [Act.put, List.setIfInBounds_toArray, List.set_cons_zero, List.set_cons_succ]
    refine wpAnyH_take (i := 21) (oi := ?oia21) (v := ?va21) ?hia21 (by kernel_rfl) (by kernel_rfl) (by kernel_rfl) ?hQa21 (Or.inl ⟨?hwa21, ?hya21⟩) (by assumption) ?resta21
    case hia21 => (first | (simp only [List.getElem?_toArray, List.getElem?_cons_zero, List.getElem?_cons_succ]; rfl) | rfl)
    case hQa21 => exact fun _ _ _ h => h
    case hwa21 => rfl
    case hya21 => ((intro w hSw; go_simp); first | done | with_reducible rfl)
    try simp only [Act.put, List.setIfInBounds_toArray, List.set_cons_zero, List.set_cons_succ]
    refine wpAnyH_take (i := 22) (oi := ?oia22) (v := ?va22) ?hia22 (by kernel_rfl) (by kernel_rfl) (by kernel_rfl) ?hQa22 (Or.inl ⟨?hwa22, ?hya22⟩) (by assumption) ?resta22
    case hia22 => (first | (simp only [List.getElem?_toArray, List.getElem?_cons_zero, List.getElem?_cons_succ]; rfl) | rfl)
    case hQa22 => exact fun _ _ _ h => h
    case hwa22 => rfl
    case hya22 => ((intro w hSw; go_simp); first | done | with_reducible rfl)
    try simp only [Act.put, List.setIfInBounds_toArray, List.set_cons_zero, List.set_cons_succ]
    refine wpAnyH_take (i := 23) (oi := ?oia23) (v := ?va23) ?hia23 (by kernel_rfl) (by kernel_rfl) (by kernel_rfl) ?hQa23 (Or.inl ⟨?hwa23, ?hya23⟩) (by assumption) ?resta23
    case hia23 => (first | (simp only [List.getElem?_toArray, List.getElem?_cons_zero, List.getElem?_cons_succ]; rfl) | rfl)
    case hQa23 => exact fun _ _ _ h => h
    case hwa23 => rfl
    case hya23 => ((intro w hSw; go_simp); first | done | with_reducible rfl)
    try simp only [Act.put, List.setIfInBounds_toArray, List.set_cons_zero, List.set_cons_succ]
    refine wpAnyH_ready (rs := [19]) (by kernel_rfl) (by simp) ?_
    refine AllReadyH.cons (o := ?ob) ?hcb ?stb AllReadyH.nil
    case hcb => (simp only [List.getElem?_toArray, List.getElem?_cons_zero, List.getElem?_cons_succ]; rfl)
    intro K hK
    go_simp
    refine (lv_size HK.out (HX3.out.later HK.out HU.out)).mono ?_
    rintro e w4 ⟨rfl, q4, hw4⟩
    have HX4 : Hid (Lv D W w4 bx s) := Lib.hid (by rw [hw4]; exact (HX3.out.later HK.out HU.out).drewN HK.out q4)
    have HY4 : Hid (RAt w4 w2.heap.size by_ s Ly vy) := Lib.hid (by rw [hw4]; exact (HY3.out.later HU.out).drewN q4)
    have HC4 : Hid (w4.cell? ⟨by_, 0, none⟩ = some (.int .i64 s.n)) := Lib.hid (rcell HY4.out)
    clear hw4
    go_wp2_with fail
    refine hK.out _ _ HC4.out (fun _ => ?_)
    clear hK K
    try simp only [Act.put, List.setIfInBounds_toArray, List.set_cons_zero, List.set_cons_succ]
    refine wpAnyH_take (i := 24) (oi := ?oic24) (v := ?vc24) ?hic24 (by kernel_rfl) (by kernel_rfl) (by kernel_rfl) ?hQc24 (Or.inl ⟨?hwc24, ?hyc24⟩) (by assumption) ?restc24
    case hic24 => (first | (simp only [List.getElem?_toArray, List.getElem?_cons_zero, List.getElem?_cons_succ]; rfl) | rfl)
    case hQc24 => exact fun _ _ _ h => h
    case hwc24 => rfl
    case hyc24 => ((intro w hSw; go_simp); first | done | with_reducible rfl)
    try simp only [Act.put, List.setIfInBounds_toArray, List.set_cons_zero, List.set_cons_succ]
    refine wpAnyH_take (i := 25) (oi := ?oic25) (v := ?vc25) ?hic25 (by kernel_rfl) (by kernel_rfl) (by kernel_rfl) ?hQc25 (Or.inl ⟨?hwc25, ?hyc25⟩) (by assumption) ?restc25
    case hic25 => (first | (simp only [List.getElem?_toArray, List.getElem?_cons_zero, List.getElem?_cons_succ]; rfl) | rfl)
    case hQc25 => exact fun _ _ _ h => h
    case hwc25 => rfl
    case hyc25 => ((intro w hSw; go_simp); first | done | with_reducible rfl)
    try simp only [Act.put, List.setIfInBounds_toArray, List.set_cons_zero, List.set_cons_succ]
    refine wpAnyH_take (i := 26) (oi := ?oic26) (v := ?vc26) ?hic26 (by kernel_rfl) (by kernel_rfl) (by kernel_rfl) ?hQc26 (Or.inl ⟨?hwc26, ?hyc26⟩) (by assumption) ?restc26
    case hic26 => (first | (simp only [List.getElem?_toArray, List.getElem?_cons_zero, List.getElem?_cons_succ]; rfl) | rfl)
    case hQc26 => exact fun _ _ _ h => h
    case hwc26 => rfl
    case hyc26 => ((intro w hSw; go_simp); first | done | with_reducible rfl)
    try simp only [Act.put, List.setIfInBounds_toArray, List.set_cons_zero, List.set_cons_succ]
    refine wpAnyH_take (i := 28) (oi := ?oic28) (v := ?vc28) ?hic28 (by kernel_rfl) (by kernel_rfl) (by kernel_rfl) ?hQc28 (Or.inl ⟨?hwc28, ?hyc28⟩) (by assumption) ?restc28
    case hic28 => (first | (simp only [List.getElem?_toArray, List.getElem?_cons_zero, List.getElem?_cons_succ]; rfl) | rfl)
    case hQc28 => exact fun _ _ _ h => h
    case hwc28 => rfl
    case hyc28 => ((intro w hSw; go_simp); first | done | with_reducible rfl)
    try simp only [Act.put, List.setIfInBounds_toArray, List.set_cons_zero, List.set_cons_succ]
    refine wpAnyH_ready (rs := [27]) (by kernel_rfl) (by simp) ?_
    refine AllReadyH.cons (o := ?od) ?hcd ?std AllReadyH.nil
    case hcd => (simp only [List.getElem?_toArray, List.getElem?_cons_zero, List.getElem?_cons_succ]; rfl)
    intro K hK
    go_simp
    refine (lv_live HK.out HX4.out).mono ?_
    rintro e w5 ⟨A5, c5, rfl, hi5, -, hb5⟩
    have HB5 := Lib.hid (below_then HX4.out.below hb5 HX4.out.below.size)
    have HI5 := Lib.hid hi5
    have HY5 := Lib.hid (HY4.out.later hb5)
    have HC5 : Hid (w5.cell? ⟨by_, 0, none⟩ = some (.int .i64 s.n)) := Lib.hid (rcell HY5.out)
    clear hi5 hb5
    go_wp2_with fail
    refine hK.out _ _ HC5.out (fun _ => ?_)
    clear hK K
    try simp only [Act.put, List.setIfInBounds_toArray, List.set_cons_zero, List.set_cons_succ]
    refine wpAnyH_ready (rs := [29]) (by kernel_rfl) (by simp) ?_
    refine AllReadyH.cons (o := ?oe) ?hce ?ste AllReadyH.nil
    case hce => (simp only [List.getElem?_toArray, List.getElem?_cons_zero, List.getElem?_cons_succ]; rfl)
    intro K hK
    go_simp
    refine (r14Live_any HY5.out).mono ?_
    rintro e w6 ⟨A6, c6, rfl, hi6, -, hb6⟩
    have HB6 := Lib.hid (below_then HB5.out hb6 HB5.out.size)
    have HI6 := Lib.hid hi6
    have HJ6 := Lib.hid (HI5.out.below hb6)
    have HC6 : Hid (w6.cell? ⟨by_, 0, none⟩ = some (.int .i64 s.n)) := Lib.hid (rcell (HY5.out.later hb6))
    clear hi6 hb6
    go_wp2_with fail
    refine hK.out _ _ HC6.out (fun _ => ?_)
    clear hK K
    try simp only [Act.put, List.setIfInBounds_toArray, List.set_cons_zero, List.set_cons_succ]
    refine wpAnyH_ready (rs := [30]) (by kernel_rfl) (by simp) ?_
    refine AllReadyH.cons (o := ?of) ?hcf ?stf AllReadyH.nil
    case hcf => (simp only [List.getElem?_toArray, List.getElem?_cons_zero, List.getElem?_cons_succ]; rfl)
    intro K hK
    go_simp
    refine (r3Same_any w6 A5 A6 _ _ c5 c6 _ _ HJ6.out HI6.out).mono ?_
    rintro e w7 ⟨rfl, q7, hw7⟩
    rw [decide_eq_true (rfl : dLive s = dLive s)]
    have HB7 : Hid (Below W.heap.size W w7) := Lib.hid (by rw [hw7]; exact below_drewN HB6.out q7)
    have HC7 : Hid (w7.cell? ⟨by_, 0, none⟩ = some (.int .i64 s.n)) := Lib.hid (by rw [hw7]; exact HC6.out)
    clear hw7
    go_wp2_with fail
    refine hK.out _ _ HC7.out (fun _ => ?_)
    clear hK K
    try simp only [Act.put, List.setIfInBounds_toArray, List.set_cons_zero, List.set_cons_succ]
    refine wpAnyH_take (i := 31) (oi := ?oig31) (v := ?vg31) ?hig31 (by kernel_rfl) (by kernel_rfl) (by kernel_rfl) ?hQg31 (Or.inl ⟨?hwg31, ?hyg31⟩) (by assumption) ?restg31
    case hig31 => (first | (simp only [List.getElem?_toArray, List.getElem?_cons_zero, List.getElem?_cons_succ]; rfl) | rfl)
    case hQg31 => exact fun _ _ _ h => h
    case hwg31 => rfl
    case hyg31 => ((intro w hSw; go_simp); first | done | with_reducible rfl)
    try simp only [Act.put, List.setIfInBounds_toArray, List.set_cons_zero, List.set_cons_succ]
    refine wpAnyH_take (i := 32) (oi := ?oig32) (v := ?vg32) ?hig32 (by kernel_rfl) (by kernel_rfl) (by kernel_rfl) ?hQg32 (Or.inl ⟨?hwg32, ?hyg32⟩) (by assumption) ?restg32
    case hig32 => (first | (simp only [List.getElem?_toArray, List.getElem?_cons_zero, List.getElem?_cons_succ]; rfl) | rfl)
    case hQg32 => exact fun _ _ _ h => h
    case hwg32 => rfl
    case hyg32 => ((intro w hSw; go_simp); first | done | with_reducible rfl)
    try simp only [Act.put, List.setIfInBounds_toArray, List.set_cons_zero, List.set_cons_succ]
    refine wpAnyH_take (i := 33) (oi := ?oig33) (v := ?vg33) ?hig33 (by kernel_rfl) (by kernel_rfl) (by kernel_rfl) ?hQg33 (Or.inl ⟨?hwg33, ?hyg33⟩) (by assumption) ?restg33
    case hig33 => (first | (simp only [List.getElem?_toArray, List.getElem?_cons_zero, List.getElem?_cons_succ]; rfl) | rfl)
    case hQg33 => exact fun _ _ _ h => h
    case hwg33 => rfl
    case hyg33 => ((intro w hSw; go_simp); first | done | with_reducible rfl)
    try simp only [Act.put, List.setIfInBounds_toArray, List.set_cons_zero, List.set_cons_succ]
    refine wpAnyH_take (i := 34) (oi := ?oig34) (v := ?vg34) ?hig34 (by kernel_rfl) (by kernel_rfl) (by kernel_rfl) ?hQg34 (Or.inl ⟨?hwg34, ?hyg34⟩) (by assumption) ?restg34
    case hig34 => (first | (simp only [List.getElem?_toArray, List.getElem?_cons_zero, List.getElem?_cons_succ]; rfl) | rfl)
    case hQg34 => exact fun _ _ _ h => h
    case hwg34 => rfl
    case hyg34 => ((intro w hSw; go_simp); first | done | with_reducible rfl)
    try simp only [Act.put, List.setIfInBounds_toArray, List.set_cons_zero, List.set_cons_succ]
    refine wpAnyH_done (by kernel_rfl) ?_ _
    obtain ⟨wq, hwq⟩ : ∃ wq, wq = w7 := ⟨_, rfl⟩
    rw [← hwq]
    have HBQ : Hid (Below W.heap.size W wq) := Lib.hid (by rw [hwq]; exact HB7.out)
    clear hwq HB2 HGR HX3 HY3 HU HX4 HY4 HC4 HB5 HI5 HY5 HC5 HB6 HI6 HJ6 HC6 HB7 HC7
    by_cases hN : 0 ≤ n ∧ n ≤ 64
    · obtain ⟨N, rfl⟩ := Int.eq_ofNat_of_zero_le hN.1
      have hN64 : N ≤ 64 := by omega
      go_wp2_with fail
      refine (lv_new HK.out HBQ.out N hN64).mono ?_
      rintro e w8 ⟨b, rfl, hl8⟩
      have HL8 := Lib.hid hl8
      clear hl8
      go_wp2_with fail
      refine (r14New_yes w8 N hN64).mono ?_
      rintro e w9 ⟨rfl, hr9, hb9⟩
      obtain ⟨rb, hrb⟩ : ∃ rb, rb = w8.heap.size := ⟨_, rfl⟩
      have HT9 : Hid (Two D W w9 b (dNew N) rb (dNew N)) := Lib.hid (by rw [hrb]; exact two_new HK.out HL8.out hr9 hb9)
      rw [← hrb]
      clear hr9 hb9 hrb HL8
      go_wp2
      go_loopw [14] (fun iv wr => ∃ (i : Nat), i ≤ m ∧ iv = .int .i64 i ∧ Two D W wr b (dUp (dNew N) l i) rb (dUp (dNew N) l i)) (fun iv _ => m - (intOf iv).toNat)
      case atStart => exact ⟨0, by omega, rfl, HT9.out⟩
      case round =>
        obtain ⟨i, hi, rfl, ht⟩ := hrel
        have HT := Lib.hid ht
        clear ht
        rcases Nat.lt_or_ge i m with hlt | hge
        · have hlt' : (i : Int) < (m : Int) := by omega
          have p0 : (0 : Int) ≤ (i : Int) := by omega
          have hw1 : IntKind.i64.wrap ((i : Int) + 1) = (i : Int) + 1 := IntWalk.i64_in _ (by omega)
          obtain ⟨pa, x, rfl, hx, x0, -, -⟩ := (HX.out.below HT.out.below).at i hlt
          have HXC : Hid (∀ u : World, Below W.heap.size W u → u.cell? (pa.add i) = some (.int .i64 x)) := Lib.hid (fun u hu => by
            obtain ⟨pb, y, hpb, hy, y0, -, -⟩ := (HX.out.below hu).at i hlt
            obtain rfl := Option.some.inj hpb
            rw [hx] at hy
            obtain rfl := Option.some.inj hy
            exact y0)
          have HNX := Lib.hid (dUp_take (s := dNew N) hx)
          have HFX := Lib.hid (ints_fit HX.out hx)
          obtain ⟨s, hs⟩ : ∃ s, s = dUp (dNew N) l i := ⟨_, rfl⟩
          rw [← hs] at HT HNX
          obtain ⟨wo, hwo⟩ : ∃ zz, zz = wr := ⟨_, rfl⟩
          subst hwo
          clear hx hs
          go_wp2_with fail
          refine (two_addD HK.out HT.out x HFX.out).mono ?_
          rintro e w10 ⟨rfl, ht10⟩
          have HT10 := Lib.hid ht10
          have y0 := HXC.out w10 HT10.out.below
          clear ht10 x0
          go_wp2_with fail
          refine (two_addR HK.out HT10.out x HFX.out).mono ?_
          rintro e w11 ⟨rfl, ht11⟩
          have HT11 := Lib.hid ht11
          have z0 : ∀ q, (w11.drewN q).cell? (pa.add i) = some (.int .i64 x) := fun q => HXC.out w11 HT11.out.below
          obtain ⟨tc, htc⟩ : ∃ tc, tc = dCan s x := ⟨_, rfl⟩
          rw [← htc]
          have d1 : (tc != tc) = false := by simp
          obtain ⟨F2, L2, v2, -, hr2, -, -, -, -⟩ := HT11.out
          have HR2 := Lib.hid hr2
          obtain ⟨A2, c2, hv2⟩ := own_slice hr2.row
          subst hv2
          obtain ⟨s2, hs2⟩ : ∃ s2, s2 = dAdd s x := ⟨_, rfl⟩
          rw [← hs2] at HR2 HNX
          have HT12 : Hid (Two D W w11 b s2 rb s2) := Lib.hid (by rw [hs2]; exact HT11.out)
          have hcnt := HR2.out.cnt
          obtain ⟨M, hM⟩ : ∃ M, M = dMany s2 := ⟨_, rfl⟩
          rw [← hM] at hcnt
          have k1 : ∀ q, (w11.drewN q).cell? ⟨rb, 1, none⟩ = some (.slice A2 M c2) := fun q => by
            have c1 := HR2.out.blk.cell 1
            simp only [List.getElem?_toArray, List.getElem?_cons_zero, List.getElem?_cons_succ] at c1
            rw [← hcnt]
            exact c1
          have HHD : Hid (∀ q, Calls Try.prog 18 #[.pointer (some ⟨b, 0, none⟩), .int .i64 x] (w11.drewN q) fun e w' => e = .returned (.bool (dHas s2 x)) ∧ ∃ p, w' = w11.drewN p) := Lib.hid (fun q => by
            refine (lv_has HK.out (HT12.out.lv.drewN HK.out q) x HFX.out).mono ?_
            rintro e w' ⟨rfl, p, rfl⟩
            exact ⟨rfl, q + p, drewN_add _ _ _⟩)
          have HHR : Hid (∀ q, Calls Try.prog 19 #[.pointer (some ⟨rb, 0, none⟩), .int .i64 x] (w11.drewN q) fun e w' => e = .returned (.bool (dHas s2 x)) ∧ ∃ p, w' = w11.drewN p) := Lib.hid (fun q => by
            refine (r14Has_any (HR2.out.drewN q) x).mono ?_
            rintro e w' ⟨rfl, rfl⟩
            exact ⟨rfl, q, rfl⟩)
          have HMN : Hid (∀ q, Calls Try.prog 20 #[.pointer (some ⟨b, 0, none⟩)] (w11.drewN q) fun e w' => e = .returned (.int .i64 M) ∧ ∃ p, w' = w11.drewN p) := Lib.hid (fun q => by
            rw [hM]
            refine (lv_many HK.out (HT12.out.lv.drewN HK.out q)).mono ?_
            rintro e w' ⟨rfl, p, rfl⟩
            exact ⟨rfl, q + p, drewN_add _ _ _⟩)
          obtain ⟨th, hth⟩ : ∃ th, th = dHas s2 x := ⟨_, rfl⟩
          rw [← hth] at HHD HHR
          have d2 : (th != th) = false := by simp
          have d3 : ((M : Int) != (M : Int)) = false := by simp
          clear htc hs2 hM hth hcnt HT11 HT10 HT hr2
          go_wp2_with fail
          go_quiet (first | (go_at_call 18; exact HHD.out _) | (go_at_call 19; exact HHR.out _) | (go_at_call 20; exact HMN.out _))
          go_wp2
          go_roundw
          case rel => exact ⟨i + 1, by omega, by go_num, by rw [HNX.out]; exact HT12.out.later HK.out (below_drewN (Below.refl _ _) _)⟩
          case measure => simp [intOf]; omega
        · have hlz : ¬ ((i : Int) < (m : Int)) := by omega
          obtain ⟨s, hs⟩ : ∃ s, s = dUp (dNew N) l i := ⟨_, rfl⟩
          rw [← hs] at HT
          clear hs
          have hbeq : (dPut s == dPut s) = true := by simp
          obtain ⟨wo, hwo⟩ : ∃ zz, zz = wr := ⟨_, rfl⟩
          subst hwo
          go_wp2_with fail
          refine wp_region_held_drew (S := fun _ => True) (by kernel_rfl) trivial (fun hHeld => ?_)
          obtain ⟨u, hu⟩ : ∃ u, u = wo.drew := ⟨_, rfl⟩
          rw [← hu]
          have HU : Hid (Below wo.heap.size wo u) := Lib.hid (by rw [hu]; exact (Below.refl _ wo).drew)
          clear hu
          refine wpAnyH_take (i := 0) (oi := ?oizh0) (v := ?vzh0) ?hizh0 (by kernel_rfl) (by kernel_rfl) (by kernel_rfl) ?hQzh0 (Or.inl ⟨?hwzh0, ?hyzh0⟩) (by assumption) ?restzh0
          case hizh0 => (first | (simp only [List.getElem?_toArray, List.getElem?_cons_zero, List.getElem?_cons_succ]; rfl) | rfl)
          case hQzh0 => exact fun _ _ _ h => h
          case hwzh0 => rfl
          case hyzh0 => ((intro w hSw; go_simp); first | done | with_reducible rfl)
          try simp only [Act.put, List.setIfInBounds_toArray, List.set_cons_zero, List.set_cons_succ]
          refine wpAnyH_take (i := 1) (oi := ?oizh1) (v := ?vzh1) ?hizh1 (by kernel_rfl) (by kernel_rfl) (by kernel_rfl) ?hQzh1 (Or.inl ⟨?hwzh1, ?hyzh1⟩) (by assumption) ?restzh1
          case hizh1 => (first | (simp only [List.getElem?_toArray, List.getElem?_cons_zero, List.getElem?_cons_succ]; rfl) | rfl)
          case hQzh1 => exact fun _ _ _ h => h
          case hwzh1 => rfl
          case hyzh1 => ((intro w hSw; go_simp); first | done | with_reducible rfl)
          try simp only [Act.put, List.setIfInBounds_toArray, List.set_cons_zero, List.set_cons_succ]
          refine wpAnyH_take (i := 2) (oi := ?oizh2) (v := ?vzh2) ?hizh2 (by kernel_rfl) (by kernel_rfl) (by kernel_rfl) ?hQzh2 (Or.inl ⟨?hwzh2, ?hyzh2⟩) (by assumption) ?restzh2
          case hizh2 => (first | (simp only [List.getElem?_toArray, List.getElem?_cons_zero, List.getElem?_cons_succ]; rfl) | rfl)
          case hQzh2 => exact fun _ _ _ h => h
          case hwzh2 => rfl
          case hyzh2 => ((intro w hSw; go_simp); first | done | with_reducible rfl)
          try simp only [Act.put, List.setIfInBounds_toArray, List.set_cons_zero, List.set_cons_succ]
          refine wpAnyH_take (i := 4) (oi := ?oizh4) (v := ?vzh4) ?hizh4 (by kernel_rfl) (by kernel_rfl) (by kernel_rfl) ?hQzh4 (Or.inl ⟨?hwzh4, ?hyzh4⟩) (by assumption) ?restzh4
          case hizh4 => (first | (simp only [List.getElem?_toArray, List.getElem?_cons_zero, List.getElem?_cons_succ]; rfl) | rfl)
          case hQzh4 => exact fun _ _ _ h => h
          case hwzh4 => rfl
          case hyzh4 => ((intro w hSw; go_simp); first | done | with_reducible rfl)
          try simp only [Act.put, List.setIfInBounds_toArray, List.set_cons_zero, List.set_cons_succ]
          refine wpAnyH_ready (rs := [3]) (by kernel_rfl) (by simp) ?_
          refine AllReadyH.cons (o := ?ozi) ?hczi ?stzi AllReadyH.nil
          case hczi => (simp only [List.getElem?_toArray, List.getElem?_cons_zero, List.getElem?_cons_succ]; rfl)
          intro K hK
          go_simp
          refine (lv_live HK.out (HT.out.lv.later HK.out HU.out)).mono ?_
          rintro e x1 ⟨A5, c5, rfl, hi5, -, hb5⟩
          have HT1 := Lib.hid ((HT.out.later HK.out HU.out).later HK.out hb5)
          have HI5 := Lib.hid hi5
          clear hi5 hb5
          go_wp2_with fail
          refine hK.out _ _ trivial (fun _ => ?_)
          clear hK K
          try simp only [Act.put, List.setIfInBounds_toArray, List.set_cons_zero, List.set_cons_succ]
          refine wpAnyH_ready (rs := [5]) (by kernel_rfl) (by simp) ?_
          refine AllReadyH.cons (o := ?ozj) ?hczj ?stzj AllReadyH.nil
          case hczj => (simp only [List.getElem?_toArray, List.getElem?_cons_zero, List.getElem?_cons_succ]; rfl)
          intro K hK
          go_simp
          obtain ⟨F1, L1, v1, -, hr1, -, -, -, -⟩ := HT1.out
          refine (r14Live_any hr1).mono ?_
          rintro e x2 ⟨A6, c6, rfl, hi6, -, hb6⟩
          have HT2 := Lib.hid (HT1.out.later HK.out hb6)
          have HI6 := Lib.hid hi6
          have HJ6 := Lib.hid (HI5.out.below hb6)
          clear hi6 hb6 hr1 HT1 HI5
          go_wp2_with fail
          refine hK.out _ _ trivial (fun _ => ?_)
          clear hK K
          try simp only [Act.put, List.setIfInBounds_toArray, List.set_cons_zero, List.set_cons_succ]
          refine wpAnyH_ready (rs := [6]) (by kernel_rfl) (by simp) ?_
          refine AllReadyH.cons (o := ?ozk) ?hczk ?stzk AllReadyH.nil
          case hczk => (simp only [List.getElem?_toArray, List.getElem?_cons_zero, List.getElem?_cons_succ]; rfl)
          intro K hK
          go_simp
          refine (r3Same_any x2 A5 A6 _ _ c5 c6 _ _ HJ6.out HI6.out).mono ?_
          rintro e x3 ⟨rfl, q3, hx3⟩
          rw [decide_eq_true (rfl : dLive s = dLive s)]
          have HT3 : Hid (Two D W x3 b s rb s) := Lib.hid (by rw [hx3]; exact HT2.out.later HK.out (below_drewN (Below.refl _ _) q3))
          clear hx3 HI6 HJ6 HT2
          go_wp2_with fail
          refine hK.out _ _ trivial (fun _ => ?_)
          clear hK K
          try simp only [Act.put, List.setIfInBounds_toArray, List.set_cons_zero, List.set_cons_succ]
          refine wpAnyH_take (i := 7) (oi := ?oizl7) (v := ?vzl7) ?hizl7 (by kernel_rfl) (by kernel_rfl) (by kernel_rfl) ?hQzl7 (Or.inl ⟨?hwzl7, ?hyzl7⟩) (by assumption) ?restzl7
          case hizl7 => (first | (simp only [List.getElem?_toArray, List.getElem?_cons_zero, List.getElem?_cons_succ]; rfl) | rfl)
          case hQzl7 => exact fun _ _ _ h => h
          case hwzl7 => rfl
          case hyzl7 => ((intro w hSw; go_simp); first | done | with_reducible rfl)
          try simp only [Act.put, List.setIfInBounds_toArray, List.set_cons_zero, List.set_cons_succ]
          refine wpAnyH_take (i := 8) (oi := ?oizl8) (v := ?vzl8) ?hizl8 (by kernel_rfl) (by kernel_rfl) (by kernel_rfl) ?hQzl8 (Or.inl ⟨?hwzl8, ?hyzl8⟩) (by assumption) ?restzl8
          case hizl8 => (first | (simp only [List.getElem?_toArray, List.getElem?_cons_zero, List.getElem?_cons_succ]; rfl) | rfl)
          case hQzl8 => exact fun _ _ _ h => h
          case hwzl8 => rfl
          case hyzl8 => ((intro w hSw; go_simp); first | done | with_reducible rfl)
          try simp only [Act.put, List.setIfInBounds_toArray, List.set_cons_zero, List.set_cons_succ]
          refine wpAnyH_take (i := 9) (oi := ?oizl9) (v := ?vzl9) ?hizl9 (by kernel_rfl) (by kernel_rfl) (by kernel_rfl) ?hQzl9 (Or.inl ⟨?hwzl9, ?hyzl9⟩) (by assumption) ?restzl9
          case hizl9 => (first | (simp only [List.getElem?_toArray, List.getElem?_cons_zero, List.getElem?_cons_succ]; rfl) | rfl)
          case hQzl9 => exact fun _ _ _ h => h
          case hwzl9 => rfl
          case hyzl9 => ((intro w hSw; go_simp); first | done | with_reducible rfl)
          try simp only [Act.put, List.setIfInBounds_toArray, List.set_cons_zero, List.set_cons_succ]
          refine wpAnyH_take (i := 12) (oi := ?oizl12) (v := ?vzl12) ?hizl12 (by kernel_rfl) (by kernel_rfl) (by kernel_rfl) ?hQzl12 (Or.inl ⟨?hwzl12, ?hyzl12⟩) (by assumption) ?restzl12
          case hizl12 => (first | (simp only [List.getElem?_toArray, List.getElem?_cons_zero, List.getElem?_cons_succ]; rfl) | rfl)
          case hQzl12 => exact fun _ _ _ h => h
          case hwzl12 => rfl
          case hyzl12 => ((intro w hSw; go_simp); first | done | with_reducible rfl)
          try simp only [Act.put, List.setIfInBounds_toArray, List.set_cons_zero, List.set_cons_succ]
          refine wpAnyH_ready (rs := [10]) (by kernel_rfl) (by simp) ?_
          refine AllReadyH.cons (o := ?ozm) ?hczm ?stzm AllReadyH.nil
          case hczm => (simp only [List.getElem?_toArray, List.getElem?_cons_zero, List.getElem?_cons_succ]; rfl)
          intro K hK
          go_simp
          refine (lv_put HK.out HT3.out.lv).mono ?_
          rintro e x4 ⟨A7, c7, rfl, hi7, -, -, hb7⟩
          have HT4 := Lib.hid (HT3.out.later HK.out hb7)
          have HI7 := Lib.hid hi7
          clear hi7 hb7 HT3
          go_wp2_with fail
          refine hK.out _ _ trivial (fun _ => ?_)
          clear hK K
          refine heldMore (S' := fun w' => True ∧ (convert 23 9 (.slice A7 (dPut s).length c7)).run Try.prog w' = .ok (.string ⟨(dPut s).toArray⟩) w') (fun _ _ => trivial) _ _ _ _ ?_
          have hHeld4 : (fun w' => True ∧ (convert 23 9 (.slice A7 (dPut s).length c7)).run Try.prog w' = .ok (.string ⟨(dPut s).toArray⟩) w') x4 := ⟨trivial, str_of HI7.out c7⟩
          try simp only [Act.put, List.setIfInBounds_toArray, List.set_cons_zero, List.set_cons_succ]
          refine wpAnyH_take (i := 11) (oi := ?oizn11) (v := ?vzn11) ?hizn11 (by kernel_rfl) (by kernel_rfl) (by kernel_rfl) ?hQzn11 (Or.inl ⟨?hwzn11, ?hyzn11⟩) (by assumption) ?restzn11
          case hizn11 => (first | (simp only [List.getElem?_toArray, List.getElem?_cons_zero, List.getElem?_cons_succ]; rfl) | rfl)
          case hQzn11 => exact fun _ _ _ h => h
          case hwzn11 => rfl
          case hyzn11 => ((intro w hSw; obtain ⟨-, hs2⟩ := hSw; go_simp); first | done | with_reducible rfl)
          try simp only [Act.put, List.setIfInBounds_toArray, List.set_cons_zero, List.set_cons_succ]
          refine wpAnyH_ready (rs := [13]) (by kernel_rfl) (by simp) ?_
          refine AllReadyH.cons (o := ?ozo) ?hczo ?stzo AllReadyH.nil
          case hczo => (simp only [List.getElem?_toArray, List.getElem?_cons_zero, List.getElem?_cons_succ]; rfl)
          intro K hK
          go_simp
          obtain ⟨F4, L4, v4, -, hr4, -, -, -, -⟩ := HT4.out
          refine (r14Put_any hr4).mono ?_
          rintro e x5 ⟨A8, c8, rfl, hi8, hb8⟩
          have HT5 := Lib.hid (HT4.out.later HK.out hb8)
          have HI8 := Lib.hid hi8
          have HI9 := Lib.hid (HI7.out.below hb8)
          clear hi8 hb8 hr4 HT4 HI7
          go_wp2_with fail
          refine hK.out _ _ ⟨trivial, str_of HI9.out c7⟩ (fun _ => ?_)
          clear hK K
          refine heldMore (S' := fun w' => True ∧ (convert 23 9 (.slice A8 (dPut s).length c8)).run Try.prog w' = .ok (.string ⟨(dPut s).toArray⟩) w' ∧ (convert 23 9 (.slice A7 (dPut s).length c7)).run Try.prog w' = .ok (.string ⟨(dPut s).toArray⟩) w') (fun w h => ⟨trivial, h.2.2⟩) _ _ _ _ ?_
          have hHeld5 : (fun w' => True ∧ (convert 23 9 (.slice A8 (dPut s).length c8)).run Try.prog w' = .ok (.string ⟨(dPut s).toArray⟩) w' ∧ (convert 23 9 (.slice A7 (dPut s).length c7)).run Try.prog w' = .ok (.string ⟨(dPut s).toArray⟩) w') x5 := ⟨trivial, str_of HI8.out c8, str_of HI9.out c7⟩
          try simp only [Act.put, List.setIfInBounds_toArray, List.set_cons_zero, List.set_cons_succ]
          refine wpAnyH_take (i := 14) (oi := ?oizp14) (v := ?vzp14) ?hizp14 (by kernel_rfl) (by kernel_rfl) (by kernel_rfl) ?hQzp14 (Or.inl ⟨?hwzp14, ?hyzp14⟩) (by assumption) ?restzp14
          case hizp14 => (first | (simp only [List.getElem?_toArray, List.getElem?_cons_zero, List.getElem?_cons_succ]; rfl) | rfl)
          case hQzp14 => exact fun _ _ _ h => h
          case hwzp14 => rfl
          case hyzp14 => ((intro w hSw; obtain ⟨-, hs2, hs3⟩ := hSw; go_simp); first | done | with_reducible rfl)
          try simp only [Act.put, List.setIfInBounds_toArray, List.set_cons_zero, List.set_cons_succ]
          refine wpAnyH_take (i := 15) (oi := ?oizp15) (v := ?vzp15) ?hizp15 (by kernel_rfl) (by kernel_rfl) (by kernel_rfl) ?hQzp15 (Or.inl ⟨?hwzp15, ?hyzp15⟩) (by assumption) ?restzp15
          case hizp15 => (first | (simp only [List.getElem?_toArray, List.getElem?_cons_zero, List.getElem?_cons_succ]; rfl) | rfl)
          case hQzp15 => exact fun _ _ _ h => h
          case hwzp15 => rfl
          case hyzp15 => ((intro w hSw; obtain ⟨-, hs2, hs3⟩ := hSw; go_simp); first | done | with_reducible rfl)
          try simp only [Act.put, List.setIfInBounds_toArray, List.set_cons_zero, List.set_cons_succ]
          refine wpAnyH_take (i := 16) (oi := ?oizp16) (v := ?vzp16) ?hizp16 (by kernel_rfl) (by kernel_rfl) (by kernel_rfl) ?hQzp16 (Or.inl ⟨?hwzp16, ?hyzp16⟩) (by assumption) ?restzp16
          case hizp16 => (first | (simp only [List.getElem?_toArray, List.getElem?_cons_zero, List.getElem?_cons_succ]; rfl) | rfl)
          case hQzp16 => exact fun _ _ _ h => h
          case hwzp16 => rfl
          case hyzp16 => ((intro w hSw; obtain ⟨-, hs2, hs3⟩ := hSw; go_simp); first | done | with_reducible rfl)
          try simp only [Act.put, List.setIfInBounds_toArray, List.set_cons_zero, List.set_cons_succ]
          refine wpAnyH_take (i := 17) (oi := ?oizp17) (v := ?vzp17) ?hizp17 (by kernel_rfl) (by kernel_rfl) (by kernel_rfl) ?hQzp17 (Or.inl ⟨?hwzp17, ?hyzp17⟩) (by assumption) ?restzp17
          case hizp17 => (first | (simp only [List.getElem?_toArray, List.getElem?_cons_zero, List.getElem?_cons_succ]; rfl) | rfl)
          case hQzp17 => exact fun _ _ _ h => h
          case hwzp17 => rfl
          case hyzp17 => ((intro w hSw; obtain ⟨-, hs2, hs3⟩ := hSw; go_simp); first | done | with_reducible rfl)
          try simp only [Act.put, List.setIfInBounds_toArray, List.set_cons_zero, List.set_cons_succ]
          refine wpAnyH_done (by kernel_rfl) ?_ _
          go_wp2
          go_ret
          exact ⟨rfl, HT5.out.below⟩
    · go_wp2_with fail
      refine (lv_none HK.out wq n hnf hN).mono ?_
      rintro e w8 ⟨rfl, hb8⟩
      have HB8 := Lib.hid (below_then HBQ.out hb8 HBQ.out.size)
      clear hb8
      go_wp2_with fail
      refine (r14New_no w8 n hN).mono ?_
      rintro e w9 ⟨rfl, rfl⟩
      go_wp2
      go_ret
      exact ⟨rfl, HB8.out⟩
end Go.Proofs.Ytdmhaaplgkilpaa
