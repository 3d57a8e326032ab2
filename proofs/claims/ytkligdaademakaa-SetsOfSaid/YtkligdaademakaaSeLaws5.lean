/- SetsOf. -/
import Derived.Test.YtkligdaademakaaSeOfSpec
import Derived.Test.YtkligdaademakaaSeHead
import Derived.Test.YtkligdaademakaaSeLaws4
import Derived.Test.YtkligdaademakaaSeLen
import Derived.Test.YtkligdaademakaaSeCut
import Derived.Test.YtkligdaademakaaPRef6
import Derived.Test.YtkligdaademakaaLRef8
import Derived.Deep.CutBlock
import Derived.Deep.DeepCutAuto
namespace Go.Proofs.Ytkligdaademakaa
open Go.RowKit Go.Maps Go.WideMaps
set_option linter.unusedSimpArgs false

theorem eqCurNil' (w : World) (p : Option Addr) : (binOp .eql 53 (.pointer p) (.pointer none)).run Try.prog w = .ok (.bool p.isNone) w := by
  have h : ∀ d : Nat, (Op.equalIn (d + 1) 53 (.pointer p) (.pointer none)).run Try.prog w = .ok p.isNone w := fun d => by
    cases p <;> simp [Op.equalIn, run_underlying Try.underlying53]
  simp only [binOp]
  simp [Op.equal, Op.maxDepth, h 9999]
theorem wSkip_le {L : List Int} (d : Int) {a : Nat} (h : a ≤ L.length) : wSkip L d a ≤ L.length := wSkipN_le L d _ a h
/-- Blocks that are not those of a cursor that was made between. -/
def Away (s t : Nat) (F : Nat → Prop) : Prop := ∀ b, F b → b < s ∨ t ≤ b

set_option maxHeartbeats 32000000 in
set_option maxRecDepth 100000 in
theorem setsOf_any {S : SetP} (hS : SetsOk S) {K : CurP} (hK : CurLive K) (hO : OfOk S K) (W : World) (A B : Option Addr) (na nb ca cb : Nat) (a b : List Pst) (ha : PostsSee W A na a) (hb : PostsSee W B nb b) (hna : na ≤ 140737488351232) (hnb : nb ≤ 140737488351232) (hza : ∀ x ∈ a, x.2.length ≤ 140737488351232) (hzb : ∀ x ∈ b, x.2.length ≤ 140737488351232) (d : Int) (hd : fits64 d) :
    Calls Try.prog 6 #[.slice A na ca, .slice B nb cb, .int .i64 d] W fun e w' => e = .returned (.bool true) ∧ Below W.heap.size W w' := by
  obtain ⟨i0, hi, hz0, hz1, hz2⟩ := info_parts intInfo64
  have hep := eqCurNil'
  have hes := eqSetNil
  have HSa := Lib.hid ha
  have HSb := Lib.hid hb
  have HZa := Lib.hid hza
  have HZb := Lib.hid hzb
  clear ha hb hza hzb
  go_enter Try.func6, Try.ntmps6
  go_wp2_with fail
  refine (seHead_any hS W).mono ?_
  rintro e w1 ⟨rfl, hb1⟩
  have HB1 := Lib.hid hb1
  have HSa1 := Lib.hid (HSa.out.below hb1)
  have HSb1 := Lib.hid (HSb.out.below hb1)
  clear hb1
  go_wp2_with fail
  refine (r9Put_any w1 A na ca a HSa1.out (by omega)).mono ?_
  rintro e w2 ⟨vx, rfl, hox, hb2⟩
  have HOX := Lib.hid hox
  have HB2 := Lib.hid (below_then HB1.out hb2 HB1.out.size)
  have HSa2 := Lib.hid (HSa1.out.below hb2)
  have HSb2 := Lib.hid (HSb1.out.below hb2)
  obtain ⟨X, cx, rfl, hcx⟩ := own_cap hox
  clear hox hb2
  go_wp2_with fail
  refine (r9Put_any w2 B nb cb b HSb2.out (by omega)).mono ?_
  rintro e w3 ⟨vy, rfl, hoy, hb3⟩
  have HOY := Lib.hid hoy
  have HB3 := Lib.hid (below_then HB2.out hb3 HB2.out.size)
  have HSa3 := Lib.hid (HSa2.out.below hb3)
  have HSb3 := Lib.hid (HSb2.out.below hb3)
  have HOX3 := Lib.hid (ownsRow_block HOX.out (w' := w3) fun g hg => hb3.block g (HOX.out.lt g hg).2)
  obtain ⟨Y, cy, rfl, hcy⟩ := own_cap hoy
  obtain ⟨Ea, hEa⟩ : ∃ z, z = checkP a := ⟨_, rfl⟩
  obtain ⟨Eb, hEb⟩ : ∃ z, z = checkP b := ⟨_, rfl⟩
  rw [← hEa, ← hEb]
  have HEA := Lib.hid hEa
  have HEB := Lib.hid hEb
  have hwn : IntKind.i64.wrap ((na : Int) + (nb : Int)) = (na : Int) + (nb : Int) := IntWalk.i64_in _ (by omega)
  obtain ⟨N0, hN0⟩ : ∃ z : Int, z = (na : Int) + (nb : Int) := ⟨_, rfl⟩
  rw [← hN0] at hwn
  have hN0b : 0 ≤ N0 ∧ N0 ≤ 500000000000000 := by omega
  obtain ⟨lx, hlx⟩ : ∃ z, z = (putE a).length := ⟨_, rfl⟩
  obtain ⟨ly, hly⟩ : ∃ z, z = (putE b).length := ⟨_, rfl⟩
  rw [← hlx, ← hly]
  have HLX := Lib.hid hlx
  have HLY := Lib.hid hly
  have HN0 := Lib.hid hN0
  clear hoy hb3 hEa hEb hlx hly hN0
  go_upto_block 0 with fail
  go_cut [12, 13] from 45 to 62 (fun nv _ wx => ∃ M : Int, nv = .int .i64 M ∧ 0 ≤ M ∧ M ≤ 500000000000000 ∧ wx = w3)
  case first =>
    go_wp2
    go_loopw [12, 13] (fun nv iv wr => ∃ (k : Nat) (M : Int), k ≤ na ∧ iv = .int .i64 k ∧ nv = .int .i64 M ∧ wr = w3 ∧ 0 ≤ M ∧ M ≤ 500000000000000) (fun _ iv _ => na - (intOf iv).toNat)
    case atStart => exact ⟨0, N0, by omega, rfl, by first | rfl | rw [HN0.out], rfl, by omega, by omega⟩
    case round =>
      obtain ⟨k, M, hk, rfl, rfl, hwr, h1, h2⟩ := hrel
      subst hwr
      by_cases hg1 : k < na
      · have hlt' : (k : Int) < (na : Int) := by omega
        have d1 : decide ((k : Int) < (na : Int)) = true := decide_eq_true hlt'
        by_cases hg2 : M < 2000
        · have d2 : decide (M < 2000) = true := decide_eq_true hg2
          have p0 : (0 : Int) ≤ (k : Int) := by omega
          obtain ⟨pa, x, SA, da, rfl, hx, -, a0, a1, -, -⟩ := HSa3.out.at k hg1
          have hxz := HZa.out x (List.mem_of_getElem? hx)
          obtain ⟨q, hq⟩ : ∃ q, q = x.2.length := ⟨_, rfl⟩
          rw [← hq] at a1 hxz
          have hw2 : IntKind.i64.wrap (M + (q : Int)) = M + (q : Int) := IntWalk.i64_in _ (by omega)
          have hw3 : IntKind.i64.wrap ((k : Int) + 1) = (k : Int) + 1 := IntWalk.i64_in _ (by omega)
          clear hx hq
          go_wp2
          go_roundw
          case rel => exact ⟨k + 1, M + q, by omega, by go_num, rfl, by first | rfl | trivial, by omega, by omega⟩
          case measure => simp [intOf]; omega
        · have d2 : decide (M < 2000) = false := decide_eq_false hg2
          have d2' : 2000 ≤ M := by omega
          go_wp2_with fail
          go_meet
          case rel => exact ⟨M, rfl, h1, h2, by first | rfl | trivial⟩
      · have d1 : decide ((k : Int) < (na : Int)) = false := decide_eq_false (by omega)
        have d1' : ¬ ((k : Int) < (na : Int)) := by omega
        go_wp2_with fail
        go_meet
        case rel => exact ⟨M, rfl, h1, h2, by first | rfl | trivial⟩
  case rest =>
  obtain ⟨M0, rfl, hM0a, hM0b, hwc⟩ := hcut
  rw [hwc]
  clear hwc
  go_upto_block 2 with fail
  go_cut [12, 14] from 63 to 80 (fun nv _ wx => ∃ M : Int, nv = .int .i64 M ∧ 0 ≤ M ∧ M ≤ 500000000000000 ∧ wx = w3)
  case first =>
    go_wp2
    go_loopw [12, 14] (fun nv iv wr => ∃ (k : Nat) (M : Int), k ≤ nb ∧ iv = .int .i64 k ∧ nv = .int .i64 M ∧ wr = w3 ∧ 0 ≤ M ∧ M ≤ 500000000000000) (fun _ iv _ => nb - (intOf iv).toNat)
    case atStart => exact ⟨0, M0, by omega, rfl, by first | rfl | rw [HN0.out], rfl, by omega, by omega⟩
    case round =>
      obtain ⟨k, M, hk, rfl, rfl, hwr, h1, h2⟩ := hrel
      subst hwr
      by_cases hg1 : k < nb
      · have hlt' : (k : Int) < (nb : Int) := by omega
        have d1 : decide ((k : Int) < (nb : Int)) = true := decide_eq_true hlt'
        by_cases hg2 : M < 2000
        · have d2 : decide (M < 2000) = true := decide_eq_true hg2
          have p0 : (0 : Int) ≤ (k : Int) := by omega
          obtain ⟨pa, x, SA, da, rfl, hx, -, a0, a1, -, -⟩ := HSb3.out.at k hg1
          have hxz := HZb.out x (List.mem_of_getElem? hx)
          obtain ⟨q, hq⟩ : ∃ q, q = x.2.length := ⟨_, rfl⟩
          rw [← hq] at a1 hxz
          have hw2 : IntKind.i64.wrap (M + (q : Int)) = M + (q : Int) := IntWalk.i64_in _ (by omega)
          have hw3 : IntKind.i64.wrap ((k : Int) + 1) = (k : Int) + 1 := IntWalk.i64_in _ (by omega)
          clear hx hq
          go_wp2
          go_roundw
          case rel => exact ⟨k + 1, M + q, by omega, by go_num, rfl, by first | rfl | trivial, by omega, by omega⟩
          case measure => simp [intOf]; omega
        · have d2 : decide (M < 2000) = false := decide_eq_false hg2
          have d2' : 2000 ≤ M := by omega
          go_wp2_with fail
          go_meet
          case rel => exact ⟨M, rfl, h1, h2, by first | rfl | trivial⟩
      · have d1 : decide ((k : Int) < (nb : Int)) = false := decide_eq_false (by omega)
        have d1' : ¬ ((k : Int) < (nb : Int)) := by omega
        go_wp2_with fail
        go_meet
        case rel => exact ⟨M, rfl, h1, h2, by first | rfl | trivial⟩
  case rest =>
  obtain ⟨M2, rfl, hM2a, hM2b, hwc⟩ := hcut
  rw [hwc]
  clear hwc
  by_cases ea : Ea = 0
  case neg =>
    have d1 : (Ea != 0) = true := by simpa using ea
    clear ea
    go_wp2
    go_ret
    exact ⟨rfl, HB3.out⟩
  subst ea
  by_cases eb : Eb = 0
  case neg =>
    have d1 : (Eb != 0) = true := by simpa using eb
    clear eb
    go_wp2
    go_ret
    exact ⟨rfl, HB3.out⟩
  subst eb
  by_cases hM : M2 < 2000
  case neg =>
    have d1 : decide ((2000 : Int) ≤ M2) = true := decide_eq_true (by omega)
    go_wp2
    go_ret
    exact ⟨rfl, HB3.out⟩
  have d1 : decide ((2000 : Int) ≤ M2) = false := decide_eq_false (by omega)
  have hVa := (check_ok (fit_of HSa3.out)).1 HEA.out.symm
  have hVb := (check_ok (fit_of HSb3.out)).1 HEB.out.symm
  have hla : a.length = na := HSa3.out.len
  have hlb : b.length = nb := HSb3.out.len
  have hna4 : na ≤ 4096 := by rw [← hla]; exact hVa.few
  have hnb4 : nb ≤ 4096 := by rw [← hlb]; exact hVb.few
  have hpa : putE a = putP a := by unfold putE; rw [if_pos HEA.out.symm]
  have hpb : putE b = putP b := by unfold putE; rw [if_pos HEB.out.symm]
  have HVa := Lib.hid hVa
  have HVb := Lib.hid hVb
  have HLa := Lib.hid hla
  have HLb := Lib.hid hlb
  have HXB : Hid (BytesIn w3 X lx (putP a)) := Lib.hid (by
    have h1 := BytesIn.own HOX3.out (by have := putP_len hVa; rw [hpa]; unfold maxLen; omega)
    rw [← HLX.out, hpa] at h1
    exact h1)
  have HYB : Hid (BytesIn w3 Y ly (putP b)) := Lib.hid (by
    have h1 := BytesIn.own HOY.out (by have := putP_len hVb; rw [hpb]; unfold maxLen; omega)
    rw [← HLY.out, hpb] at h1
    exact h1)
  have hlxb : lx ≤ 368803860 := by rw [HLX.out, hpa]; exact putP_len hVa
  have hlyb : ly ≤ 368803860 := by rw [HLY.out, hpb]; exact putP_len hVb
  have hcx' : lx ≤ cx := by rw [HLX.out]; exact hcx
  have hcy' : ly ≤ cy := by rw [HLY.out]; exact hcy
  clear hVa hVb hla hlb hpa hpb hcx hcy hM
  go_wp2
  go_loopw [15, 17] (fun v iv wr => ∃ k : Nat, k ≤ na ∧ iv = .int .i64 k ∧ wr.ownsRow w3.heap.size 2 1 v k ((((a.take k).map (·.1)).map i64V)) ∧ Below w3.heap.size w3 wr) (fun _ iv _ => na - (intOf iv).toNat)
  case atStart => exact ⟨0, by omega, rfl, ⟨rfl, .inl ⟨rfl, rfl⟩⟩, Below.refl _ _⟩
  case round =>
    obtain ⟨k, hk, rfl, hO, hB⟩ := hrel
    have HOk := Lib.hid hO
    have HBk := Lib.hid hB
    have hbz := hB.size
    clear hO hB
    obtain ⟨Av, cv, rfl, hcv⟩ := own_cap HOk.out
    rcases Nat.lt_or_ge k na with hlt | hge
    · have hlt' : (k : Int) < (na : Int) := by omega
      have p0 : (0 : Int) ≤ (k : Int) := by omega
      have hw5 : IntKind.i64.wrap ((k : Int) + 1) = (k : Int) + 1 := IntWalk.i64_in _ (by omega)
      obtain ⟨pa, x, SA, da, rfl, hx, -, a0, a1, -, -⟩ := (HSa3.out.below HBk.out).at k hlt
      have HTK : Hid (((a.take (k + 1)).map (·.1)).map i64V = ((a.take k).map (·.1)).map i64V ++ [x.1].map i64V) := Lib.hid (by rw [take_snoc hx]; simp)
      clear hx a1
      go_wp2_with (at_builtin; refine wpList_append_src _ rfl (.tmp 98) (.tmp 104) 26 rfl w3.heap.size 2 i0 (.int .i64 0) 8 Try.underlying26 hi hz0 hz1 hz2 rfl _ k _ rfl (World.ownsRow.alloc HOk.out _) _ 1 1 _ rfl (one_int_src _ 2 x.1) (i64V_one [x.1]) (by unfold maxLen; omega) (by omega) (by have := HBk.out.size; simp; omega) ?_; intro v3 w9 hown hgrow _; have HO9 := Lib.hid hown; have HB9 := Lib.hid ((HBk.out.alloc HBk.out.size _).grown hgrow (by have := HBk.out.size; simp; omega) (fun g hg => (HOk.out.lt g hg).1)); clear hown hgrow)
      go_roundw
      case rel => exact ⟨k + 1, by omega, by go_num, by rw [HTK.out]; exact HO9.out, HB9.out⟩
      case measure => simp [intOf]; omega
    obtain rfl : k = na := by omega
    have hlz : ¬ ((k : Int) < (k : Int)) := by omega
    have HR1 : Hid (IntsIn wr Av k (a.map (·.1))) := Lib.hid (by
      have h1 := HOk.out
      rw [List.take_of_length_le (by rw [HLa.out]; exact Nat.le_refl _)] at h1
      exact IntsIn.own h1 (by unfold maxLen; omega) (fun x hx => by
        obtain ⟨p, hp, rfl⟩ := List.mem_map.1 hx
        have := HVa.out.docs p hp
        omega))
    have HSb4 := Lib.hid (HSb3.out.below HBk.out)
    obtain ⟨w4, hw4⟩ : ∃ z, z = wr := ⟨_, rfl⟩
    subst hw4
    obtain ⟨O1, hO1⟩ : ∃ z, z = Av := ⟨_, rfl⟩
    subst hO1
    obtain ⟨oc1, hoc1⟩ : ∃ z, z = cv := ⟨_, rfl⟩
    subst hoc1
    have hcoc := hcv
    clear hcv
    obtain ⟨nA, hnA⟩ : ∃ z, z = k := ⟨_, rfl⟩
    subst hnA
    have HB4 := HBk
    clear HBk HOk
    go_wp2
    go_loopw [16, 18] (fun v iv wr => ∃ k : Nat, k ≤ nb ∧ iv = .int .i64 k ∧ wr.ownsRow w4.heap.size 2 1 v k ((((b.take k).map (·.1)).map i64V)) ∧ Below w4.heap.size w4 wr) (fun _ iv _ => nb - (intOf iv).toNat)
    case atStart => exact ⟨0, by omega, rfl, ⟨rfl, .inl ⟨rfl, rfl⟩⟩, Below.refl _ _⟩
    case round =>
      obtain ⟨k, hk, rfl, hO, hB⟩ := hrel
      have HOk := Lib.hid hO
      have HBk := Lib.hid hB
      have hbz := hB.size
      clear hO hB
      obtain ⟨Av, cv, rfl, hcv⟩ := own_cap HOk.out
      rcases Nat.lt_or_ge k nb with hlt | hge
      · have hlt' : (k : Int) < (nb : Int) := by omega
        have p0 : (0 : Int) ≤ (k : Int) := by omega
        have hw5 : IntKind.i64.wrap ((k : Int) + 1) = (k : Int) + 1 := IntWalk.i64_in _ (by omega)
        obtain ⟨pa, x, SA, da, rfl, hx, -, a0, a1, -, -⟩ := (HSb4.out.below HBk.out).at k hlt
        have HTK : Hid (((b.take (k + 1)).map (·.1)).map i64V = ((b.take k).map (·.1)).map i64V ++ [x.1].map i64V) := Lib.hid (by rw [take_snoc hx]; simp)
        clear hx a1
        go_wp2_with (at_builtin; refine wpList_append_src _ rfl (.tmp 112) (.tmp 118) 26 rfl w4.heap.size 2 i0 (.int .i64 0) 8 Try.underlying26 hi hz0 hz1 hz2 rfl _ k _ rfl (World.ownsRow.alloc HOk.out _) _ 1 1 _ rfl (one_int_src _ 2 x.1) (i64V_one [x.1]) (by unfold maxLen; omega) (by omega) (by have := HBk.out.size; simp; omega) ?_; intro v3 w9 hown hgrow _; have HO9 := Lib.hid hown; have HB9 := Lib.hid ((HBk.out.alloc HBk.out.size _).grown hgrow (by have := HBk.out.size; simp; omega) (fun g hg => (HOk.out.lt g hg).1)); clear hown hgrow)
        go_roundw
        case rel => exact ⟨k + 1, by omega, by go_num, by rw [HTK.out]; exact HO9.out, HB9.out⟩
        case measure => simp [intOf]; omega
      obtain rfl : k = nb := by omega
      have hlz : ¬ ((k : Int) < (k : Int)) := by omega
      have HR2 : Hid (IntsIn wr Av k (b.map (·.1))) := Lib.hid (by
        have h1 := HOk.out
        rw [List.take_of_length_le (by rw [HLb.out]; exact Nat.le_refl _)] at h1
        exact IntsIn.own h1 (by unfold maxLen; omega) (fun x hx => by
          obtain ⟨p, hp, rfl⟩ := List.mem_map.1 hx
          have := HVb.out.docs p hp
          omega))
      have HR1 := Lib.hid (HR1.out.below HBk.out)
      have HB5 : Hid (Below w3.heap.size w3 wr) := Lib.hid (HB4.out.trans (HBk.out.mono HB4.out.size))
      have HB5W : Hid (Below W.heap.size W wr) := Lib.hid (HB3.out.trans (HB5.out.mono HB3.out.size))
      obtain ⟨w5, hw5⟩ : ∃ z, z = wr := ⟨_, rfl⟩
      subst hw5
      obtain ⟨O2, hO2⟩ : ∃ z, z = Av := ⟨_, rfl⟩
      subst hO2
      obtain ⟨oc2, hoc2⟩ : ∃ z, z = cv := ⟨_, rfl⟩
      subst hoc2
      obtain ⟨nB, hnB⟩ : ∃ z, z = k := ⟨_, rfl⟩
      subst hnB
      obtain ⟨la, hla⟩ : ∃ z, z = a.map (·.1) := ⟨_, rfl⟩
      obtain ⟨lb, hlb⟩ : ∃ z, z = b.map (·.1) := ⟨_, rfl⟩
      rw [← hla] at HR1
      rw [← hlb] at HR2
      have HLA := Lib.hid (show la.length = nA from by rw [hla, List.length_map]; exact HLa.out)
      have hda : docsFrom (cStart a) = la := by rw [hla]; exact (docs_start a).1
      have hdb : docsFrom (cStart b) = lb := by rw [hlb]; exact (docs_start b).1
      have HDA := Lib.hid hda
      have HDB := Lib.hid hdb
      have hpa := getP_put HVa.out
      have hpb := getP_put HVb.out
      have HPA := Lib.hid hpa
      have HPB := Lib.hid hpb
      have HWA : Hid (CWF (cStart a) ∧ ValidP (cStart a).l) := Lib.hid ⟨CWF.start HVa.out.few (fun x hx => ⟨HVa.out.some x hx, HVa.out.spots x hx⟩), by rw [(docs_start a).2]; exact HVa.out⟩
      have HWB : Hid (CWF (cStart b) ∧ ValidP (cStart b).l) := Lib.hid ⟨CWF.start HVb.out.few (fun x hx => ⟨HVb.out.some x hx, HVb.out.spots x hx⟩), by rw [(docs_start b).2]; exact HVb.out⟩
      clear HBk HOk hla hlb hda hdb hpa hpb
      have hnew := hK.new w5 X lx cx (putP a) (HXB.out.below HB5.out) (by omega) (by omega) (by rw [HPA.out])
      rw [HPA.out] at hnew
      have HNEW := Lib.hid hnew
      clear hnew
      go_wp2_with fail
      refine HNEW.out.mono ?_
      rintro e w6 ⟨bc, Fc, rfl, hbc, hkc, hfc⟩
      have HKPc := Lib.hid hbc
      have hszc := hbc.size
      have HFc : Hid (∀ i, Fc i → w5.heap.size ≤ i ∧ i < w6.heap.size) := Lib.hid (fun i hi => ⟨hfc i hi, hK.lt hkc i hi⟩)
      have HKc := Lib.hid hkc
      clear hbc hkc hfc HNEW
      have HB6 : Hid (Below w3.heap.size w3 w6) := Lib.hid (below_then HB5.out HKPc.out HB5.out.size)
      have hnew := hK.new w6 Y ly cy (putP b) (HYB.out.below HB6.out) (by omega) (by omega) (by rw [HPB.out])
      rw [HPB.out] at hnew
      have HNEW := Lib.hid hnew
      clear hnew
      go_wp2_with fail
      refine HNEW.out.mono ?_
      rintro e w7 ⟨bd, Fd, rfl, hbd, hkd, hfd⟩
      have HKPd := Lib.hid hbd
      have hszd := hbd.size
      have HFd : Hid (∀ i, Fd i → w6.heap.size ≤ i ∧ i < w7.heap.size) := Lib.hid (fun i hi => ⟨hfd i hi, hK.lt hkd i hi⟩)
      have HKd := Lib.hid hkd
      clear hbd hkd hfd HNEW
      have HB7 : Hid (Below w3.heap.size w3 w7) := Lib.hid (below_then HB6.out HKPd.out HB6.out.size)
      have hnew := hK.new w7 X lx cx (putP a) (HXB.out.below HB7.out) (by omega) (by omega) (by rw [HPA.out])
      rw [HPA.out] at hnew
      have HNEW := Lib.hid hnew
      clear hnew
      go_wp2_with fail
      refine HNEW.out.mono ?_
      rintro e w8 ⟨bk, Fk, rfl, hbk, hkk, hfk⟩
      have HKPk := Lib.hid hbk
      have hszk := hbk.size
      have HFk : Hid (∀ i, Fk i → w7.heap.size ≤ i ∧ i < w8.heap.size) := Lib.hid (fun i hi => ⟨hfk i hi, hK.lt hkk i hi⟩)
      have HKk := Lib.hid hkk
      clear hbk hkk hfk HNEW
      have HKd8 := Lib.hid (hK.keep HKd.out (fun i hi => HKPk.out.block i (HFd.out i hi).2) HKPk.out.size)
      have HKc8 : Hid (K w8 Fc bc (cStart a)) := Lib.hid (hK.keep (hK.keep HKc.out (fun i hi => HKPd.out.block i (HFc.out i hi).2) HKPd.out.size) (fun i hi => HKPk.out.block i (by have := (HFc.out i hi).2; omega)) HKPk.out.size)
      have HP8 : Hid (Pool S w5 w8 (fun b => b < w5.heap.size) []) := Lib.hid ⟨by simp, List.Pairwise.nil, by simp, fun _ h => h, fun b hb => by omega, (HKPc.out.trans (HKPd.out.mono hszc)).trans (HKPk.out.mono (by omega))⟩
      have HOF1 := Lib.hid (Pool.of hS hO HP8.out HKc8.out HWA.out.1 HWA.out.2 (fun i hi => ⟨by have := HFc.out i hi; omega, by simp⟩))
      rw [HDA.out] at HOF1
      clear HKPc HKPd HKPk HB6 HB7
      go_wp2_with fail
      refine HOF1.out.mono ?_
      rintro e w9 ⟨ad1, F1, rfl, hp9, hk9, hf9⟩
      have hsz9 := hk9.size
      have HKd9 := Lib.hid (hK.keep HKd8.out (fun i hi => hk9.block i (by have := HFd.out i hi; omega) (fun e => by have h1 := HFd.out i hi; have h2 := HFc.out i e; omega)) hk9.size)
      have HKk9 := Lib.hid (hK.keep HKk.out (fun i hi => hk9.block i (HFk.out i hi).2 (fun e => by have h1 := HFk.out i hi; have h2 := HFc.out i e; omega)) hk9.size)
      have HF1 : Hid (∀ i, F1 i → (w5.heap.size ≤ i ∧ i < w6.heap.size) ∨ w8.heap.size ≤ i) := Lib.hid (fun i hi => (hf9 i hi).imp (HFc.out i) id)
      have HP9 : Hid (Pool S w5 w9 (fun b => b < w5.heap.size) [⟨some ad1, la, F1⟩]) := Lib.hid hp9
      have HOF2 := Lib.hid (Pool.of hS hO HP9.out HKd9.out HWB.out.1 HWB.out.2 (fun i hi => ⟨by have := HFd.out i hi; omega, fun x hx hf => by
        rw [List.mem_singleton.1 hx] at hf
        have h1 := HF1.out i hf
        have h2 := HFd.out i hi
        omega⟩))
      rw [HDB.out] at HOF2
      clear hp9 hk9 hf9 HOF1
      go_wp2_with fail
      refine HOF2.out.mono ?_
      rintro e w10 ⟨ad2, F2, rfl, hp10, hk10, hf10⟩
      have hsz10 := hk10.size
      have HKk10 := Lib.hid (hK.keep HKk9.out (fun i hi => hk10.block i (by have := HFk.out i hi; omega) (fun e => by have h1 := HFk.out i hi; have h2 := HFd.out i e; omega)) hk10.size)
      have HF2 : Hid (∀ i, F2 i → (w6.heap.size ≤ i ∧ i < w7.heap.size) ∨ w8.heap.size ≤ i) := Lib.hid (fun i hi => (hf10 i hi).imp (HFd.out i) (fun h => by omega))
      obtain ⟨r1, r2, r3⟩ := Pool.row hS (L := []) (X := [⟨some ad1, la, F1⟩, ⟨some ad2, lb, F2⟩]) hp10
      have hand := Pool.and hS r1 r2 (Nat.le_refl _) (by simp) r3
      simp only [List.map_cons, List.map_nil, List.length_cons, List.length_nil, Nat.zero_add, Nat.reduceAdd] at hand
      obtain ⟨w11, hw11⟩ : ∃ z, z = w10.alloc (.cells #[.pointer (some ad1), .pointer (some ad2)] 28) := ⟨_, rfl⟩
      have hand2 : Calls Try.prog 20 #[.slice (some ⟨w10.heap.size, 0, none⟩) 2 2] w11 (ManyOut S w5 w11 (fun b => b < w5.heap.size) [] [⟨some ad1, la, F1⟩, ⟨some ad2, lb, F2⟩] (some ⟨w10.heap.size, 0, none⟩) 2 (andL [la, lb])) := by rw [hw11]; exact hand
      have HAND := Lib.hid hand2
      have hsz11 : w11.heap.size = w10.heap.size + 1 := by rw [hw11]; simp
      have HKk11 : Hid (K w11 Fk bk (cStart a)) := Lib.hid (by rw [hw11]; exact hK.keep HKk10.out (fun i hi => Below.heap_alloc w10 _ i (by have := HFk.out i hi; omega)) (by simp))
      have HW11 := Lib.hid hw11
      clear hp10 hk10 hf10 HOF2 r1 r2 r3 hand hand2 hw11
      go_wp2_with fail
      rw [← HW11.out]
      refine HAND.out.mono ?_
      rintro e w12 ⟨z, rfl, hz, hp12, hk12, hf12⟩
      have hsz12 := hk12.size
      have HX12 : Hid (∀ i, ((∃ x ∈ [(⟨some ad1, la, F1⟩ : SV), ⟨some ad2, lb, F2⟩], x.F i) ∨ (∃ ad, some (⟨w10.heap.size, 0, none⟩ : Addr) = some ad ∧ 0 < 2 ∧ i = ad.block)) → (w5.heap.size ≤ i ∧ i < w7.heap.size) ∨ w8.heap.size ≤ i) := Lib.hid (fun i hi => by
        rcases hi with ⟨x, hx, hf⟩ | ⟨ad, e, -, e2⟩
        · simp only [List.mem_cons, List.not_mem_nil, or_false] at hx
          rcases hx with rfl | rfl
          · have := HF1.out i hf; omega
          · have := HF2.out i hf; omega
        · cases e
          simp only at e2
          omega)
      have HKk12 := Lib.hid (hK.keep HKk11.out (fun i hi => hk12.block i (by have := HFk.out i hi; omega) (fun e => by have h1 := HFk.out i hi; have h2 := HX12.out i e; omega)) hk12.size)
      have HZF : Hid (∀ i, z.F i → (w5.heap.size ≤ i ∧ i < w7.heap.size) ∨ w8.heap.size ≤ i) := Lib.hid (fun i hi => by
        rcases hf12 i hi with h1 | h1
        · exact HX12.out i h1
        · omega)
      have HGA := Lib.hid (Pool.gather hS (L := []) (x := z) hp12 (by rw [hz]; exact Nat.le_trans (few_and (Nat.le_of_eq HLA.out)) (by omega)))
      rw [hz] at HGA
      clear hz hp12 hk12 hf12 HAND
      go_wp2_with fail
      refine HGA.out.mono ?_
      rintro e w13 ⟨A13, c13, G13, rfl, -, hp13, hm13, -, hk13, hgg13⟩
      have hsz13 := hk13.size
      have HM13 := Lib.hid hm13
      have HKk13 := Lib.hid (hK.keep HKk12.out (fun i hi => hk13.block i (by have := HFk.out i hi; omega) (fun e => by have h1 := HFk.out i hi; have h2 := HZF.out i e; omega)) hk13.size)
      have HOF3 := Lib.hid (Pool.of hS hO hp13 HKk13.out HWA.out.1 HWA.out.2 (fun i hi => ⟨fun e => by
        have h1 := HFk.out i hi
        rcases hgg13 i e with h2 | h2 | h2
        · omega
        · have := HZF.out i h2; omega
        · omega, by simp⟩))
      rw [HDA.out] at HOF3
      have HFG : Hid (∀ i, Fk i → ¬ G13 i) := Lib.hid (fun i hi e => by
        have h1 := HFk.out i hi
        rcases hgg13 i e with h2 | h2 | h2
        · omega
        · have := HZF.out i h2; omega
        · omega)
      clear hp13 hm13 hk13 hgg13 HGA
      go_wp2_with fail
      refine HOF3.out.mono ?_
      rintro e w14 ⟨ad3, F3, rfl, hp14, hk14, hf14⟩
      have HM14 := Lib.hid (HM13.out.goes ⟨Fk, hk14, HFG.out, fun _ e => e⟩)
      have HP14 : Hid (Pool S w5 w14 G13 ([] ++ [⟨some ad3, la, F3⟩])) := Lib.hid hp14
      have HSK := Lib.hid (Pool.skip hS HP14.out d hd)
      clear hp14 hk14 hf14 HOF3
      go_wp2_with fail
      refine HSK.out.mono ?_
      rintro e w15 ⟨r, F4, rfl, hp15, hk15, hf15⟩
      have HM15 := Lib.hid (HM14.out.goes ⟨F3, hk15, fun i hi => HP14.out.far ⟨some ad3, la, F3⟩ (by simp) i hi, fun _ e => e⟩)
      have HGA := Lib.hid (Pool.gather hS (L := []) (x := ⟨some ad3, _, F4⟩) hp15 (by have h1 := HLA.out; have h2 := (List.dropWhile_sublist (l := la) (fun x => decide (x < d))).length_le; show (la.dropWhile (fun x => decide (x < d))).length ≤ _; omega))
      clear hp15 hk15 hf15 HSK
      go_wp2_with fail
      refine HGA.out.mono ?_
      rintro e w16 ⟨A16, c16, G16, rfl, hc16, hp16, hm16, hg16, -, -⟩
      have HM16 := Lib.hid (HM15.out.goes hg16)
      have HN16 := Lib.hid hm16
      have HP16 := Lib.hid hp16
      clear hm16 hg16 hp16 HGA
      have hsz16 := HP16.out.below.size
      have HR1s := Lib.hid (HR1.out.below HP16.out.below)
      have HR2s := Lib.hid (HR2.out.below HP16.out.below)
      obtain ⟨w17, hw17⟩ : ∃ z, z = w16.alloc (.cells #[.slice O1 nA oc1, .int .i64 0] 34) := ⟨_, rfl⟩
      have hb17 : Below w16.heap.size w16 w17 := by rw [hw17]; exact (Below.refl _ w16).alloc (Nat.le_refl _) _
      have hblk : Blk w17 w16.heap.size 34 #[.slice O1 nA oc1, .int .i64 0] := by rw [hw17]; exact Blk.new _ _ _
      have hwalk : WalkAt w17 0 w16.heap.size la 0 := by
        refine ⟨Nat.zero_le _, w16, O1, oc1, by rw [HLA.out]; exact HR1s.out, fun _ _ _ => Nat.zero_le _, Nat.le_refl _, fun i _ h2 => hb17.block i h2, ?_⟩
        rw [HLA.out]
        exact hblk
      have HSKW := Lib.hid (r11Skip_any hwalk (Nat.zero_le _) (by rw [HLA.out]; omega) d)
      have HB17 := Lib.hid hb17
      have HW17 := Lib.hid hw17
      have hsz17 : w17.heap.size = w16.heap.size + 1 := by rw [hw17]; simp
      clear hw17 hb17 hblk hwalk
      go_wp2_with fail
      rw [← HW17.out]
      refine HSKW.out.mono ?_
      rintro e w18 ⟨rfl, hwa18, hk18⟩
      have hb18 : Below w16.heap.size w16 w18 := HB17.out.trans (hk18.toBelow (by omega) (fun i (e : i = w16.heap.size) => by omega))
      obtain ⟨p, hp⟩ : ∃ p, p = wSkip la d 0 := ⟨_, rfl⟩
      rw [← hp] at hwa18
      have hpn : p ≤ nA := by rw [hp, ← HLA.out]; exact wSkip_le d (Nat.zero_le _)
      obtain ⟨A18, c18, -, hbk18⟩ := hwa18.sees
      have HBK := Lib.hid hbk18
      have HB18 := Lib.hid hb18
      have HPP := Lib.hid hp
      have HR1t := Lib.hid (HR1s.out.below hb18)
      have HR2t := Lib.hid (HR2s.out.below hb18)
      have HAND := Lib.hid (r11And_any w18 O1 O2 nA nB oc1 oc2 la lb HR1t.out HR2t.out (by omega))
      clear hwa18 hk18 hb18 hbk18 hp HSKW
      go_wp2_with fail
      refine HAND.out.mono ?_
      rintro e w19 ⟨v19, rfl, ho19, hb19⟩
      have HB19 := Lib.hid (below_then HB18.out hb19 HB18.out.size)
      have hal : (andI la lb).length ≤ maxLen := by
        have h1 : (andI la lb).length ≤ la.length := List.length_filter_le _ _
        have h2 := HLA.out
        unfold maxLen
        omega
      obtain ⟨V19, c19, rfl, -⟩ := own_cap ho19
      have HI19 := Lib.hid (IntsIn.own ho19 hal (fun x hx => HR1t.out.2.2.1 x (List.mem_filter.1 hx).1))
      have HBK19 := Lib.hid (HBK.out.below hb19 HBK.out.lt)
      have HSM := Lib.hid (r3Same_any w19 A13 V19 _ _ c13 c19 _ _ (HM16.out.1.below HB19.out) HI19.out)
      clear ho19 hb19 hal HAND
      go_wp2_with fail
      refine HSM.out.mono ?_
      rintro e w20 ⟨rfl, q20, hq20⟩
      have hse : decide (andL [la, lb] = andI la lb) = true := decide_eq_true rfl
      rw [hse]
      have HB20 : Hid (Below w16.heap.size w16 w20) := Lib.hid (by rw [hq20]; exact below_drewN HB19.out q20)
      have HBK20 : Hid (Blk w20 w16.heap.size 34 #[.slice A18 la.length c18, .int .i64 p]) := Lib.hid (by rw [hq20]; exact HBK19.out.drewN q20)
      have hcell := HBK20.out.cell 1
      simp only [List.getElem?_toArray, List.getElem?_cons_zero, List.getElem?_cons_succ] at hcell
      have hsl := fun w => i64s_from w O1 nA oc1 p hpn
      obtain ⟨L2, hL2⟩ : ∃ z, z = la.dropWhile (fun x => decide (x < d)) := ⟨_, rfl⟩
      have hL2e : L2 = la.drop p := by
        have h1 := drop_skip la d 0
        rw [List.drop_zero, ← HPP.out] at h1
        rw [hL2]; exact h1
      have hcut := ints_cut (HR1s.out.below HB20.out) hcoc hpn
      rw [← hL2e] at hcut
      have hlen2 : L2.length = nA - p := by rw [hL2e, List.length_drop, HLA.out]
      have HN20 := Lib.hid (HN16.out.1.below HB20.out)
      rw [← hL2] at HN20
      have HSM2 := Lib.hid (r3Same_any w20 A16 (cutAddr O1 p oc1) L2.length (nA - p) c16 (oc1 - p) L2 L2 HN20.out hcut)
      rw [decide_eq_true (rfl : L2 = L2)] at HSM2
      have HL2 := Lib.hid hL2
      clear hq20 hse hL2 hL2e hcut hlen2 HSM
      go_wp2_with fail
      rw [← HL2.out]
      refine HSM2.out.mono ?_
      rintro e w21 ⟨rfl, q21, hq21⟩
      have HB21 : Hid (Below w16.heap.size w16 w21) := Lib.hid (by rw [hq21]; exact below_drewN HB20.out q21)
      have HP21 := Lib.hid (HP16.out.later hS HB21.out)
      have HON := Lib.hid (Pool.ofNone hS hO HP21.out)
      clear hq21 HSM2
      go_wp2_with fail
      refine HON.out.mono ?_
      rintro e w22 ⟨y, rfl, hy, hp22, -⟩
      have HGN := Lib.hid (Pool.gather hS (L := []) (x := y) hp22 (by rw [hy]; simp))
      rw [hy] at HGN
      clear hy hp22 HON
      go_wp2_with fail
      refine HGN.out.mono ?_
      rintro e w23 ⟨A23, c23, G23, rfl, -, hp23, -, -, -, -⟩
      have HE : Hid (Below W.heap.size W w23) := Lib.hid (HB5W.out.trans (hp23.below.mono HB5W.out.size))
      clear hp23 HGN
      go_wp2
      go_ret
      exact ⟨rfl, HE.out⟩
end Go.Proofs.Ytkligdaademakaa
