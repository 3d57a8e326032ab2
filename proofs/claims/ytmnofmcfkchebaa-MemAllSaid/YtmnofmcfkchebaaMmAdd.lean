/- The document's Add. -/
import Derived.Test.YtmnofmcfkchebaaMmTwo
import Derived.Deep.RegionHeld3
import Derived.Deep.QuietTactic
import Derived.BigQuiet
import Derived.Lib.SmallJoins
namespace Go.Proofs.Ytmnofmcfkchebaa
open Go.RowKit Go.Maps Go.WideMaps
set_option linter.unusedSimpArgs false

theorem mAdd_no {L : List MDoc} {x : MDoc} (h : mErr L x ≠ 0) : mAdd L x = L := by unfold mAdd; rw [if_neg h]
theorem mAdd_yes {L : List MDoc} {x : MDoc} (h : mErr L x = 0) : mAdd L x = L ++ [x] := by unfold mAdd; rw [if_pos h]
theorem add_bad {w w' : World} {G : Nat → Prop} {b : Nat} {L : List MDoc} {x : MDoc} {E : Int} (h : R12At w G b L) (hE : mErr L x = E) (h0 : E ≠ 0) (hb : Below w.heap.size w w') : R12AddOut w G b L x (.returned (.int .i64 E)) w' :=
  ⟨by rw [hE], G, by rw [mAdd_no (by rw [hE]; exact h0)]; exact h.below hb, Kept.below hb, fun i hi => .inl hi⟩
theorem oneInfo : (Try.prog.info? 56).map (fun i => (i.zero, i.size, i.bytes)) = some (some (.agg #[.int .i64 0, .slice none 0 0, .slice none 0 0]), 3, 56) := by kernel_rfl

set_option maxHeartbeats 16000000 in
set_option maxRecDepth 100000 in
theorem r12Add_any {w : World} {G : Nat → Prop} {b : Nat} {L : List MDoc} (h : R12At w G b L) (hW : MWF L) (x : MDoc) (A C : Option Addr) (n m c cc : Nat) (hT : IntsIn w A n x.T) (hS : IntsIn w C m x.S) (hd : fits64 x.doc) :
    Calls Try.prog 11 #[.pointer (some ⟨b, 0, none⟩), .int .i64 x.doc, .slice A n c, .slice C m cc] w (R12AddOut w G b L x) := by
  obtain ⟨i0, hii, hz0, hz1, hz2⟩ := info_parts intInfoI
  obtain ⟨i1, hi1, hy0, hy1, hy2⟩ := info_parts oneInfo
  obtain ⟨Al, cl, hblk, hsee⟩ := h.see (by have := hW.few; omega)
  have HB := Lib.hid hblk
  have HS := Lib.hid hsee
  have HR := Lib.hid h
  have hfew := hW.few
  have hbl := hblk.lt
  obtain ⟨N, hN⟩ : ∃ N, N = L.length := ⟨_, rfl⟩
  rw [← hN] at HB HS hfew
  have HN := Lib.hid hN
  have HTI := Lib.hid hT
  have HSI := Lib.hid hS
  have HTL := Lib.hid hT.len
  have HSL := Lib.hid hS.len
  have hn63 := hT.1
  have hm63 := hS.1
  unfold maxLen at hn63 hm63
  obtain ⟨D, hD⟩ : ∃ D, D = x.doc := ⟨_, rfl⟩
  rw [← hD] at hd ⊢
  have HD := Lib.hid hD
  have c0 := hblk.cell 0
  simp only [List.getElem?_toArray, List.getElem?_cons_zero] at c0
  rw [← hN] at c0
  have c0q : ∀ q, (w.drewN q).cell? ⟨b, 0, none⟩ = some (.slice Al N cl) := fun q => c0
  clear h hW hblk hsee hN hT hS hD
  go_enter Try.func11, Try.ntmps11
  by_cases hbig : 4096 ≤ N
  · have d1 : decide ((4096 : Int) ≤ (N : Int)) = true := decide_eq_true (by omega)
    have HE : Hid (mErr L x = 2) := Lib.hid (by unfold mErr; rw [if_pos (.inl (by rw [← HN.out]; exact hbig))])
    go_wp2
    go_ret
    exact add_bad HR.out HE.out (by decide) (Below.refl _ _)
  have d1 : decide ((4096 : Int) ≤ (N : Int)) = false := decide_eq_false (by omega)
  by_cases hbn : 4096 < n
  · have d2 : decide ((4096 : Int) < (n : Int)) = true := decide_eq_true (by omega)
    have HE : Hid (mErr L x = 2) := Lib.hid (by unfold mErr; rw [if_pos (.inr (by rw [HTL.out]; exact hbn))])
    go_wp2
    go_ret
    exact add_bad HR.out HE.out (by decide) (Below.refl _ _)
  have d2 : decide ((4096 : Int) < (n : Int)) = false := decide_eq_false (by omega)
  obtain ⟨tb, htb⟩ : ∃ tb : Bool, tb = decide (D < 0 ∨ 4294967296 < D ∨ (0 < N ∧ D ≤ (mD L (N - 1)).doc) ∨ n ≠ m) := ⟨_, rfl⟩
  have HTB := Lib.hid htb
  clear htb
  go_upto_region 3 with fail
  clear c0 d1 d2
  go_cut [58] (fun v wx => v = .bool tb ∧ ∃ q, wx = w.drewN q)
  case first =>
    by_cases h1 : D < 0
    · have e1 : decide (D < 0) = true := decide_eq_true h1
      obtain rfl : tb = true := by rw [HTB.out]; exact decide_eq_true (.inl h1)
      go_wp2
      go_quiet (fail)
      go_wp2_with fail
      go_meet
      case rel => exact ⟨rfl, _, rfl⟩
    have e1 : decide (D < 0) = false := decide_eq_false h1
    by_cases h2 : 4294967296 < D
    · have e2 : decide (4294967296 < D) = true := decide_eq_true h2
      obtain rfl : tb = true := by rw [HTB.out]; exact decide_eq_true (.inr (.inl h2))
      go_wp2
      go_quiet (fail)
      go_wp2_with fail
      go_meet
      case rel => exact ⟨rfl, _, rfl⟩
    have e2 : decide (4294967296 < D) = false := decide_eq_false h2
    by_cases h3 : 0 < N
    · have e3 : decide ((0 : Int) < (N : Int)) = true := decide_eq_true (by omega)
      have p3 : (0 : Int) < (N : Int) := by omega
      obtain ⟨N1, hN1⟩ : ∃ N1, N = N1 + 1 := ⟨N - 1, by omega⟩
      have hwn : IntKind.i64.wrap ((N : Int) - 1) = (N1 : Int) := by rw [show (N : Int) - 1 = (N1 : Int) by omega]; exact IntWalk.i64_in _ (by omega)
      have q0 : (0 : Int) ≤ (N1 : Int) := by omega
      have q1 : (N1 : Int) < (N : Int) := by omega
      obtain ⟨pa, y, B, cB, C', cC, rfl, hy, -, a0, -, -, -, -, -, -⟩ := HS.out.at N1 (by omega)
      have hyd : (mD L (N - 1)).doc = y.doc := by rw [show N - 1 = N1 by omega, mD_at hy]
      rw [hyd] at HTB
      obtain ⟨yd, hydd⟩ : ∃ yd, yd = y.doc := ⟨_, rfl⟩
      rw [← hydd] at a0 HTB
      have a0q : ∀ q, (w.drewN q).cell? (pa.add (N1 * 3)) = some (.int .i64 yd) := fun q => a0
      clear hy hyd hydd a0 hN1
      by_cases h4 : D ≤ yd
      · have e4 : decide (D ≤ yd) = true := decide_eq_true h4
        obtain rfl : tb = true := by rw [HTB.out]; exact decide_eq_true (.inr (.inr (.inl ⟨h3, h4⟩)))
        go_wp2
        go_quiet (fail)
        go_wp2_with fail
        go_meet
        case rel => exact ⟨rfl, _, rfl⟩
      have e4 : decide (D ≤ yd) = false := decide_eq_false h4
      by_cases h5 : n = m
      · have e5 : ((n : Int) != (m : Int)) = false := by rw [h5]; simp
        obtain rfl : tb = false := by rw [HTB.out]; exact decide_eq_false (by omega)
        clear h5
        go_wp2
        go_quiet (fail)
        go_wp2_with fail
        go_meet
        case rel => exact ⟨rfl, _, rfl⟩
      · have e5 : ((n : Int) != (m : Int)) = true := by simp; omega
        obtain rfl : tb = true := by rw [HTB.out]; exact decide_eq_true (by omega)
        clear h5
        go_wp2
        go_quiet (fail)
        go_wp2_with fail
        go_meet
        case rel => exact ⟨rfl, _, rfl⟩
    · have e3 : decide ((0 : Int) < (N : Int)) = false := decide_eq_false (by omega)
      by_cases h5 : n = m
      · have e5 : ((n : Int) != (m : Int)) = false := by rw [h5]; simp
        obtain rfl : tb = false := by rw [HTB.out]; exact decide_eq_false (by omega)
        clear h5
        go_wp2
        go_quiet (fail)
        go_wp2_with fail
        go_meet
        case rel => exact ⟨rfl, _, rfl⟩
      · have e5 : ((n : Int) != (m : Int)) = true := by simp; omega
        obtain rfl : tb = true := by rw [HTB.out]; exact decide_eq_true (by omega)
        clear h5
        go_wp2
        go_quiet (fail)
        go_wp2_with fail
        go_meet
        case rel => exact ⟨rfl, _, rfl⟩
  case rest =>
  obtain ⟨rfl, q0, hwx⟩ := hcut
  rw [hwx]
  clear hwx
  cases tb with
  | true =>
    have HE : Hid (mErr L x = 1) := Lib.hid (by
      have h1 := of_decide_eq_true HTB.out.symm
      unfold mErr
      rw [if_neg (by rw [← HN.out, HTL.out]; omega), if_pos (by rw [← HN.out, HTL.out, HSL.out, ← HD.out]; exact h1)])
    go_wp2
    go_ret
    exact add_bad HR.out HE.out (by decide) (below_drewN (Below.refl _ w) q0)
  | false =>
    have hno := of_decide_eq_false HTB.out.symm
    have hnm : n = m := by omega
    subst hnm
    have HNO := Lib.hid hno
    clear hno
    go_wp2
    go_loopw [9] (fun iv wr => ∃ i q : Nat, i ≤ n ∧ iv = .int .i64 i ∧ wr = w.drewN q ∧ badTo x i = false) (fun iv _ => n - (intOf iv).toNat)
    case atStart => exact ⟨0, q0, by omega, rfl, rfl, rfl⟩
    case round =>
      obtain ⟨i, q, hi, rfl, hwr, hbt⟩ := hrel
      have HBT := Lib.hid hbt
      have HWR := Lib.hid hwr
      clear hbt hwr
      rcases Nat.lt_or_ge i n with hlt | hge
      · have hlt' : (i : Int) < (n : Int) := by omega
        have p0 : (0 : Int) ≤ (i : Int) := by omega
        have hw5 : IntKind.i64.wrap ((i : Int) + 1) = (i : Int) + 1 := IntWalk.i64_in _ (by omega)
        obtain ⟨pt, y, rfl, hy, d0, -, -⟩ := HTI.out.at i hlt
        obtain ⟨pc, z, rfl, hz, e0, -, -⟩ := HSI.out.at i hlt
        have HY := Lib.hid (show x.T.getD i 0 = y from by rw [List.getD_eq_getElem?_getD, hy]; rfl)
        have HZ := Lib.hid (show x.S.getD i 0 = z from by rw [List.getD_eq_getElem?_getD, hz]; rfl)
        have d0q : ∀ k, (wr.drewN k).cell? (pt.add i) = some (.int .i64 y) := fun k => by rw [HWR.out]; exact d0
        have e0q : ∀ k, (wr.drewN k).cell? (pc.add i) = some (.int .i64 z) := fun k => by rw [HWR.out]; exact e0
        obtain ⟨ub, hub⟩ : ∃ ub : Bool, ub = badAt x i := ⟨_, rfl⟩
        have HUB := Lib.hid hub
        have HNX : Hid (badTo x (i + 1) = ub) := Lib.hid (by rw [badTo, HBT.out, HUB.out]; rfl)
        clear hy hz d0 e0 hub
        obtain ⟨wo, hwo⟩ : ∃ z, z = wr := ⟨_, rfl⟩
        subst hwo
        go_upto_region 8 with fail
        go_cut [92] from 59 to 92 (fun v wx => v = .bool ub ∧ ∃ k, wx = wo.drewN k)
        case first =>
          by_cases h1 : y < 0
          · have f1 : decide (y < 0) = true := decide_eq_true h1
            obtain rfl : ub = true := by rw [HUB.out]; unfold badAt; rw [HY.out, f1]; rfl
            go_wp2
            go_quiet (fail)
            go_wp2_with fail
            go_meet
            case rel => exact ⟨rfl, _, rfl⟩
          have f1 : decide (y < 0) = false := decide_eq_false h1
          by_cases h2 : z < 0
          · have f2 : decide (z < 0) = true := decide_eq_true h2
            obtain rfl : ub = true := by rw [HUB.out]; unfold badAt; rw [HZ.out, f2]; simp
            go_wp2
            go_quiet (fail)
            go_wp2_with fail
            go_meet
            case rel => exact ⟨rfl, _, rfl⟩
          have f2 : decide (z < 0) = false := decide_eq_false h2
          by_cases h3 : 0 < i
          · have f3 : decide ((0 : Int) < (i : Int)) = true := decide_eq_true (by omega)
            have g3 : (0 : Int) < (i : Int) := by omega
            obtain ⟨i1', hi1'⟩ : ∃ i1', i = i1' + 1 := ⟨i - 1, by omega⟩
            have hwm : IntKind.i64.wrap ((i : Int) - 1) = (i1' : Int) := by rw [show (i : Int) - 1 = (i1' : Int) by omega]; exact IntWalk.i64_in _ (by omega)
            have g0 : (0 : Int) ≤ (i1' : Int) := by omega
            have g1 : (i1' : Int) < (n : Int) := by omega
            obtain ⟨pc2, z2, epc, hz2', e2, -, -⟩ := HSI.out.at i1' (by omega)
            obtain rfl := Option.some.inj epc
            have HZ2 := Lib.hid (show x.S.getD (i - 1) 0 = z2 from by rw [show i - 1 = i1' by omega, List.getD_eq_getElem?_getD, hz2']; rfl)
            have e2q : ∀ k, (wo.drewN k).cell? (pc.add i1') = some (.int .i64 z2) := fun k => by rw [HWR.out]; exact e2
            clear hz2' e2 epc hi1'
            by_cases h4 : z ≤ z2
            · have f4 : decide (z ≤ z2) = true := decide_eq_true h4
              obtain rfl : ub = true := by rw [HUB.out]; unfold badAt; rw [HZ.out, HZ2.out, f4, decide_eq_true h3]; simp
              go_wp2
              go_quiet (fail)
              go_wp2_with fail
              go_meet
              case rel => exact ⟨rfl, _, rfl⟩
            · have f4 : decide (z ≤ z2) = false := decide_eq_false h4
              obtain rfl : ub = false := by rw [HUB.out]; unfold badAt; rw [HY.out, HZ.out, HZ2.out, f1, f2, f4]; simp
              go_wp2
              go_quiet (fail)
              go_wp2_with fail
              go_meet
              case rel => exact ⟨rfl, _, rfl⟩
          · have f3 : decide ((0 : Int) < (i : Int)) = false := decide_eq_false (by omega)
            obtain rfl : ub = false := by rw [HUB.out]; unfold badAt; rw [HY.out, HZ.out, f1, f2, decide_eq_false h3]; rfl
            go_wp2
            go_quiet (fail)
            go_wp2_with fail
            go_meet
            case rel => exact ⟨rfl, _, rfl⟩
        case rest =>
        obtain ⟨rfl, k, hwx⟩ := hcut
        rw [hwx]
        clear hwx d0q e0q
        have HW2 : Hid (wo.drewN k = w.drewN (q + k)) := Lib.hid (by rw [HWR.out, World.drewN_drewN])
        cases ub with
        | true =>
          have HE : Hid (mErr L x = 1) := Lib.hid (by
            have h1 := HNO.out
            have h2 : badTo x n = true := by
              cases h3 : badTo x n with
              | true => rfl
              | false =>
                have h4 := badTo_iff.1 h3 i hlt
                rw [← HUB.out] at h4
                cases h4
            unfold mErr
            rw [if_neg (by rw [← HN.out, HTL.out]; omega), if_neg (by rw [← HN.out, HTL.out, HSL.out, ← HD.out]; exact h1), HTL.out, if_pos h2])
          go_wp2
          go_ret
          rw [HW2.out]
          exact add_bad HR.out HE.out (by decide) (below_drewN (Below.refl _ w) _)
        | false =>
          go_wp2
          go_roundw
          case rel => exact ⟨i + 1, q + k, by omega, by go_num, HW2.out, HNX.out⟩
          case measure => simp [intOf]; omega
      · obtain rfl : i = n := by omega
        have hlz : ¬ ((i : Int) < (i : Int)) := by omega
        have HE : Hid (mErr L x = 0) := Lib.hid (by
          have h1 := HNO.out
          unfold mErr
          rw [if_neg (by rw [← HN.out, HTL.out]; omega), if_neg (by rw [← HN.out, HTL.out, HSL.out, ← HD.out]; exact h1), HTL.out, HBT.out]
          rfl)
        have hTf := HTI.out.2.2.1
        have hSf := HSI.out.2.2.1
        have HTF := Lib.hid hTf
        have HSF := Lib.hid hSf
        have HTS := Lib.hid HTI.out.2.1
        have HSS := Lib.hid HSI.out.2.1
        clear hTf hSf
        obtain ⟨hGb, hGl, v, R, hBv, hRl, hown, hgo, hRx⟩ := HR.out
        rw [← HN.out] at hown
        obtain ⟨A1, c1, rfl⟩ := own_slice hown
        have HGB := Lib.hid hGb
        have HGL := Lib.hid hGl
        have HBV := Lib.hid hBv
        have HRL := Lib.hid hRl
        have HOW := Lib.hid hown
        have HGO := Lib.hid hgo
        have HRX := Lib.hid hRx
        clear hGb hGl hBv hRl hown hgo hRx
        go_upto_region 10 with fail
        refine wp_region_held_drew (S := fun _ => True) (by kernel_rfl) trivial (fun hHeld => ?_)
        obtain ⟨u0, hu0⟩ : ∃ z, z = wr.drew := ⟨_, rfl⟩
        rw [← hu0]
        have HM0 : Hid (Mid w u0 (.slice none 0 0) 0 [] (.slice none 0 0) 0 []) := Lib.hid (Mid.start (by rw [hu0, HWR.out]; exact (below_drewN (Below.refl _ w) q).drew))
        clear hu0
        refine wpAnyH_take (i := 0) (oi := ?oit10) (v := ?vt10) ?hit10 (by kernel_rfl) (by kernel_rfl) (by kernel_rfl) ?hQt10 (Or.inl ⟨?hwt10, ?hyt10⟩) (by assumption) ?restt10
        case hit10 => (first | (simp only [List.getElem?_toArray, List.getElem?_cons_zero, List.getElem?_cons_succ]; rfl) | rfl)
        case hQt10 => exact fun _ _ _ h => h
        case hwt10 => rfl
        case hyt10 => ((intro w hSw; go_simp); first | done | with_reducible rfl)
        try simp only [Act.put, List.setIfInBounds_toArray, List.set_cons_zero, List.set_cons_succ]
        refine wpAnyH_take (i := 1) (oi := ?oit21) (v := ?vt21) ?hit21 (by kernel_rfl) (by kernel_rfl) (by kernel_rfl) ?hQt21 (Or.inl ⟨?hwt21, ?hyt21⟩) (by assumption) ?restt21
        case hit21 => (first | (simp only [List.getElem?_toArray, List.getElem?_cons_zero, List.getElem?_cons_succ]; rfl) | rfl)
        case hQt21 => exact fun _ _ _ h => h
        case hwt21 => rfl
        case hyt21 => ((intro w hSw; go_simp); first | done | with_reducible rfl)
        try simp only [Act.put, List.setIfInBounds_toArray, List.set_cons_zero, List.set_cons_succ]
        refine wpAnyH_take (i := 5) (oi := ?oit35) (v := ?vt35) ?hit35 (by kernel_rfl) (by kernel_rfl) (by kernel_rfl) ?hQt35 (Or.inl ⟨?hwt35, ?hyt35⟩) (by assumption) ?restt35
        case hit35 => (first | (simp only [List.getElem?_toArray, List.getElem?_cons_zero, List.getElem?_cons_succ]; rfl) | rfl)
        case hQt35 => exact fun _ _ _ h => h
        case hwt35 => rfl
        case hyt35 => ((intro w hSw; go_simp); first | done | with_reducible rfl)
        try simp only [Act.put, List.setIfInBounds_toArray, List.set_cons_zero, List.set_cons_succ]
        refine wpAnyH_take (i := 7) (oi := ?oit47) (v := ?vt47) ?hit47 (by kernel_rfl) (by kernel_rfl) (by kernel_rfl) ?hQt47 (Or.inl ⟨?hwt47, ?hyt47⟩) (by assumption) ?restt47
        case hit47 => (first | (simp only [List.getElem?_toArray, List.getElem?_cons_zero, List.getElem?_cons_succ]; rfl) | rfl)
        case hQt47 => exact fun _ _ _ h => h
        case hwt47 => rfl
        case hyt47 => ((intro w hSw; go_simp); first | done | with_reducible rfl)
        try simp only [Act.put, List.setIfInBounds_toArray, List.set_cons_zero, List.set_cons_succ]
        refine wpAnyH_take (i := 10) (oi := ?oit510) (v := ?vt510) ?hit510 (by kernel_rfl) (by kernel_rfl) (by kernel_rfl) ?hQt510 (Or.inl ⟨?hwt510, ?hyt510⟩) (by assumption) ?restt510
        case hit510 => (first | (simp only [List.getElem?_toArray, List.getElem?_cons_zero, List.getElem?_cons_succ]; rfl) | rfl)
        case hQt510 => exact fun _ _ _ h => h
        case hwt510 => rfl
        case hyt510 => ((intro w hSw; go_simp); first | done | with_reducible rfl)
        try simp only [Act.put, List.setIfInBounds_toArray, List.set_cons_zero, List.set_cons_succ]
        refine wpAnyH_take (i := 2) (oi := ?oit62) (v := ?vt62) ?hit62 (by kernel_rfl) (by kernel_rfl) (by kernel_rfl) ?hQt62 (Or.inl ⟨?hwt62, ?hyt62⟩) (by assumption) ?restt62
        case hit62 => (first | (simp only [List.getElem?_toArray, List.getElem?_cons_zero, List.getElem?_cons_succ]; rfl) | rfl)
        case hQt62 => exact fun _ _ _ h => h
        case hwt62 => rfl
        case hyt62 => ((intro w hSw; go_simp); first | done | with_reducible rfl)
        try simp only [Act.put, List.setIfInBounds_toArray, List.set_cons_zero, List.set_cons_succ]
        refine wpAnyH_take (i := 3) (oi := ?oit73) (v := ?vt73) ?hit73 (by kernel_rfl) (by kernel_rfl) (by kernel_rfl) ?hQt73 (Or.inl ⟨?hwt73, ?hyt73⟩) (by assumption) ?restt73
        case hit73 => (first | (simp only [List.getElem?_toArray, List.getElem?_cons_zero, List.getElem?_cons_succ]; rfl) | rfl)
        case hQt73 => exact fun _ _ _ h => h
        case hwt73 => rfl
        case hyt73 => ((intro w hSw; go_simp); first | done | with_reducible rfl)
        try simp only [Act.put, List.setIfInBounds_toArray, List.set_cons_zero, List.set_cons_succ]
        refine wpAnyH_ready (rs := [4, 6, 9]) (by kernel_rfl) (by simp) ?_
        refine AllReadyH.cons (o := ?ot8) ?ht8 ?st8 (AllReadyH.cons (o := ?ot9) ?ht9 ?st9 (AllReadyH.cons (o := ?ot10) ?ht10 ?st10 AllReadyH.nil))
        case ht8 => (simp only [List.getElem?_toArray, List.getElem?_cons_zero, List.getElem?_cons_succ]; rfl)
        case ht9 => (simp only [List.getElem?_toArray, List.getElem?_cons_zero, List.getElem?_cons_succ]; rfl)
        case ht10 => (simp only [List.getElem?_toArray, List.getElem?_cons_zero, List.getElem?_cons_succ]; rfl)
        case st8 =>
          intro K hK
          have yq1 := (HBV.out.below HM0.out.hb hbl).cell 0
          simp only [List.getElem?_toArray, List.getElem?_cons_zero, List.getElem?_cons_succ] at yq1
          go_simp
          clear yq1
          refine hK.out _ _ trivial (fun ht11 => ?_)
          clear hK K
          try simp only [Act.put, List.setIfInBounds_toArray, List.set_cons_zero, List.set_cons_succ]
          refine wpAnyH_ready (rs := [6, 9]) (by kernel_rfl) (by simp) ?_
          refine AllReadyH.cons (o := ?ot12) ?ht12 ?st12 (AllReadyH.cons (o := ?ot13) ?ht13 ?st13 AllReadyH.nil)
          case ht12 => (simp only [List.getElem?_toArray, List.getElem?_cons_zero, List.getElem?_cons_succ]; rfl)
          case ht13 => (simp only [List.getElem?_toArray, List.getElem?_cons_zero, List.getElem?_cons_succ]; rfl)
          case st12 =>
            intro K hK
            go_simp
            obtain ⟨uq2, huq3⟩ : ∃ zz, zz = u0.alloc (.cells #[] 3) := ⟨_, rfl⟩
            have Mq4 := Lib.hid (HM0.out.newT)
            rw [← huq3] at Mq4 ⊢
            clear huq3
            refine hK.out _ _ trivial (fun ht14 => ?_)
            clear hK K
            try simp only [Act.put, List.setIfInBounds_toArray, List.set_cons_zero, List.set_cons_succ]
            refine wpAnyH_ready (rs := [8, 9]) (by kernel_rfl) (by simp) ?_
            refine AllReadyH.cons (o := ?ot15) ?ht15 ?st15 (AllReadyH.cons (o := ?ot16) ?ht16 ?st16 AllReadyH.nil)
            case ht15 => (simp only [List.getElem?_toArray, List.getElem?_cons_zero, List.getElem?_cons_succ]; rfl)
            case ht16 => (simp only [List.getElem?_toArray, List.getElem?_cons_zero, List.getElem?_cons_succ]; rfl)
            case st15 =>
              intro K hK
              refine step_append_src _ rfl (.tmp 99) (.tmp 100) 33 rfl w.heap.size 3 i0 (.int .i64 0) 8 Try.underlying33 hii hz0 hz1 hz2 rfl _ 0 [] rfl Mq4.out.t A i c (x.T.map i64V) rfl (src_below HTS.out Mq4.out.hb) (i64s_one _) (by unfold maxLen; omega) (by omega) Mq4.out.hb.size ?_
              intro vq6 uq5 hwq7 hgq8 hlq9
              have Mq12 := Lib.hid (Mq4.out.growT hwq7 hgq8 hlq9)
              obtain ⟨Aq10, cq11, rfl⟩ := own_slice hwq7
              rw [Nat.zero_add, List.nil_append] at Mq12
              rw [Nat.zero_add]
              clear hwq7 hgq8 hlq9
              refine hK.out _ _ trivial (fun ht17 => ?_)
              clear hK K
              try simp only [Act.put, List.setIfInBounds_toArray, List.set_cons_zero, List.set_cons_succ]
              refine wpAnyH_ready (rs := [9]) (by kernel_rfl) (by simp) ?_
              refine AllReadyH.cons (o := ?ot18) ?ht18 ?st18 AllReadyH.nil
              case ht18 => (simp only [List.getElem?_toArray, List.getElem?_cons_zero, List.getElem?_cons_succ]; rfl)
              case st18 =>
                intro K hK
                go_simp
                obtain ⟨uq13, huq14⟩ : ∃ zz, zz = uq5.alloc (.cells #[] 3) := ⟨_, rfl⟩
                have Mq15 := Lib.hid (Mq12.out.newS)
                rw [← huq14] at Mq15 ⊢
                clear huq14
                refine hK.out _ _ trivial (fun ht19 => ?_)
                clear hK K
                try simp only [Act.put, List.setIfInBounds_toArray, List.set_cons_zero, List.set_cons_succ]
                refine wpAnyH_ready (rs := [11]) (by kernel_rfl) (by simp) ?_
                refine AllReadyH.cons (o := ?ot20) ?ht20 ?st20 AllReadyH.nil
                case ht20 => (simp only [List.getElem?_toArray, List.getElem?_cons_zero, List.getElem?_cons_succ]; rfl)
                case st20 =>
                  intro K hK
                  refine step_append_src _ rfl (.tmp 102) (.tmp 103) 33 rfl w.heap.size 3 i0 (.int .i64 0) 8 Try.underlying33 hii hz0 hz1 hz2 rfl _ 0 [] rfl Mq15.out.s C i cc (x.S.map i64V) rfl (src_below HSS.out Mq15.out.hb) (i64s_one _) (by unfold maxLen; omega) (by omega) Mq15.out.hb.size ?_
                  intro vq17 uq16 hwq18 hgq19 hlq20
                  have Mq23 := Lib.hid (Mq15.out.growS hwq18 hgq19 hlq20)
                  obtain ⟨Aq21, cq22, rfl⟩ := own_slice hwq18
                  rw [Nat.zero_add, List.nil_append] at Mq23
                  rw [Nat.zero_add]
                  clear hwq18 hgq19 hlq20
                  refine hK.out _ _ trivial (fun ht21 => ?_)
                  clear hK K
                  try simp only [Act.put, List.setIfInBounds_toArray, List.set_cons_zero, List.set_cons_succ]
                  refine wpAnyH_take (i := 12) (oi := ?oit2212) (v := ?vt2212) ?hit2212 (by kernel_rfl) (by kernel_rfl) (by kernel_rfl) ?hQt2212 (Or.inl ⟨?hwt2212, ?hyt2212⟩) (by assumption) ?restt2212
                  case hit2212 => (first | (simp only [List.getElem?_toArray, List.getElem?_cons_zero, List.getElem?_cons_succ]; rfl) | rfl)
                  case hQt2212 => exact fun _ _ _ h => h
                  case hwt2212 => rfl
                  case hyt2212 => ((intro w hSw; go_simp); first | done | with_reducible rfl)
                  try simp only [Act.put, List.setIfInBounds_toArray, List.set_cons_zero, List.set_cons_succ]
                  refine wpAnyH_ready (rs := [13]) (by kernel_rfl) (by simp) ?_
                  refine AllReadyH.cons (o := ?ot23) ?ht23 ?st23 AllReadyH.nil
                  case ht23 => (simp only [List.getElem?_toArray, List.getElem?_cons_zero, List.getElem?_cons_succ]; rfl)
                  case st23 =>
                    intro K hK
                    go_simp
                    obtain ⟨uq24, huq25⟩ : ∃ zz, zz = uq16.alloc (.cells #[.int .i64 D, .slice Aq10 i cq11, .slice Aq21 i cq22] 56) := ⟨_, rfl⟩
                    have Mq26 := Lib.hid (Mq23.out.alloc (.cells #[.int .i64 D, .slice Aq10 i cq11, .slice Aq21 i cq22] 56))
                    have Bq27 : Hid (Blk uq24 uq16.heap.size 56 #[.int .i64 D, .slice Aq10 i cq11, .slice Aq21 i cq22]) := Lib.hid (by rw [huq25]; exact Blk.new _ _ _)
                    rw [← huq25] at Mq26 ⊢
                    clear huq25
                    refine hK.out _ _ trivial (fun ht24 => ?_)
                    clear hK K
                    try simp only [Act.put, List.setIfInBounds_toArray, List.set_cons_zero, List.set_cons_succ]
                    refine wpAnyH_ready (rs := [14]) (by kernel_rfl) (by simp) ?_
                    refine AllReadyH.cons (o := ?ot25) ?ht25 ?st25 AllReadyH.nil
                    case ht25 => (simp only [List.getElem?_toArray, List.getElem?_cons_zero, List.getElem?_cons_succ]; rfl)
                    case st25 =>
                      intro K hK
                      refine step_append_recK _ rfl (.tmp 97) (.tmp 106) 27 rfl 0 56 i1 _ 3 56 Try.underlying27 hi1 hy0 hy1 hy2 rfl (by decide) _ N _ rfl (ownsRow_block HOW.out fun g hg => Mq26.out.hb.block g (HOW.out.lt g hg).2) ⟨uq16.heap.size, 0, none⟩ 1 1 (oneCells (D, (.slice Aq10 i cq11), (.slice Aq21 i cq22))) rfl rfl (one_cells (p := (D, (.slice Aq10 i cq11), (.slice Aq21 i cq22))) Bq27.out) (one_one _ _ _ _ _ _ _) (by unfold maxLen; omega) (by omega) (Nat.zero_le _) ?_
                      intro vq29 uq28 hwq30 hgq31 hlq32
                      have Bq35 := Lib.hid ((HBV.out.below Mq26.out.hb hbl).grown hgq31 (fun e => (HGO.out b e.symm).2 rfl))
                      have Eq36 := Lib.hid (add_done (n := i) HE.out HN.out HGB.out HGL.out HBV.out HRL.out HGO.out HRX.out Mq26.out HTL.out HSL.out (by unfold maxLen; omega) (by rw [← HD.out]; exact hd) HTF.out HSF.out (by rw [← HD.out]; exact hwq30) hgq31 hlq32)
                      obtain ⟨Aq33, cq34, rfl⟩ := own_slice hwq30
                      clear hwq30 hgq31 hlq32
                      refine hK.out _ _ trivial (fun ht26 => ?_)
                      clear hK K
                      try simp only [Act.put, List.setIfInBounds_toArray, List.set_cons_zero, List.set_cons_succ]
                      refine wpAnyH_take (i := 15) (oi := ?oit2715) (v := ?vt2715) ?hit2715 (by kernel_rfl) (by kernel_rfl) (by kernel_rfl) ?hQt2715 (Or.inl ⟨?hwt2715, ?hyt2715⟩) (by assumption) ?restt2715
                      case hit2715 => (first | (simp only [List.getElem?_toArray, List.getElem?_cons_zero, List.getElem?_cons_succ]; rfl) | rfl)
                      case hQt2715 => exact fun _ _ _ h => h
                      case hwt2715 => rfl
                      case hyt2715 => ((intro w hSw; go_simp); first | done | with_reducible rfl)
                      try simp only [Act.put, List.setIfInBounds_toArray, List.set_cons_zero, List.set_cons_succ]
                      refine wpAnyH_take (i := 16) (oi := ?oit2816) (v := ?vt2816) ?hit2816 (by kernel_rfl) (by kernel_rfl) (by kernel_rfl) ?hQt2816 (Or.inl ⟨?hwt2816, ?hyt2816⟩) (by assumption) ?restt2816
                      case hit2816 => (first | (simp only [List.getElem?_toArray, List.getElem?_cons_zero, List.getElem?_cons_succ]; rfl) | rfl)
                      case hQt2816 => exact fun _ _ _ h => h
                      case hwt2816 => rfl
                      case hyt2816 => ((intro w hSw; go_simp); first | done | with_reducible rfl)
                      try simp only [Act.put, List.setIfInBounds_toArray, List.set_cons_zero, List.set_cons_succ]
                      refine wpAnyH_ready (rs := [17]) (by kernel_rfl) (by simp) ?_
                      refine AllReadyH.cons (o := ?ot29) ?ht29 ?st29 AllReadyH.nil
                      case ht29 => (simp only [List.getElem?_toArray, List.getElem?_cons_zero, List.getElem?_cons_succ]; rfl)
                      case st29 =>
                        intro K hK
                        have yq38 := Bq35.out.cell 0
                        have zq39 := Bq35.out.frozen 0
                        simp only [List.getElem?_toArray, List.getElem?_cons_zero, List.getElem?_cons_succ] at yq38
                        go_simp
                        clear yq38 zq39
                        refine hK.out _ _ trivial (fun ht30 => ?_)
                        clear hK K
                        try simp only [Act.put, List.setIfInBounds_toArray, List.set_cons_zero, List.set_cons_succ]
                        refine wpAnyH_done (by kernel_rfl) ?_ _
                        go_wp2
                        go_ret
                        exact Eq36.out
            case st16 =>
              intro K hK
              go_simp
              obtain ⟨uq40, huq41⟩ : ∃ zz, zz = uq2.alloc (.cells #[] 3) := ⟨_, rfl⟩
              have Mq42 := Lib.hid (Mq4.out.newS)
              rw [← huq41] at Mq42 ⊢
              clear huq41
              refine hK.out _ _ trivial (fun ht31 => ?_)
              clear hK K
              try simp only [Act.put, List.setIfInBounds_toArray, List.set_cons_zero, List.set_cons_succ]
              refine wpAnyH_ready (rs := [8]) (by kernel_rfl) (by simp) ?_
              refine AllReadyH.cons (o := ?ot32) ?ht32 ?st32 AllReadyH.nil
              case ht32 => (simp only [List.getElem?_toArray, List.getElem?_cons_zero, List.getElem?_cons_succ]; rfl)
              case st32 =>
                intro K hK
                refine step_append_src _ rfl (.tmp 99) (.tmp 100) 33 rfl w.heap.size 3 i0 (.int .i64 0) 8 Try.underlying33 hii hz0 hz1 hz2 rfl _ 0 [] rfl Mq42.out.t A i c (x.T.map i64V) rfl (src_below HTS.out Mq42.out.hb) (i64s_one _) (by unfold maxLen; omega) (by omega) Mq42.out.hb.size ?_
                intro vq44 uq43 hwq45 hgq46 hlq47
                have Mq50 := Lib.hid (Mq42.out.growT hwq45 hgq46 hlq47)
                obtain ⟨Aq48, cq49, rfl⟩ := own_slice hwq45
                rw [Nat.zero_add, List.nil_append] at Mq50
                rw [Nat.zero_add]
                clear hwq45 hgq46 hlq47
                refine hK.out _ _ trivial (fun ht33 => ?_)
                clear hK K
                try simp only [Act.put, List.setIfInBounds_toArray, List.set_cons_zero, List.set_cons_succ]
                refine wpAnyH_ready (rs := [11]) (by kernel_rfl) (by simp) ?_
                refine AllReadyH.cons (o := ?ot34) ?ht34 ?st34 AllReadyH.nil
                case ht34 => (simp only [List.getElem?_toArray, List.getElem?_cons_zero, List.getElem?_cons_succ]; rfl)
                case st34 =>
                  intro K hK
                  refine step_append_src _ rfl (.tmp 102) (.tmp 103) 33 rfl w.heap.size 3 i0 (.int .i64 0) 8 Try.underlying33 hii hz0 hz1 hz2 rfl _ 0 [] rfl Mq50.out.s C i cc (x.S.map i64V) rfl (src_below HSS.out Mq50.out.hb) (i64s_one _) (by unfold maxLen; omega) (by omega) Mq50.out.hb.size ?_
                  intro vq52 uq51 hwq53 hgq54 hlq55
                  have Mq58 := Lib.hid (Mq50.out.growS hwq53 hgq54 hlq55)
                  obtain ⟨Aq56, cq57, rfl⟩ := own_slice hwq53
                  rw [Nat.zero_add, List.nil_append] at Mq58
                  rw [Nat.zero_add]
                  clear hwq53 hgq54 hlq55
                  refine hK.out _ _ trivial (fun ht35 => ?_)
                  clear hK K
                  try simp only [Act.put, List.setIfInBounds_toArray, List.set_cons_zero, List.set_cons_succ]
                  refine wpAnyH_take (i := 12) (oi := ?oit3612) (v := ?vt3612) ?hit3612 (by kernel_rfl) (by kernel_rfl) (by kernel_rfl) ?hQt3612 (Or.inl ⟨?hwt3612, ?hyt3612⟩) (by assumption) ?restt3612
                  case hit3612 => (first | (simp only [List.getElem?_toArray, List.getElem?_cons_zero, List.getElem?_cons_succ]; rfl) | rfl)
                  case hQt3612 => exact fun _ _ _ h => h
                  case hwt3612 => rfl
                  case hyt3612 => ((intro w hSw; go_simp); first | done | with_reducible rfl)
                  try simp only [Act.put, List.setIfInBounds_toArray, List.set_cons_zero, List.set_cons_succ]
                  refine wpAnyH_ready (rs := [13]) (by kernel_rfl) (by simp) ?_
                  refine AllReadyH.cons (o := ?ot37) ?ht37 ?st37 AllReadyH.nil
                  case ht37 => (simp only [List.getElem?_toArray, List.getElem?_cons_zero, List.getElem?_cons_succ]; rfl)
                  case st37 =>
                    intro K hK
                    go_simp
                    obtain ⟨uq59, huq60⟩ : ∃ zz, zz = uq51.alloc (.cells #[.int .i64 D, .slice Aq48 i cq49, .slice Aq56 i cq57] 56) := ⟨_, rfl⟩
                    have Mq61 := Lib.hid (Mq58.out.alloc (.cells #[.int .i64 D, .slice Aq48 i cq49, .slice Aq56 i cq57] 56))
                    have Bq62 : Hid (Blk uq59 uq51.heap.size 56 #[.int .i64 D, .slice Aq48 i cq49, .slice Aq56 i cq57]) := Lib.hid (by rw [huq60]; exact Blk.new _ _ _)
                    rw [← huq60] at Mq61 ⊢
                    clear huq60
                    refine hK.out _ _ trivial (fun ht38 => ?_)
                    clear hK K
                    try simp only [Act.put, List.setIfInBounds_toArray, List.set_cons_zero, List.set_cons_succ]
                    refine wpAnyH_ready (rs := [14]) (by kernel_rfl) (by simp) ?_
                    refine AllReadyH.cons (o := ?ot39) ?ht39 ?st39 AllReadyH.nil
                    case ht39 => (simp only [List.getElem?_toArray, List.getElem?_cons_zero, List.getElem?_cons_succ]; rfl)
                    case st39 =>
                      intro K hK
                      refine step_append_recK _ rfl (.tmp 97) (.tmp 106) 27 rfl 0 56 i1 _ 3 56 Try.underlying27 hi1 hy0 hy1 hy2 rfl (by decide) _ N _ rfl (ownsRow_block HOW.out fun g hg => Mq61.out.hb.block g (HOW.out.lt g hg).2) ⟨uq51.heap.size, 0, none⟩ 1 1 (oneCells (D, (.slice Aq48 i cq49), (.slice Aq56 i cq57))) rfl rfl (one_cells (p := (D, (.slice Aq48 i cq49), (.slice Aq56 i cq57))) Bq62.out) (one_one _ _ _ _ _ _ _) (by unfold maxLen; omega) (by omega) (Nat.zero_le _) ?_
                      intro vq64 uq63 hwq65 hgq66 hlq67
                      have Bq70 := Lib.hid ((HBV.out.below Mq61.out.hb hbl).grown hgq66 (fun e => (HGO.out b e.symm).2 rfl))
                      have Eq71 := Lib.hid (add_done (n := i) HE.out HN.out HGB.out HGL.out HBV.out HRL.out HGO.out HRX.out Mq61.out HTL.out HSL.out (by unfold maxLen; omega) (by rw [← HD.out]; exact hd) HTF.out HSF.out (by rw [← HD.out]; exact hwq65) hgq66 hlq67)
                      obtain ⟨Aq68, cq69, rfl⟩ := own_slice hwq65
                      clear hwq65 hgq66 hlq67
                      refine hK.out _ _ trivial (fun ht40 => ?_)
                      clear hK K
                      try simp only [Act.put, List.setIfInBounds_toArray, List.set_cons_zero, List.set_cons_succ]
                      refine wpAnyH_take (i := 15) (oi := ?oit4115) (v := ?vt4115) ?hit4115 (by kernel_rfl) (by kernel_rfl) (by kernel_rfl) ?hQt4115 (Or.inl ⟨?hwt4115, ?hyt4115⟩) (by assumption) ?restt4115
                      case hit4115 => (first | (simp only [List.getElem?_toArray, List.getElem?_cons_zero, List.getElem?_cons_succ]; rfl) | rfl)
                      case hQt4115 => exact fun _ _ _ h => h
                      case hwt4115 => rfl
                      case hyt4115 => ((intro w hSw; go_simp); first | done | with_reducible rfl)
                      try simp only [Act.put, List.setIfInBounds_toArray, List.set_cons_zero, List.set_cons_succ]
                      refine wpAnyH_take (i := 16) (oi := ?oit4216) (v := ?vt4216) ?hit4216 (by kernel_rfl) (by kernel_rfl) (by kernel_rfl) ?hQt4216 (Or.inl ⟨?hwt4216, ?hyt4216⟩) (by assumption) ?restt4216
                      case hit4216 => (first | (simp only [List.getElem?_toArray, List.getElem?_cons_zero, List.getElem?_cons_succ]; rfl) | rfl)
                      case hQt4216 => exact fun _ _ _ h => h
                      case hwt4216 => rfl
                      case hyt4216 => ((intro w hSw; go_simp); first | done | with_reducible rfl)
                      try simp only [Act.put, List.setIfInBounds_toArray, List.set_cons_zero, List.set_cons_succ]
                      refine wpAnyH_ready (rs := [17]) (by kernel_rfl) (by simp) ?_
                      refine AllReadyH.cons (o := ?ot43) ?ht43 ?st43 AllReadyH.nil
                      case ht43 => (simp only [List.getElem?_toArray, List.getElem?_cons_zero, List.getElem?_cons_succ]; rfl)
                      case st43 =>
                        intro K hK
                        have yq73 := Bq70.out.cell 0
                        have zq74 := Bq70.out.frozen 0
                        simp only [List.getElem?_toArray, List.getElem?_cons_zero, List.getElem?_cons_succ] at yq73
                        go_simp
                        clear yq73 zq74
                        refine hK.out _ _ trivial (fun ht44 => ?_)
                        clear hK K
                        try simp only [Act.put, List.setIfInBounds_toArray, List.set_cons_zero, List.set_cons_succ]
                        refine wpAnyH_done (by kernel_rfl) ?_ _
                        go_wp2
                        go_ret
                        exact Eq71.out
          case st13 =>
            intro K hK
            go_simp
            obtain ⟨uq75, huq76⟩ : ∃ zz, zz = u0.alloc (.cells #[] 3) := ⟨_, rfl⟩
            have Mq77 := Lib.hid (HM0.out.newS)
            rw [← huq76] at Mq77 ⊢
            clear huq76
            refine hK.out _ _ trivial (fun ht45 => ?_)
            clear hK K
            try simp only [Act.put, List.setIfInBounds_toArray, List.set_cons_zero, List.set_cons_succ]
            refine wpAnyH_ready (rs := [6]) (by kernel_rfl) (by simp) ?_
            refine AllReadyH.cons (o := ?ot46) ?ht46 ?st46 AllReadyH.nil
            case ht46 => (simp only [List.getElem?_toArray, List.getElem?_cons_zero, List.getElem?_cons_succ]; rfl)
            case st46 =>
              intro K hK
              go_simp
              obtain ⟨uq78, huq79⟩ : ∃ zz, zz = uq75.alloc (.cells #[] 3) := ⟨_, rfl⟩
              have Mq80 := Lib.hid (Mq77.out.newT)
              rw [← huq79] at Mq80 ⊢
              clear huq79
              refine hK.out _ _ trivial (fun ht47 => ?_)
              clear hK K
              try simp only [Act.put, List.setIfInBounds_toArray, List.set_cons_zero, List.set_cons_succ]
              refine wpAnyH_ready (rs := [8]) (by kernel_rfl) (by simp) ?_
              refine AllReadyH.cons (o := ?ot48) ?ht48 ?st48 AllReadyH.nil
              case ht48 => (simp only [List.getElem?_toArray, List.getElem?_cons_zero, List.getElem?_cons_succ]; rfl)
              case st48 =>
                intro K hK
                refine step_append_src _ rfl (.tmp 99) (.tmp 100) 33 rfl w.heap.size 3 i0 (.int .i64 0) 8 Try.underlying33 hii hz0 hz1 hz2 rfl _ 0 [] rfl Mq80.out.t A i c (x.T.map i64V) rfl (src_below HTS.out Mq80.out.hb) (i64s_one _) (by unfold maxLen; omega) (by omega) Mq80.out.hb.size ?_
                intro vq82 uq81 hwq83 hgq84 hlq85
                have Mq88 := Lib.hid (Mq80.out.growT hwq83 hgq84 hlq85)
                obtain ⟨Aq86, cq87, rfl⟩ := own_slice hwq83
                rw [Nat.zero_add, List.nil_append] at Mq88
                rw [Nat.zero_add]
                clear hwq83 hgq84 hlq85
                refine hK.out _ _ trivial (fun ht49 => ?_)
                clear hK K
                try simp only [Act.put, List.setIfInBounds_toArray, List.set_cons_zero, List.set_cons_succ]
                refine wpAnyH_ready (rs := [11]) (by kernel_rfl) (by simp) ?_
                refine AllReadyH.cons (o := ?ot50) ?ht50 ?st50 AllReadyH.nil
                case ht50 => (simp only [List.getElem?_toArray, List.getElem?_cons_zero, List.getElem?_cons_succ]; rfl)
                case st50 =>
                  intro K hK
                  refine step_append_src _ rfl (.tmp 102) (.tmp 103) 33 rfl w.heap.size 3 i0 (.int .i64 0) 8 Try.underlying33 hii hz0 hz1 hz2 rfl _ 0 [] rfl Mq88.out.s C i cc (x.S.map i64V) rfl (src_below HSS.out Mq88.out.hb) (i64s_one _) (by unfold maxLen; omega) (by omega) Mq88.out.hb.size ?_
                  intro vq90 uq89 hwq91 hgq92 hlq93
                  have Mq96 := Lib.hid (Mq88.out.growS hwq91 hgq92 hlq93)
                  obtain ⟨Aq94, cq95, rfl⟩ := own_slice hwq91
                  rw [Nat.zero_add, List.nil_append] at Mq96
                  rw [Nat.zero_add]
                  clear hwq91 hgq92 hlq93
                  refine hK.out _ _ trivial (fun ht51 => ?_)
                  clear hK K
                  try simp only [Act.put, List.setIfInBounds_toArray, List.set_cons_zero, List.set_cons_succ]
                  refine wpAnyH_take (i := 12) (oi := ?oit5212) (v := ?vt5212) ?hit5212 (by kernel_rfl) (by kernel_rfl) (by kernel_rfl) ?hQt5212 (Or.inl ⟨?hwt5212, ?hyt5212⟩) (by assumption) ?restt5212
                  case hit5212 => (first | (simp only [List.getElem?_toArray, List.getElem?_cons_zero, List.getElem?_cons_succ]; rfl) | rfl)
                  case hQt5212 => exact fun _ _ _ h => h
                  case hwt5212 => rfl
                  case hyt5212 => ((intro w hSw; go_simp); first | done | with_reducible rfl)
                  try simp only [Act.put, List.setIfInBounds_toArray, List.set_cons_zero, List.set_cons_succ]
                  refine wpAnyH_ready (rs := [13]) (by kernel_rfl) (by simp) ?_
                  refine AllReadyH.cons (o := ?ot53) ?ht53 ?st53 AllReadyH.nil
                  case ht53 => (simp only [List.getElem?_toArray, List.getElem?_cons_zero, List.getElem?_cons_succ]; rfl)
                  case st53 =>
                    intro K hK
                    go_simp
                    obtain ⟨uq97, huq98⟩ : ∃ zz, zz = uq89.alloc (.cells #[.int .i64 D, .slice Aq86 i cq87, .slice Aq94 i cq95] 56) := ⟨_, rfl⟩
                    have Mq99 := Lib.hid (Mq96.out.alloc (.cells #[.int .i64 D, .slice Aq86 i cq87, .slice Aq94 i cq95] 56))
                    have Bq100 : Hid (Blk uq97 uq89.heap.size 56 #[.int .i64 D, .slice Aq86 i cq87, .slice Aq94 i cq95]) := Lib.hid (by rw [huq98]; exact Blk.new _ _ _)
                    rw [← huq98] at Mq99 ⊢
                    clear huq98
                    refine hK.out _ _ trivial (fun ht54 => ?_)
                    clear hK K
                    try simp only [Act.put, List.setIfInBounds_toArray, List.set_cons_zero, List.set_cons_succ]
                    refine wpAnyH_ready (rs := [14]) (by kernel_rfl) (by simp) ?_
                    refine AllReadyH.cons (o := ?ot55) ?ht55 ?st55 AllReadyH.nil
                    case ht55 => (simp only [List.getElem?_toArray, List.getElem?_cons_zero, List.getElem?_cons_succ]; rfl)
                    case st55 =>
                      intro K hK
                      refine step_append_recK _ rfl (.tmp 97) (.tmp 106) 27 rfl 0 56 i1 _ 3 56 Try.underlying27 hi1 hy0 hy1 hy2 rfl (by decide) _ N _ rfl (ownsRow_block HOW.out fun g hg => Mq99.out.hb.block g (HOW.out.lt g hg).2) ⟨uq89.heap.size, 0, none⟩ 1 1 (oneCells (D, (.slice Aq86 i cq87), (.slice Aq94 i cq95))) rfl rfl (one_cells (p := (D, (.slice Aq86 i cq87), (.slice Aq94 i cq95))) Bq100.out) (one_one _ _ _ _ _ _ _) (by unfold maxLen; omega) (by omega) (Nat.zero_le _) ?_
                      intro vq102 uq101 hwq103 hgq104 hlq105
                      have Bq108 := Lib.hid ((HBV.out.below Mq99.out.hb hbl).grown hgq104 (fun e => (HGO.out b e.symm).2 rfl))
                      have Eq109 := Lib.hid (add_done (n := i) HE.out HN.out HGB.out HGL.out HBV.out HRL.out HGO.out HRX.out Mq99.out HTL.out HSL.out (by unfold maxLen; omega) (by rw [← HD.out]; exact hd) HTF.out HSF.out (by rw [← HD.out]; exact hwq103) hgq104 hlq105)
                      obtain ⟨Aq106, cq107, rfl⟩ := own_slice hwq103
                      clear hwq103 hgq104 hlq105
                      refine hK.out _ _ trivial (fun ht56 => ?_)
                      clear hK K
                      try simp only [Act.put, List.setIfInBounds_toArray, List.set_cons_zero, List.set_cons_succ]
                      refine wpAnyH_take (i := 15) (oi := ?oit5715) (v := ?vt5715) ?hit5715 (by kernel_rfl) (by kernel_rfl) (by kernel_rfl) ?hQt5715 (Or.inl ⟨?hwt5715, ?hyt5715⟩) (by assumption) ?restt5715
                      case hit5715 => (first | (simp only [List.getElem?_toArray, List.getElem?_cons_zero, List.getElem?_cons_succ]; rfl) | rfl)
                      case hQt5715 => exact fun _ _ _ h => h
                      case hwt5715 => rfl
                      case hyt5715 => ((intro w hSw; go_simp); first | done | with_reducible rfl)
                      try simp only [Act.put, List.setIfInBounds_toArray, List.set_cons_zero, List.set_cons_succ]
                      refine wpAnyH_take (i := 16) (oi := ?oit5816) (v := ?vt5816) ?hit5816 (by kernel_rfl) (by kernel_rfl) (by kernel_rfl) ?hQt5816 (Or.inl ⟨?hwt5816, ?hyt5816⟩) (by assumption) ?restt5816
                      case hit5816 => (first | (simp only [List.getElem?_toArray, List.getElem?_cons_zero, List.getElem?_cons_succ]; rfl) | rfl)
                      case hQt5816 => exact fun _ _ _ h => h
                      case hwt5816 => rfl
                      case hyt5816 => ((intro w hSw; go_simp); first | done | with_reducible rfl)
                      try simp only [Act.put, List.setIfInBounds_toArray, List.set_cons_zero, List.set_cons_succ]
                      refine wpAnyH_ready (rs := [17]) (by kernel_rfl) (by simp) ?_
                      refine AllReadyH.cons (o := ?ot59) ?ht59 ?st59 AllReadyH.nil
                      case ht59 => (simp only [List.getElem?_toArray, List.getElem?_cons_zero, List.getElem?_cons_succ]; rfl)
                      case st59 =>
                        intro K hK
                        have yq111 := Bq108.out.cell 0
                        have zq112 := Bq108.out.frozen 0
                        simp only [List.getElem?_toArray, List.getElem?_cons_zero, List.getElem?_cons_succ] at yq111
                        go_simp
                        clear yq111 zq112
                        refine hK.out _ _ trivial (fun ht60 => ?_)
                        clear hK K
                        try simp only [Act.put, List.setIfInBounds_toArray, List.set_cons_zero, List.set_cons_succ]
                        refine wpAnyH_done (by kernel_rfl) ?_ _
                        go_wp2
                        go_ret
                        exact Eq109.out
        case st9 =>
          intro K hK
          go_simp
          obtain ⟨uq113, huq114⟩ : ∃ zz, zz = u0.alloc (.cells #[] 3) := ⟨_, rfl⟩
          have Mq115 := Lib.hid (HM0.out.newT)
          rw [← huq114] at Mq115 ⊢
          clear huq114
          refine hK.out _ _ trivial (fun ht61 => ?_)
          clear hK K
          try simp only [Act.put, List.setIfInBounds_toArray, List.set_cons_zero, List.set_cons_succ]
          refine wpAnyH_ready (rs := [4, 8, 9]) (by kernel_rfl) (by simp) ?_
          refine AllReadyH.cons (o := ?ot62) ?ht62 ?st62 (AllReadyH.cons (o := ?ot63) ?ht63 ?st63 (AllReadyH.cons (o := ?ot64) ?ht64 ?st64 AllReadyH.nil))
          case ht62 => (simp only [List.getElem?_toArray, List.getElem?_cons_zero, List.getElem?_cons_succ]; rfl)
          case ht63 => (simp only [List.getElem?_toArray, List.getElem?_cons_zero, List.getElem?_cons_succ]; rfl)
          case ht64 => (simp only [List.getElem?_toArray, List.getElem?_cons_zero, List.getElem?_cons_succ]; rfl)
          case st62 =>
            intro K hK
            have yq116 := (HBV.out.below Mq115.out.hb hbl).cell 0
            simp only [List.getElem?_toArray, List.getElem?_cons_zero, List.getElem?_cons_succ] at yq116
            go_simp
            clear yq116
            refine hK.out _ _ trivial (fun ht65 => ?_)
            clear hK K
            try simp only [Act.put, List.setIfInBounds_toArray, List.set_cons_zero, List.set_cons_succ]
            refine wpAnyH_ready (rs := [8, 9]) (by kernel_rfl) (by simp) ?_
            refine AllReadyH.cons (o := ?ot66) ?ht66 ?st66 (AllReadyH.cons (o := ?ot67) ?ht67 ?st67 AllReadyH.nil)
            case ht66 => (simp only [List.getElem?_toArray, List.getElem?_cons_zero, List.getElem?_cons_succ]; rfl)
            case ht67 => (simp only [List.getElem?_toArray, List.getElem?_cons_zero, List.getElem?_cons_succ]; rfl)
            case st66 =>
              intro K hK
              refine step_append_src _ rfl (.tmp 99) (.tmp 100) 33 rfl w.heap.size 3 i0 (.int .i64 0) 8 Try.underlying33 hii hz0 hz1 hz2 rfl _ 0 [] rfl Mq115.out.t A i c (x.T.map i64V) rfl (src_below HTS.out Mq115.out.hb) (i64s_one _) (by unfold maxLen; omega) (by omega) Mq115.out.hb.size ?_
              intro vq118 uq117 hwq119 hgq120 hlq121
              have Mq124 := Lib.hid (Mq115.out.growT hwq119 hgq120 hlq121)
              obtain ⟨Aq122, cq123, rfl⟩ := own_slice hwq119
              rw [Nat.zero_add, List.nil_append] at Mq124
              rw [Nat.zero_add]
              clear hwq119 hgq120 hlq121
              refine hK.out _ _ trivial (fun ht68 => ?_)
              clear hK K
              try simp only [Act.put, List.setIfInBounds_toArray, List.set_cons_zero, List.set_cons_succ]
              refine wpAnyH_ready (rs := [9]) (by kernel_rfl) (by simp) ?_
              refine AllReadyH.cons (o := ?ot69) ?ht69 ?st69 AllReadyH.nil
              case ht69 => (simp only [List.getElem?_toArray, List.getElem?_cons_zero, List.getElem?_cons_succ]; rfl)
              case st69 =>
                intro K hK
                go_simp
                obtain ⟨uq125, huq126⟩ : ∃ zz, zz = uq117.alloc (.cells #[] 3) := ⟨_, rfl⟩
                have Mq127 := Lib.hid (Mq124.out.newS)
                rw [← huq126] at Mq127 ⊢
                clear huq126
                refine hK.out _ _ trivial (fun ht70 => ?_)
                clear hK K
                try simp only [Act.put, List.setIfInBounds_toArray, List.set_cons_zero, List.set_cons_succ]
                refine wpAnyH_ready (rs := [11]) (by kernel_rfl) (by simp) ?_
                refine AllReadyH.cons (o := ?ot71) ?ht71 ?st71 AllReadyH.nil
                case ht71 => (simp only [List.getElem?_toArray, List.getElem?_cons_zero, List.getElem?_cons_succ]; rfl)
                case st71 =>
                  intro K hK
                  refine step_append_src _ rfl (.tmp 102) (.tmp 103) 33 rfl w.heap.size 3 i0 (.int .i64 0) 8 Try.underlying33 hii hz0 hz1 hz2 rfl _ 0 [] rfl Mq127.out.s C i cc (x.S.map i64V) rfl (src_below HSS.out Mq127.out.hb) (i64s_one _) (by unfold maxLen; omega) (by omega) Mq127.out.hb.size ?_
                  intro vq129 uq128 hwq130 hgq131 hlq132
                  have Mq135 := Lib.hid (Mq127.out.growS hwq130 hgq131 hlq132)
                  obtain ⟨Aq133, cq134, rfl⟩ := own_slice hwq130
                  rw [Nat.zero_add, List.nil_append] at Mq135
                  rw [Nat.zero_add]
                  clear hwq130 hgq131 hlq132
                  refine hK.out _ _ trivial (fun ht72 => ?_)
                  clear hK K
                  try simp only [Act.put, List.setIfInBounds_toArray, List.set_cons_zero, List.set_cons_succ]
                  refine wpAnyH_take (i := 12) (oi := ?oit7312) (v := ?vt7312) ?hit7312 (by kernel_rfl) (by kernel_rfl) (by kernel_rfl) ?hQt7312 (Or.inl ⟨?hwt7312, ?hyt7312⟩) (by assumption) ?restt7312
                  case hit7312 => (first | (simp only [List.getElem?_toArray, List.getElem?_cons_zero, List.getElem?_cons_succ]; rfl) | rfl)
                  case hQt7312 => exact fun _ _ _ h => h
                  case hwt7312 => rfl
                  case hyt7312 => ((intro w hSw; go_simp); first | done | with_reducible rfl)
                  try simp only [Act.put, List.setIfInBounds_toArray, List.set_cons_zero, List.set_cons_succ]
                  refine wpAnyH_ready (rs := [13]) (by kernel_rfl) (by simp) ?_
                  refine AllReadyH.cons (o := ?ot74) ?ht74 ?st74 AllReadyH.nil
                  case ht74 => (simp only [List.getElem?_toArray, List.getElem?_cons_zero, List.getElem?_cons_succ]; rfl)
                  case st74 =>
                    intro K hK
                    go_simp
                    obtain ⟨uq136, huq137⟩ : ∃ zz, zz = uq128.alloc (.cells #[.int .i64 D, .slice Aq122 i cq123, .slice Aq133 i cq134] 56) := ⟨_, rfl⟩
                    have Mq138 := Lib.hid (Mq135.out.alloc (.cells #[.int .i64 D, .slice Aq122 i cq123, .slice Aq133 i cq134] 56))
                    have Bq139 : Hid (Blk uq136 uq128.heap.size 56 #[.int .i64 D, .slice Aq122 i cq123, .slice Aq133 i cq134]) := Lib.hid (by rw [huq137]; exact Blk.new _ _ _)
                    rw [← huq137] at Mq138 ⊢
                    clear huq137
                    refine hK.out _ _ trivial (fun ht75 => ?_)
                    clear hK K
                    try simp only [Act.put, List.setIfInBounds_toArray, List.set_cons_zero, List.set_cons_succ]
                    refine wpAnyH_ready (rs := [14]) (by kernel_rfl) (by simp) ?_
                    refine AllReadyH.cons (o := ?ot76) ?ht76 ?st76 AllReadyH.nil
                    case ht76 => (simp only [List.getElem?_toArray, List.getElem?_cons_zero, List.getElem?_cons_succ]; rfl)
                    case st76 =>
                      intro K hK
                      refine step_append_recK _ rfl (.tmp 97) (.tmp 106) 27 rfl 0 56 i1 _ 3 56 Try.underlying27 hi1 hy0 hy1 hy2 rfl (by decide) _ N _ rfl (ownsRow_block HOW.out fun g hg => Mq138.out.hb.block g (HOW.out.lt g hg).2) ⟨uq128.heap.size, 0, none⟩ 1 1 (oneCells (D, (.slice Aq122 i cq123), (.slice Aq133 i cq134))) rfl rfl (one_cells (p := (D, (.slice Aq122 i cq123), (.slice Aq133 i cq134))) Bq139.out) (one_one _ _ _ _ _ _ _) (by unfold maxLen; omega) (by omega) (Nat.zero_le _) ?_
                      intro vq141 uq140 hwq142 hgq143 hlq144
                      have Bq147 := Lib.hid ((HBV.out.below Mq138.out.hb hbl).grown hgq143 (fun e => (HGO.out b e.symm).2 rfl))
                      have Eq148 := Lib.hid (add_done (n := i) HE.out HN.out HGB.out HGL.out HBV.out HRL.out HGO.out HRX.out Mq138.out HTL.out HSL.out (by unfold maxLen; omega) (by rw [← HD.out]; exact hd) HTF.out HSF.out (by rw [← HD.out]; exact hwq142) hgq143 hlq144)
                      obtain ⟨Aq145, cq146, rfl⟩ := own_slice hwq142
                      clear hwq142 hgq143 hlq144
                      refine hK.out _ _ trivial (fun ht77 => ?_)
                      clear hK K
                      try simp only [Act.put, List.setIfInBounds_toArray, List.set_cons_zero, List.set_cons_succ]
                      refine wpAnyH_take (i := 15) (oi := ?oit7815) (v := ?vt7815) ?hit7815 (by kernel_rfl) (by kernel_rfl) (by kernel_rfl) ?hQt7815 (Or.inl ⟨?hwt7815, ?hyt7815⟩) (by assumption) ?restt7815
                      case hit7815 => (first | (simp only [List.getElem?_toArray, List.getElem?_cons_zero, List.getElem?_cons_succ]; rfl) | rfl)
                      case hQt7815 => exact fun _ _ _ h => h
                      case hwt7815 => rfl
                      case hyt7815 => ((intro w hSw; go_simp); first | done | with_reducible rfl)
                      try simp only [Act.put, List.setIfInBounds_toArray, List.set_cons_zero, List.set_cons_succ]
                      refine wpAnyH_take (i := 16) (oi := ?oit7916) (v := ?vt7916) ?hit7916 (by kernel_rfl) (by kernel_rfl) (by kernel_rfl) ?hQt7916 (Or.inl ⟨?hwt7916, ?hyt7916⟩) (by assumption) ?restt7916
                      case hit7916 => (first | (simp only [List.getElem?_toArray, List.getElem?_cons_zero, List.getElem?_cons_succ]; rfl) | rfl)
                      case hQt7916 => exact fun _ _ _ h => h
                      case hwt7916 => rfl
                      case hyt7916 => ((intro w hSw; go_simp); first | done | with_reducible rfl)
                      try simp only [Act.put, List.setIfInBounds_toArray, List.set_cons_zero, List.set_cons_succ]
                      refine wpAnyH_ready (rs := [17]) (by kernel_rfl) (by simp) ?_
                      refine AllReadyH.cons (o := ?ot80) ?ht80 ?st80 AllReadyH.nil
                      case ht80 => (simp only [List.getElem?_toArray, List.getElem?_cons_zero, List.getElem?_cons_succ]; rfl)
                      case st80 =>
                        intro K hK
                        have yq150 := Bq147.out.cell 0
                        have zq151 := Bq147.out.frozen 0
                        simp only [List.getElem?_toArray, List.getElem?_cons_zero, List.getElem?_cons_succ] at yq150
                        go_simp
                        clear yq150 zq151
                        refine hK.out _ _ trivial (fun ht81 => ?_)
                        clear hK K
                        try simp only [Act.put, List.setIfInBounds_toArray, List.set_cons_zero, List.set_cons_succ]
                        refine wpAnyH_done (by kernel_rfl) ?_ _
                        go_wp2
                        go_ret
                        exact Eq148.out
            case st67 =>
              intro K hK
              go_simp
              obtain ⟨uq152, huq153⟩ : ∃ zz, zz = uq113.alloc (.cells #[] 3) := ⟨_, rfl⟩
              have Mq154 := Lib.hid (Mq115.out.newS)
              rw [← huq153] at Mq154 ⊢
              clear huq153
              refine hK.out _ _ trivial (fun ht82 => ?_)
              clear hK K
              try simp only [Act.put, List.setIfInBounds_toArray, List.set_cons_zero, List.set_cons_succ]
              refine wpAnyH_ready (rs := [8]) (by kernel_rfl) (by simp) ?_
              refine AllReadyH.cons (o := ?ot83) ?ht83 ?st83 AllReadyH.nil
              case ht83 => (simp only [List.getElem?_toArray, List.getElem?_cons_zero, List.getElem?_cons_succ]; rfl)
              case st83 =>
                intro K hK
                refine step_append_src _ rfl (.tmp 99) (.tmp 100) 33 rfl w.heap.size 3 i0 (.int .i64 0) 8 Try.underlying33 hii hz0 hz1 hz2 rfl _ 0 [] rfl Mq154.out.t A i c (x.T.map i64V) rfl (src_below HTS.out Mq154.out.hb) (i64s_one _) (by unfold maxLen; omega) (by omega) Mq154.out.hb.size ?_
                intro vq156 uq155 hwq157 hgq158 hlq159
                have Mq162 := Lib.hid (Mq154.out.growT hwq157 hgq158 hlq159)
                obtain ⟨Aq160, cq161, rfl⟩ := own_slice hwq157
                rw [Nat.zero_add, List.nil_append] at Mq162
                rw [Nat.zero_add]
                clear hwq157 hgq158 hlq159
                refine hK.out _ _ trivial (fun ht84 => ?_)
                clear hK K
                try simp only [Act.put, List.setIfInBounds_toArray, List.set_cons_zero, List.set_cons_succ]
                refine wpAnyH_ready (rs := [11]) (by kernel_rfl) (by simp) ?_
                refine AllReadyH.cons (o := ?ot85) ?ht85 ?st85 AllReadyH.nil
                case ht85 => (simp only [List.getElem?_toArray, List.getElem?_cons_zero, List.getElem?_cons_succ]; rfl)
                case st85 =>
                  intro K hK
                  refine step_append_src _ rfl (.tmp 102) (.tmp 103) 33 rfl w.heap.size 3 i0 (.int .i64 0) 8 Try.underlying33 hii hz0 hz1 hz2 rfl _ 0 [] rfl Mq162.out.s C i cc (x.S.map i64V) rfl (src_below HSS.out Mq162.out.hb) (i64s_one _) (by unfold maxLen; omega) (by omega) Mq162.out.hb.size ?_
                  intro vq164 uq163 hwq165 hgq166 hlq167
                  have Mq170 := Lib.hid (Mq162.out.growS hwq165 hgq166 hlq167)
                  obtain ⟨Aq168, cq169, rfl⟩ := own_slice hwq165
                  rw [Nat.zero_add, List.nil_append] at Mq170
                  rw [Nat.zero_add]
                  clear hwq165 hgq166 hlq167
                  refine hK.out _ _ trivial (fun ht86 => ?_)
                  clear hK K
                  try simp only [Act.put, List.setIfInBounds_toArray, List.set_cons_zero, List.set_cons_succ]
                  refine wpAnyH_take (i := 12) (oi := ?oit8712) (v := ?vt8712) ?hit8712 (by kernel_rfl) (by kernel_rfl) (by kernel_rfl) ?hQt8712 (Or.inl ⟨?hwt8712, ?hyt8712⟩) (by assumption) ?restt8712
                  case hit8712 => (first | (simp only [List.getElem?_toArray, List.getElem?_cons_zero, List.getElem?_cons_succ]; rfl) | rfl)
                  case hQt8712 => exact fun _ _ _ h => h
                  case hwt8712 => rfl
                  case hyt8712 => ((intro w hSw; go_simp); first | done | with_reducible rfl)
                  try simp only [Act.put, List.setIfInBounds_toArray, List.set_cons_zero, List.set_cons_succ]
                  refine wpAnyH_ready (rs := [13]) (by kernel_rfl) (by simp) ?_
                  refine AllReadyH.cons (o := ?ot88) ?ht88 ?st88 AllReadyH.nil
                  case ht88 => (simp only [List.getElem?_toArray, List.getElem?_cons_zero, List.getElem?_cons_succ]; rfl)
                  case st88 =>
                    intro K hK
                    go_simp
                    obtain ⟨uq171, huq172⟩ : ∃ zz, zz = uq163.alloc (.cells #[.int .i64 D, .slice Aq160 i cq161, .slice Aq168 i cq169] 56) := ⟨_, rfl⟩
                    have Mq173 := Lib.hid (Mq170.out.alloc (.cells #[.int .i64 D, .slice Aq160 i cq161, .slice Aq168 i cq169] 56))
                    have Bq174 : Hid (Blk uq171 uq163.heap.size 56 #[.int .i64 D, .slice Aq160 i cq161, .slice Aq168 i cq169]) := Lib.hid (by rw [huq172]; exact Blk.new _ _ _)
                    rw [← huq172] at Mq173 ⊢
                    clear huq172
                    refine hK.out _ _ trivial (fun ht89 => ?_)
                    clear hK K
                    try simp only [Act.put, List.setIfInBounds_toArray, List.set_cons_zero, List.set_cons_succ]
                    refine wpAnyH_ready (rs := [14]) (by kernel_rfl) (by simp) ?_
                    refine AllReadyH.cons (o := ?ot90) ?ht90 ?st90 AllReadyH.nil
                    case ht90 => (simp only [List.getElem?_toArray, List.getElem?_cons_zero, List.getElem?_cons_succ]; rfl)
                    case st90 =>
                      intro K hK
                      refine step_append_recK _ rfl (.tmp 97) (.tmp 106) 27 rfl 0 56 i1 _ 3 56 Try.underlying27 hi1 hy0 hy1 hy2 rfl (by decide) _ N _ rfl (ownsRow_block HOW.out fun g hg => Mq173.out.hb.block g (HOW.out.lt g hg).2) ⟨uq163.heap.size, 0, none⟩ 1 1 (oneCells (D, (.slice Aq160 i cq161), (.slice Aq168 i cq169))) rfl rfl (one_cells (p := (D, (.slice Aq160 i cq161), (.slice Aq168 i cq169))) Bq174.out) (one_one _ _ _ _ _ _ _) (by unfold maxLen; omega) (by omega) (Nat.zero_le _) ?_
                      intro vq176 uq175 hwq177 hgq178 hlq179
                      have Bq182 := Lib.hid ((HBV.out.below Mq173.out.hb hbl).grown hgq178 (fun e => (HGO.out b e.symm).2 rfl))
                      have Eq183 := Lib.hid (add_done (n := i) HE.out HN.out HGB.out HGL.out HBV.out HRL.out HGO.out HRX.out Mq173.out HTL.out HSL.out (by unfold maxLen; omega) (by rw [← HD.out]; exact hd) HTF.out HSF.out (by rw [← HD.out]; exact hwq177) hgq178 hlq179)
                      obtain ⟨Aq180, cq181, rfl⟩ := own_slice hwq177
                      clear hwq177 hgq178 hlq179
                      refine hK.out _ _ trivial (fun ht91 => ?_)
                      clear hK K
                      try simp only [Act.put, List.setIfInBounds_toArray, List.set_cons_zero, List.set_cons_succ]
                      refine wpAnyH_take (i := 15) (oi := ?oit9215) (v := ?vt9215) ?hit9215 (by kernel_rfl) (by kernel_rfl) (by kernel_rfl) ?hQt9215 (Or.inl ⟨?hwt9215, ?hyt9215⟩) (by assumption) ?restt9215
                      case hit9215 => (first | (simp only [List.getElem?_toArray, List.getElem?_cons_zero, List.getElem?_cons_succ]; rfl) | rfl)
                      case hQt9215 => exact fun _ _ _ h => h
                      case hwt9215 => rfl
                      case hyt9215 => ((intro w hSw; go_simp); first | done | with_reducible rfl)
                      try simp only [Act.put, List.setIfInBounds_toArray, List.set_cons_zero, List.set_cons_succ]
                      refine wpAnyH_take (i := 16) (oi := ?oit9316) (v := ?vt9316) ?hit9316 (by kernel_rfl) (by kernel_rfl) (by kernel_rfl) ?hQt9316 (Or.inl ⟨?hwt9316, ?hyt9316⟩) (by assumption) ?restt9316
                      case hit9316 => (first | (simp only [List.getElem?_toArray, List.getElem?_cons_zero, List.getElem?_cons_succ]; rfl) | rfl)
                      case hQt9316 => exact fun _ _ _ h => h
                      case hwt9316 => rfl
                      case hyt9316 => ((intro w hSw; go_simp); first | done | with_reducible rfl)
                      try simp only [Act.put, List.setIfInBounds_toArray, List.set_cons_zero, List.set_cons_succ]
                      refine wpAnyH_ready (rs := [17]) (by kernel_rfl) (by simp) ?_
                      refine AllReadyH.cons (o := ?ot94) ?ht94 ?st94 AllReadyH.nil
                      case ht94 => (simp only [List.getElem?_toArray, List.getElem?_cons_zero, List.getElem?_cons_succ]; rfl)
                      case st94 =>
                        intro K hK
                        have yq185 := Bq182.out.cell 0
                        have zq186 := Bq182.out.frozen 0
                        simp only [List.getElem?_toArray, List.getElem?_cons_zero, List.getElem?_cons_succ] at yq185
                        go_simp
                        clear yq185 zq186
                        refine hK.out _ _ trivial (fun ht95 => ?_)
                        clear hK K
                        try simp only [Act.put, List.setIfInBounds_toArray, List.set_cons_zero, List.set_cons_succ]
                        refine wpAnyH_done (by kernel_rfl) ?_ _
                        go_wp2
                        go_ret
                        exact Eq183.out
          case st63 =>
            intro K hK
            refine step_append_src _ rfl (.tmp 99) (.tmp 100) 33 rfl w.heap.size 3 i0 (.int .i64 0) 8 Try.underlying33 hii hz0 hz1 hz2 rfl _ 0 [] rfl Mq115.out.t A i c (x.T.map i64V) rfl (src_below HTS.out Mq115.out.hb) (i64s_one _) (by unfold maxLen; omega) (by omega) Mq115.out.hb.size ?_
            intro vq188 uq187 hwq189 hgq190 hlq191
            have Mq194 := Lib.hid (Mq115.out.growT hwq189 hgq190 hlq191)
            obtain ⟨Aq192, cq193, rfl⟩ := own_slice hwq189
            rw [Nat.zero_add, List.nil_append] at Mq194
            rw [Nat.zero_add]
            clear hwq189 hgq190 hlq191
            refine hK.out _ _ trivial (fun ht96 => ?_)
            clear hK K
            try simp only [Act.put, List.setIfInBounds_toArray, List.set_cons_zero, List.set_cons_succ]
            refine wpAnyH_ready (rs := [4, 9]) (by kernel_rfl) (by simp) ?_
            refine AllReadyH.cons (o := ?ot97) ?ht97 ?st97 (AllReadyH.cons (o := ?ot98) ?ht98 ?st98 AllReadyH.nil)
            case ht97 => (simp only [List.getElem?_toArray, List.getElem?_cons_zero, List.getElem?_cons_succ]; rfl)
            case ht98 => (simp only [List.getElem?_toArray, List.getElem?_cons_zero, List.getElem?_cons_succ]; rfl)
            case st97 =>
              intro K hK
              have yq195 := (HBV.out.below Mq194.out.hb hbl).cell 0
              simp only [List.getElem?_toArray, List.getElem?_cons_zero, List.getElem?_cons_succ] at yq195
              go_simp
              clear yq195
              refine hK.out _ _ trivial (fun ht99 => ?_)
              clear hK K
              try simp only [Act.put, List.setIfInBounds_toArray, List.set_cons_zero, List.set_cons_succ]
              refine wpAnyH_ready (rs := [9]) (by kernel_rfl) (by simp) ?_
              refine AllReadyH.cons (o := ?ot100) ?ht100 ?st100 AllReadyH.nil
              case ht100 => (simp only [List.getElem?_toArray, List.getElem?_cons_zero, List.getElem?_cons_succ]; rfl)
              case st100 =>
                intro K hK
                go_simp
                obtain ⟨uq196, huq197⟩ : ∃ zz, zz = uq187.alloc (.cells #[] 3) := ⟨_, rfl⟩
                have Mq198 := Lib.hid (Mq194.out.newS)
                rw [← huq197] at Mq198 ⊢
                clear huq197
                refine hK.out _ _ trivial (fun ht101 => ?_)
                clear hK K
                try simp only [Act.put, List.setIfInBounds_toArray, List.set_cons_zero, List.set_cons_succ]
                refine wpAnyH_ready (rs := [11]) (by kernel_rfl) (by simp) ?_
                refine AllReadyH.cons (o := ?ot102) ?ht102 ?st102 AllReadyH.nil
                case ht102 => (simp only [List.getElem?_toArray, List.getElem?_cons_zero, List.getElem?_cons_succ]; rfl)
                case st102 =>
                  intro K hK
                  refine step_append_src _ rfl (.tmp 102) (.tmp 103) 33 rfl w.heap.size 3 i0 (.int .i64 0) 8 Try.underlying33 hii hz0 hz1 hz2 rfl _ 0 [] rfl Mq198.out.s C i cc (x.S.map i64V) rfl (src_below HSS.out Mq198.out.hb) (i64s_one _) (by unfold maxLen; omega) (by omega) Mq198.out.hb.size ?_
                  intro vq200 uq199 hwq201 hgq202 hlq203
                  have Mq206 := Lib.hid (Mq198.out.growS hwq201 hgq202 hlq203)
                  obtain ⟨Aq204, cq205, rfl⟩ := own_slice hwq201
                  rw [Nat.zero_add, List.nil_append] at Mq206
                  rw [Nat.zero_add]
                  clear hwq201 hgq202 hlq203
                  refine hK.out _ _ trivial (fun ht103 => ?_)
                  clear hK K
                  try simp only [Act.put, List.setIfInBounds_toArray, List.set_cons_zero, List.set_cons_succ]
                  refine wpAnyH_take (i := 12) (oi := ?oit10412) (v := ?vt10412) ?hit10412 (by kernel_rfl) (by kernel_rfl) (by kernel_rfl) ?hQt10412 (Or.inl ⟨?hwt10412, ?hyt10412⟩) (by assumption) ?restt10412
                  case hit10412 => (first | (simp only [List.getElem?_toArray, List.getElem?_cons_zero, List.getElem?_cons_succ]; rfl) | rfl)
                  case hQt10412 => exact fun _ _ _ h => h
                  case hwt10412 => rfl
                  case hyt10412 => ((intro w hSw; go_simp); first | done | with_reducible rfl)
                  try simp only [Act.put, List.setIfInBounds_toArray, List.set_cons_zero, List.set_cons_succ]
                  refine wpAnyH_ready (rs := [13]) (by kernel_rfl) (by simp) ?_
                  refine AllReadyH.cons (o := ?ot105) ?ht105 ?st105 AllReadyH.nil
                  case ht105 => (simp only [List.getElem?_toArray, List.getElem?_cons_zero, List.getElem?_cons_succ]; rfl)
                  case st105 =>
                    intro K hK
                    go_simp
                    obtain ⟨uq207, huq208⟩ : ∃ zz, zz = uq199.alloc (.cells #[.int .i64 D, .slice Aq192 i cq193, .slice Aq204 i cq205] 56) := ⟨_, rfl⟩
                    have Mq209 := Lib.hid (Mq206.out.alloc (.cells #[.int .i64 D, .slice Aq192 i cq193, .slice Aq204 i cq205] 56))
                    have Bq210 : Hid (Blk uq207 uq199.heap.size 56 #[.int .i64 D, .slice Aq192 i cq193, .slice Aq204 i cq205]) := Lib.hid (by rw [huq208]; exact Blk.new _ _ _)
                    rw [← huq208] at Mq209 ⊢
                    clear huq208
                    refine hK.out _ _ trivial (fun ht106 => ?_)
                    clear hK K
                    try simp only [Act.put, List.setIfInBounds_toArray, List.set_cons_zero, List.set_cons_succ]
                    refine wpAnyH_ready (rs := [14]) (by kernel_rfl) (by simp) ?_
                    refine AllReadyH.cons (o := ?ot107) ?ht107 ?st107 AllReadyH.nil
                    case ht107 => (simp only [List.getElem?_toArray, List.getElem?_cons_zero, List.getElem?_cons_succ]; rfl)
                    case st107 =>
                      intro K hK
                      refine step_append_recK _ rfl (.tmp 97) (.tmp 106) 27 rfl 0 56 i1 _ 3 56 Try.underlying27 hi1 hy0 hy1 hy2 rfl (by decide) _ N _ rfl (ownsRow_block HOW.out fun g hg => Mq209.out.hb.block g (HOW.out.lt g hg).2) ⟨uq199.heap.size, 0, none⟩ 1 1 (oneCells (D, (.slice Aq192 i cq193), (.slice Aq204 i cq205))) rfl rfl (one_cells (p := (D, (.slice Aq192 i cq193), (.slice Aq204 i cq205))) Bq210.out) (one_one _ _ _ _ _ _ _) (by unfold maxLen; omega) (by omega) (Nat.zero_le _) ?_
                      intro vq212 uq211 hwq213 hgq214 hlq215
                      have Bq218 := Lib.hid ((HBV.out.below Mq209.out.hb hbl).grown hgq214 (fun e => (HGO.out b e.symm).2 rfl))
                      have Eq219 := Lib.hid (add_done (n := i) HE.out HN.out HGB.out HGL.out HBV.out HRL.out HGO.out HRX.out Mq209.out HTL.out HSL.out (by unfold maxLen; omega) (by rw [← HD.out]; exact hd) HTF.out HSF.out (by rw [← HD.out]; exact hwq213) hgq214 hlq215)
                      obtain ⟨Aq216, cq217, rfl⟩ := own_slice hwq213
                      clear hwq213 hgq214 hlq215
                      refine hK.out _ _ trivial (fun ht108 => ?_)
                      clear hK K
                      try simp only [Act.put, List.setIfInBounds_toArray, List.set_cons_zero, List.set_cons_succ]
                      refine wpAnyH_take (i := 15) (oi := ?oit10915) (v := ?vt10915) ?hit10915 (by kernel_rfl) (by kernel_rfl) (by kernel_rfl) ?hQt10915 (Or.inl ⟨?hwt10915, ?hyt10915⟩) (by assumption) ?restt10915
                      case hit10915 => (first | (simp only [List.getElem?_toArray, List.getElem?_cons_zero, List.getElem?_cons_succ]; rfl) | rfl)
                      case hQt10915 => exact fun _ _ _ h => h
                      case hwt10915 => rfl
                      case hyt10915 => ((intro w hSw; go_simp); first | done | with_reducible rfl)
                      try simp only [Act.put, List.setIfInBounds_toArray, List.set_cons_zero, List.set_cons_succ]
                      refine wpAnyH_take (i := 16) (oi := ?oit11016) (v := ?vt11016) ?hit11016 (by kernel_rfl) (by kernel_rfl) (by kernel_rfl) ?hQt11016 (Or.inl ⟨?hwt11016, ?hyt11016⟩) (by assumption) ?restt11016
                      case hit11016 => (first | (simp only [List.getElem?_toArray, List.getElem?_cons_zero, List.getElem?_cons_succ]; rfl) | rfl)
                      case hQt11016 => exact fun _ _ _ h => h
                      case hwt11016 => rfl
                      case hyt11016 => ((intro w hSw; go_simp); first | done | with_reducible rfl)
                      try simp only [Act.put, List.setIfInBounds_toArray, List.set_cons_zero, List.set_cons_succ]
                      refine wpAnyH_ready (rs := [17]) (by kernel_rfl) (by simp) ?_
                      refine AllReadyH.cons (o := ?ot111) ?ht111 ?st111 AllReadyH.nil
                      case ht111 => (simp only [List.getElem?_toArray, List.getElem?_cons_zero, List.getElem?_cons_succ]; rfl)
                      case st111 =>
                        intro K hK
                        have yq221 := Bq218.out.cell 0
                        have zq222 := Bq218.out.frozen 0
                        simp only [List.getElem?_toArray, List.getElem?_cons_zero, List.getElem?_cons_succ] at yq221
                        go_simp
                        clear yq221 zq222
                        refine hK.out _ _ trivial (fun ht112 => ?_)
                        clear hK K
                        try simp only [Act.put, List.setIfInBounds_toArray, List.set_cons_zero, List.set_cons_succ]
                        refine wpAnyH_done (by kernel_rfl) ?_ _
                        go_wp2
                        go_ret
                        exact Eq219.out
            case st98 =>
              intro K hK
              go_simp
              obtain ⟨uq223, huq224⟩ : ∃ zz, zz = uq187.alloc (.cells #[] 3) := ⟨_, rfl⟩
              have Mq225 := Lib.hid (Mq194.out.newS)
              rw [← huq224] at Mq225 ⊢
              clear huq224
              refine hK.out _ _ trivial (fun ht113 => ?_)
              clear hK K
              try simp only [Act.put, List.setIfInBounds_toArray, List.set_cons_zero, List.set_cons_succ]
              refine wpAnyH_ready (rs := [4, 11]) (by kernel_rfl) (by simp) ?_
              refine AllReadyH.cons (o := ?ot114) ?ht114 ?st114 (AllReadyH.cons (o := ?ot115) ?ht115 ?st115 AllReadyH.nil)
              case ht114 => (simp only [List.getElem?_toArray, List.getElem?_cons_zero, List.getElem?_cons_succ]; rfl)
              case ht115 => (simp only [List.getElem?_toArray, List.getElem?_cons_zero, List.getElem?_cons_succ]; rfl)
              case st114 =>
                intro K hK
                have yq226 := (HBV.out.below Mq225.out.hb hbl).cell 0
                simp only [List.getElem?_toArray, List.getElem?_cons_zero, List.getElem?_cons_succ] at yq226
                go_simp
                clear yq226
                refine hK.out _ _ trivial (fun ht116 => ?_)
                clear hK K
                try simp only [Act.put, List.setIfInBounds_toArray, List.set_cons_zero, List.set_cons_succ]
                refine wpAnyH_ready (rs := [11]) (by kernel_rfl) (by simp) ?_
                refine AllReadyH.cons (o := ?ot117) ?ht117 ?st117 AllReadyH.nil
                case ht117 => (simp only [List.getElem?_toArray, List.getElem?_cons_zero, List.getElem?_cons_succ]; rfl)
                case st117 =>
                  intro K hK
                  refine step_append_src _ rfl (.tmp 102) (.tmp 103) 33 rfl w.heap.size 3 i0 (.int .i64 0) 8 Try.underlying33 hii hz0 hz1 hz2 rfl _ 0 [] rfl Mq225.out.s C i cc (x.S.map i64V) rfl (src_below HSS.out Mq225.out.hb) (i64s_one _) (by unfold maxLen; omega) (by omega) Mq225.out.hb.size ?_
                  intro vq228 uq227 hwq229 hgq230 hlq231
                  have Mq234 := Lib.hid (Mq225.out.growS hwq229 hgq230 hlq231)
                  obtain ⟨Aq232, cq233, rfl⟩ := own_slice hwq229
                  rw [Nat.zero_add, List.nil_append] at Mq234
                  rw [Nat.zero_add]
                  clear hwq229 hgq230 hlq231
                  refine hK.out _ _ trivial (fun ht118 => ?_)
                  clear hK K
                  try simp only [Act.put, List.setIfInBounds_toArray, List.set_cons_zero, List.set_cons_succ]
                  refine wpAnyH_take (i := 12) (oi := ?oit11912) (v := ?vt11912) ?hit11912 (by kernel_rfl) (by kernel_rfl) (by kernel_rfl) ?hQt11912 (Or.inl ⟨?hwt11912, ?hyt11912⟩) (by assumption) ?restt11912
                  case hit11912 => (first | (simp only [List.getElem?_toArray, List.getElem?_cons_zero, List.getElem?_cons_succ]; rfl) | rfl)
                  case hQt11912 => exact fun _ _ _ h => h
                  case hwt11912 => rfl
                  case hyt11912 => ((intro w hSw; go_simp); first | done | with_reducible rfl)
                  try simp only [Act.put, List.setIfInBounds_toArray, List.set_cons_zero, List.set_cons_succ]
                  refine wpAnyH_ready (rs := [13]) (by kernel_rfl) (by simp) ?_
                  refine AllReadyH.cons (o := ?ot120) ?ht120 ?st120 AllReadyH.nil
                  case ht120 => (simp only [List.getElem?_toArray, List.getElem?_cons_zero, List.getElem?_cons_succ]; rfl)
                  case st120 =>
                    intro K hK
                    go_simp
                    obtain ⟨uq235, huq236⟩ : ∃ zz, zz = uq227.alloc (.cells #[.int .i64 D, .slice Aq192 i cq193, .slice Aq232 i cq233] 56) := ⟨_, rfl⟩
                    have Mq237 := Lib.hid (Mq234.out.alloc (.cells #[.int .i64 D, .slice Aq192 i cq193, .slice Aq232 i cq233] 56))
                    have Bq238 : Hid (Blk uq235 uq227.heap.size 56 #[.int .i64 D, .slice Aq192 i cq193, .slice Aq232 i cq233]) := Lib.hid (by rw [huq236]; exact Blk.new _ _ _)
                    rw [← huq236] at Mq237 ⊢
                    clear huq236
                    refine hK.out _ _ trivial (fun ht121 => ?_)
                    clear hK K
                    try simp only [Act.put, List.setIfInBounds_toArray, List.set_cons_zero, List.set_cons_succ]
                    refine wpAnyH_ready (rs := [14]) (by kernel_rfl) (by simp) ?_
                    refine AllReadyH.cons (o := ?ot122) ?ht122 ?st122 AllReadyH.nil
                    case ht122 => (simp only [List.getElem?_toArray, List.getElem?_cons_zero, List.getElem?_cons_succ]; rfl)
                    case st122 =>
                      intro K hK
                      refine step_append_recK _ rfl (.tmp 97) (.tmp 106) 27 rfl 0 56 i1 _ 3 56 Try.underlying27 hi1 hy0 hy1 hy2 rfl (by decide) _ N _ rfl (ownsRow_block HOW.out fun g hg => Mq237.out.hb.block g (HOW.out.lt g hg).2) ⟨uq227.heap.size, 0, none⟩ 1 1 (oneCells (D, (.slice Aq192 i cq193), (.slice Aq232 i cq233))) rfl rfl (one_cells (p := (D, (.slice Aq192 i cq193), (.slice Aq232 i cq233))) Bq238.out) (one_one _ _ _ _ _ _ _) (by unfold maxLen; omega) (by omega) (Nat.zero_le _) ?_
                      intro vq240 uq239 hwq241 hgq242 hlq243
                      have Bq246 := Lib.hid ((HBV.out.below Mq237.out.hb hbl).grown hgq242 (fun e => (HGO.out b e.symm).2 rfl))
                      have Eq247 := Lib.hid (add_done (n := i) HE.out HN.out HGB.out HGL.out HBV.out HRL.out HGO.out HRX.out Mq237.out HTL.out HSL.out (by unfold maxLen; omega) (by rw [← HD.out]; exact hd) HTF.out HSF.out (by rw [← HD.out]; exact hwq241) hgq242 hlq243)
                      obtain ⟨Aq244, cq245, rfl⟩ := own_slice hwq241
                      clear hwq241 hgq242 hlq243
                      refine hK.out _ _ trivial (fun ht123 => ?_)
                      clear hK K
                      try simp only [Act.put, List.setIfInBounds_toArray, List.set_cons_zero, List.set_cons_succ]
                      refine wpAnyH_take (i := 15) (oi := ?oit12415) (v := ?vt12415) ?hit12415 (by kernel_rfl) (by kernel_rfl) (by kernel_rfl) ?hQt12415 (Or.inl ⟨?hwt12415, ?hyt12415⟩) (by assumption) ?restt12415
                      case hit12415 => (first | (simp only [List.getElem?_toArray, List.getElem?_cons_zero, List.getElem?_cons_succ]; rfl) | rfl)
                      case hQt12415 => exact fun _ _ _ h => h
                      case hwt12415 => rfl
                      case hyt12415 => ((intro w hSw; go_simp); first | done | with_reducible rfl)
                      try simp only [Act.put, List.setIfInBounds_toArray, List.set_cons_zero, List.set_cons_succ]
                      refine wpAnyH_take (i := 16) (oi := ?oit12516) (v := ?vt12516) ?hit12516 (by kernel_rfl) (by kernel_rfl) (by kernel_rfl) ?hQt12516 (Or.inl ⟨?hwt12516, ?hyt12516⟩) (by assumption) ?restt12516
                      case hit12516 => (first | (simp only [List.getElem?_toArray, List.getElem?_cons_zero, List.getElem?_cons_succ]; rfl) | rfl)
                      case hQt12516 => exact fun _ _ _ h => h
                      case hwt12516 => rfl
                      case hyt12516 => ((intro w hSw; go_simp); first | done | with_reducible rfl)
                      try simp only [Act.put, List.setIfInBounds_toArray, List.set_cons_zero, List.set_cons_succ]
                      refine wpAnyH_ready (rs := [17]) (by kernel_rfl) (by simp) ?_
                      refine AllReadyH.cons (o := ?ot126) ?ht126 ?st126 AllReadyH.nil
                      case ht126 => (simp only [List.getElem?_toArray, List.getElem?_cons_zero, List.getElem?_cons_succ]; rfl)
                      case st126 =>
                        intro K hK
                        have yq249 := Bq246.out.cell 0
                        have zq250 := Bq246.out.frozen 0
                        simp only [List.getElem?_toArray, List.getElem?_cons_zero, List.getElem?_cons_succ] at yq249
                        go_simp
                        clear yq249 zq250
                        refine hK.out _ _ trivial (fun ht127 => ?_)
                        clear hK K
                        try simp only [Act.put, List.setIfInBounds_toArray, List.set_cons_zero, List.set_cons_succ]
                        refine wpAnyH_done (by kernel_rfl) ?_ _
                        go_wp2
                        go_ret
                        exact Eq247.out
              case st115 =>
                intro K hK
                refine step_append_src _ rfl (.tmp 102) (.tmp 103) 33 rfl w.heap.size 3 i0 (.int .i64 0) 8 Try.underlying33 hii hz0 hz1 hz2 rfl _ 0 [] rfl Mq225.out.s C i cc (x.S.map i64V) rfl (src_below HSS.out Mq225.out.hb) (i64s_one _) (by unfold maxLen; omega) (by omega) Mq225.out.hb.size ?_
                intro vq252 uq251 hwq253 hgq254 hlq255
                have Mq258 := Lib.hid (Mq225.out.growS hwq253 hgq254 hlq255)
                obtain ⟨Aq256, cq257, rfl⟩ := own_slice hwq253
                rw [Nat.zero_add, List.nil_append] at Mq258
                rw [Nat.zero_add]
                clear hwq253 hgq254 hlq255
                refine hK.out _ _ trivial (fun ht128 => ?_)
                clear hK K
                try simp only [Act.put, List.setIfInBounds_toArray, List.set_cons_zero, List.set_cons_succ]
                refine wpAnyH_take (i := 12) (oi := ?oit12912) (v := ?vt12912) ?hit12912 (by kernel_rfl) (by kernel_rfl) (by kernel_rfl) ?hQt12912 (Or.inl ⟨?hwt12912, ?hyt12912⟩) (by assumption) ?restt12912
                case hit12912 => (first | (simp only [List.getElem?_toArray, List.getElem?_cons_zero, List.getElem?_cons_succ]; rfl) | rfl)
                case hQt12912 => exact fun _ _ _ h => h
                case hwt12912 => rfl
                case hyt12912 => ((intro w hSw; go_simp); first | done | with_reducible rfl)
                try simp only [Act.put, List.setIfInBounds_toArray, List.set_cons_zero, List.set_cons_succ]
                refine wpAnyH_ready (rs := [4, 13]) (by kernel_rfl) (by simp) ?_
                refine AllReadyH.cons (o := ?ot130) ?ht130 ?st130 (AllReadyH.cons (o := ?ot131) ?ht131 ?st131 AllReadyH.nil)
                case ht130 => (simp only [List.getElem?_toArray, List.getElem?_cons_zero, List.getElem?_cons_succ]; rfl)
                case ht131 => (simp only [List.getElem?_toArray, List.getElem?_cons_zero, List.getElem?_cons_succ]; rfl)
                case st130 =>
                  intro K hK
                  have yq259 := (HBV.out.below Mq258.out.hb hbl).cell 0
                  simp only [List.getElem?_toArray, List.getElem?_cons_zero, List.getElem?_cons_succ] at yq259
                  go_simp
                  clear yq259
                  refine hK.out _ _ trivial (fun ht132 => ?_)
                  clear hK K
                  try simp only [Act.put, List.setIfInBounds_toArray, List.set_cons_zero, List.set_cons_succ]
                  refine wpAnyH_ready (rs := [13]) (by kernel_rfl) (by simp) ?_
                  refine AllReadyH.cons (o := ?ot133) ?ht133 ?st133 AllReadyH.nil
                  case ht133 => (simp only [List.getElem?_toArray, List.getElem?_cons_zero, List.getElem?_cons_succ]; rfl)
                  case st133 =>
                    intro K hK
                    go_simp
                    obtain ⟨uq260, huq261⟩ : ∃ zz, zz = uq251.alloc (.cells #[.int .i64 D, .slice Aq192 i cq193, .slice Aq256 i cq257] 56) := ⟨_, rfl⟩
                    have Mq262 := Lib.hid (Mq258.out.alloc (.cells #[.int .i64 D, .slice Aq192 i cq193, .slice Aq256 i cq257] 56))
                    have Bq263 : Hid (Blk uq260 uq251.heap.size 56 #[.int .i64 D, .slice Aq192 i cq193, .slice Aq256 i cq257]) := Lib.hid (by rw [huq261]; exact Blk.new _ _ _)
                    rw [← huq261] at Mq262 ⊢
                    clear huq261
                    refine hK.out _ _ trivial (fun ht134 => ?_)
                    clear hK K
                    try simp only [Act.put, List.setIfInBounds_toArray, List.set_cons_zero, List.set_cons_succ]
                    refine wpAnyH_ready (rs := [14]) (by kernel_rfl) (by simp) ?_
                    refine AllReadyH.cons (o := ?ot135) ?ht135 ?st135 AllReadyH.nil
                    case ht135 => (simp only [List.getElem?_toArray, List.getElem?_cons_zero, List.getElem?_cons_succ]; rfl)
                    case st135 =>
                      intro K hK
                      refine step_append_recK _ rfl (.tmp 97) (.tmp 106) 27 rfl 0 56 i1 _ 3 56 Try.underlying27 hi1 hy0 hy1 hy2 rfl (by decide) _ N _ rfl (ownsRow_block HOW.out fun g hg => Mq262.out.hb.block g (HOW.out.lt g hg).2) ⟨uq251.heap.size, 0, none⟩ 1 1 (oneCells (D, (.slice Aq192 i cq193), (.slice Aq256 i cq257))) rfl rfl (one_cells (p := (D, (.slice Aq192 i cq193), (.slice Aq256 i cq257))) Bq263.out) (one_one _ _ _ _ _ _ _) (by unfold maxLen; omega) (by omega) (Nat.zero_le _) ?_
                      intro vq265 uq264 hwq266 hgq267 hlq268
                      have Bq271 := Lib.hid ((HBV.out.below Mq262.out.hb hbl).grown hgq267 (fun e => (HGO.out b e.symm).2 rfl))
                      have Eq272 := Lib.hid (add_done (n := i) HE.out HN.out HGB.out HGL.out HBV.out HRL.out HGO.out HRX.out Mq262.out HTL.out HSL.out (by unfold maxLen; omega) (by rw [← HD.out]; exact hd) HTF.out HSF.out (by rw [← HD.out]; exact hwq266) hgq267 hlq268)
                      obtain ⟨Aq269, cq270, rfl⟩ := own_slice hwq266
                      clear hwq266 hgq267 hlq268
                      refine hK.out _ _ trivial (fun ht136 => ?_)
                      clear hK K
                      try simp only [Act.put, List.setIfInBounds_toArray, List.set_cons_zero, List.set_cons_succ]
                      refine wpAnyH_take (i := 15) (oi := ?oit13715) (v := ?vt13715) ?hit13715 (by kernel_rfl) (by kernel_rfl) (by kernel_rfl) ?hQt13715 (Or.inl ⟨?hwt13715, ?hyt13715⟩) (by assumption) ?restt13715
                      case hit13715 => (first | (simp only [List.getElem?_toArray, List.getElem?_cons_zero, List.getElem?_cons_succ]; rfl) | rfl)
                      case hQt13715 => exact fun _ _ _ h => h
                      case hwt13715 => rfl
                      case hyt13715 => ((intro w hSw; go_simp); first | done | with_reducible rfl)
                      try simp only [Act.put, List.setIfInBounds_toArray, List.set_cons_zero, List.set_cons_succ]
                      refine wpAnyH_take (i := 16) (oi := ?oit13816) (v := ?vt13816) ?hit13816 (by kernel_rfl) (by kernel_rfl) (by kernel_rfl) ?hQt13816 (Or.inl ⟨?hwt13816, ?hyt13816⟩) (by assumption) ?restt13816
                      case hit13816 => (first | (simp only [List.getElem?_toArray, List.getElem?_cons_zero, List.getElem?_cons_succ]; rfl) | rfl)
                      case hQt13816 => exact fun _ _ _ h => h
                      case hwt13816 => rfl
                      case hyt13816 => ((intro w hSw; go_simp); first | done | with_reducible rfl)
                      try simp only [Act.put, List.setIfInBounds_toArray, List.set_cons_zero, List.set_cons_succ]
                      refine wpAnyH_ready (rs := [17]) (by kernel_rfl) (by simp) ?_
                      refine AllReadyH.cons (o := ?ot139) ?ht139 ?st139 AllReadyH.nil
                      case ht139 => (simp only [List.getElem?_toArray, List.getElem?_cons_zero, List.getElem?_cons_succ]; rfl)
                      case st139 =>
                        intro K hK
                        have yq274 := Bq271.out.cell 0
                        have zq275 := Bq271.out.frozen 0
                        simp only [List.getElem?_toArray, List.getElem?_cons_zero, List.getElem?_cons_succ] at yq274
                        go_simp
                        clear yq274 zq275
                        refine hK.out _ _ trivial (fun ht140 => ?_)
                        clear hK K
                        try simp only [Act.put, List.setIfInBounds_toArray, List.set_cons_zero, List.set_cons_succ]
                        refine wpAnyH_done (by kernel_rfl) ?_ _
                        go_wp2
                        go_ret
                        exact Eq272.out
                case st131 =>
                  intro K hK
                  go_simp
                  obtain ⟨uq276, huq277⟩ : ∃ zz, zz = uq251.alloc (.cells #[.int .i64 D, .slice Aq192 i cq193, .slice Aq256 i cq257] 56) := ⟨_, rfl⟩
                  have Mq278 := Lib.hid (Mq258.out.alloc (.cells #[.int .i64 D, .slice Aq192 i cq193, .slice Aq256 i cq257] 56))
                  have Bq279 : Hid (Blk uq276 uq251.heap.size 56 #[.int .i64 D, .slice Aq192 i cq193, .slice Aq256 i cq257]) := Lib.hid (by rw [huq277]; exact Blk.new _ _ _)
                  rw [← huq277] at Mq278 ⊢
                  clear huq277
                  refine hK.out _ _ trivial (fun ht141 => ?_)
                  clear hK K
                  try simp only [Act.put, List.setIfInBounds_toArray, List.set_cons_zero, List.set_cons_succ]
                  refine wpAnyH_ready (rs := [4]) (by kernel_rfl) (by simp) ?_
                  refine AllReadyH.cons (o := ?ot142) ?ht142 ?st142 AllReadyH.nil
                  case ht142 => (simp only [List.getElem?_toArray, List.getElem?_cons_zero, List.getElem?_cons_succ]; rfl)
                  case st142 =>
                    intro K hK
                    have yq280 := (HBV.out.below Mq278.out.hb hbl).cell 0
                    simp only [List.getElem?_toArray, List.getElem?_cons_zero, List.getElem?_cons_succ] at yq280
                    go_simp
                    clear yq280
                    refine hK.out _ _ trivial (fun ht143 => ?_)
                    clear hK K
                    try simp only [Act.put, List.setIfInBounds_toArray, List.set_cons_zero, List.set_cons_succ]
                    refine wpAnyH_ready (rs := [14]) (by kernel_rfl) (by simp) ?_
                    refine AllReadyH.cons (o := ?ot144) ?ht144 ?st144 AllReadyH.nil
                    case ht144 => (simp only [List.getElem?_toArray, List.getElem?_cons_zero, List.getElem?_cons_succ]; rfl)
                    case st144 =>
                      intro K hK
                      refine step_append_recK _ rfl (.tmp 97) (.tmp 106) 27 rfl 0 56 i1 _ 3 56 Try.underlying27 hi1 hy0 hy1 hy2 rfl (by decide) _ N _ rfl (ownsRow_block HOW.out fun g hg => Mq278.out.hb.block g (HOW.out.lt g hg).2) ⟨uq251.heap.size, 0, none⟩ 1 1 (oneCells (D, (.slice Aq192 i cq193), (.slice Aq256 i cq257))) rfl rfl (one_cells (p := (D, (.slice Aq192 i cq193), (.slice Aq256 i cq257))) Bq279.out) (one_one _ _ _ _ _ _ _) (by unfold maxLen; omega) (by omega) (Nat.zero_le _) ?_
                      intro vq282 uq281 hwq283 hgq284 hlq285
                      have Bq288 := Lib.hid ((HBV.out.below Mq278.out.hb hbl).grown hgq284 (fun e => (HGO.out b e.symm).2 rfl))
                      have Eq289 := Lib.hid (add_done (n := i) HE.out HN.out HGB.out HGL.out HBV.out HRL.out HGO.out HRX.out Mq278.out HTL.out HSL.out (by unfold maxLen; omega) (by rw [← HD.out]; exact hd) HTF.out HSF.out (by rw [← HD.out]; exact hwq283) hgq284 hlq285)
                      obtain ⟨Aq286, cq287, rfl⟩ := own_slice hwq283
                      clear hwq283 hgq284 hlq285
                      refine hK.out _ _ trivial (fun ht145 => ?_)
                      clear hK K
                      try simp only [Act.put, List.setIfInBounds_toArray, List.set_cons_zero, List.set_cons_succ]
                      refine wpAnyH_take (i := 15) (oi := ?oit14615) (v := ?vt14615) ?hit14615 (by kernel_rfl) (by kernel_rfl) (by kernel_rfl) ?hQt14615 (Or.inl ⟨?hwt14615, ?hyt14615⟩) (by assumption) ?restt14615
                      case hit14615 => (first | (simp only [List.getElem?_toArray, List.getElem?_cons_zero, List.getElem?_cons_succ]; rfl) | rfl)
                      case hQt14615 => exact fun _ _ _ h => h
                      case hwt14615 => rfl
                      case hyt14615 => ((intro w hSw; go_simp); first | done | with_reducible rfl)
                      try simp only [Act.put, List.setIfInBounds_toArray, List.set_cons_zero, List.set_cons_succ]
                      refine wpAnyH_take (i := 16) (oi := ?oit14716) (v := ?vt14716) ?hit14716 (by kernel_rfl) (by kernel_rfl) (by kernel_rfl) ?hQt14716 (Or.inl ⟨?hwt14716, ?hyt14716⟩) (by assumption) ?restt14716
                      case hit14716 => (first | (simp only [List.getElem?_toArray, List.getElem?_cons_zero, List.getElem?_cons_succ]; rfl) | rfl)
                      case hQt14716 => exact fun _ _ _ h => h
                      case hwt14716 => rfl
                      case hyt14716 => ((intro w hSw; go_simp); first | done | with_reducible rfl)
                      try simp only [Act.put, List.setIfInBounds_toArray, List.set_cons_zero, List.set_cons_succ]
                      refine wpAnyH_ready (rs := [17]) (by kernel_rfl) (by simp) ?_
                      refine AllReadyH.cons (o := ?ot148) ?ht148 ?st148 AllReadyH.nil
                      case ht148 => (simp only [List.getElem?_toArray, List.getElem?_cons_zero, List.getElem?_cons_succ]; rfl)
                      case st148 =>
                        intro K hK
                        have yq291 := Bq288.out.cell 0
                        have zq292 := Bq288.out.frozen 0
                        simp only [List.getElem?_toArray, List.getElem?_cons_zero, List.getElem?_cons_succ] at yq291
                        go_simp
                        clear yq291 zq292
                        refine hK.out _ _ trivial (fun ht149 => ?_)
                        clear hK K
                        try simp only [Act.put, List.setIfInBounds_toArray, List.set_cons_zero, List.set_cons_succ]
                        refine wpAnyH_done (by kernel_rfl) ?_ _
                        go_wp2
                        go_ret
                        exact Eq289.out
          case st64 =>
            intro K hK
            go_simp
            obtain ⟨uq293, huq294⟩ : ∃ zz, zz = uq113.alloc (.cells #[] 3) := ⟨_, rfl⟩
            have Mq295 := Lib.hid (Mq115.out.newS)
            rw [← huq294] at Mq295 ⊢
            clear huq294
            refine hK.out _ _ trivial (fun ht150 => ?_)
            clear hK K
            try simp only [Act.put, List.setIfInBounds_toArray, List.set_cons_zero, List.set_cons_succ]
            refine wpAnyH_ready (rs := [4, 8]) (by kernel_rfl) (by simp) ?_
            refine AllReadyH.cons (o := ?ot151) ?ht151 ?st151 (AllReadyH.cons (o := ?ot152) ?ht152 ?st152 AllReadyH.nil)
            case ht151 => (simp only [List.getElem?_toArray, List.getElem?_cons_zero, List.getElem?_cons_succ]; rfl)
            case ht152 => (simp only [List.getElem?_toArray, List.getElem?_cons_zero, List.getElem?_cons_succ]; rfl)
            case st151 =>
              intro K hK
              have yq296 := (HBV.out.below Mq295.out.hb hbl).cell 0
              simp only [List.getElem?_toArray, List.getElem?_cons_zero, List.getElem?_cons_succ] at yq296
              go_simp
              clear yq296
              refine hK.out _ _ trivial (fun ht153 => ?_)
              clear hK K
              try simp only [Act.put, List.setIfInBounds_toArray, List.set_cons_zero, List.set_cons_succ]
              refine wpAnyH_ready (rs := [8]) (by kernel_rfl) (by simp) ?_
              refine AllReadyH.cons (o := ?ot154) ?ht154 ?st154 AllReadyH.nil
              case ht154 => (simp only [List.getElem?_toArray, List.getElem?_cons_zero, List.getElem?_cons_succ]; rfl)
              case st154 =>
                intro K hK
                refine step_append_src _ rfl (.tmp 99) (.tmp 100) 33 rfl w.heap.size 3 i0 (.int .i64 0) 8 Try.underlying33 hii hz0 hz1 hz2 rfl _ 0 [] rfl Mq295.out.t A i c (x.T.map i64V) rfl (src_below HTS.out Mq295.out.hb) (i64s_one _) (by unfold maxLen; omega) (by omega) Mq295.out.hb.size ?_
                intro vq298 uq297 hwq299 hgq300 hlq301
                have Mq304 := Lib.hid (Mq295.out.growT hwq299 hgq300 hlq301)
                obtain ⟨Aq302, cq303, rfl⟩ := own_slice hwq299
                rw [Nat.zero_add, List.nil_append] at Mq304
                rw [Nat.zero_add]
                clear hwq299 hgq300 hlq301
                refine hK.out _ _ trivial (fun ht155 => ?_)
                clear hK K
                try simp only [Act.put, List.setIfInBounds_toArray, List.set_cons_zero, List.set_cons_succ]
                refine wpAnyH_ready (rs := [11]) (by kernel_rfl) (by simp) ?_
                refine AllReadyH.cons (o := ?ot156) ?ht156 ?st156 AllReadyH.nil
                case ht156 => (simp only [List.getElem?_toArray, List.getElem?_cons_zero, List.getElem?_cons_succ]; rfl)
                case st156 =>
                  intro K hK
                  refine step_append_src _ rfl (.tmp 102) (.tmp 103) 33 rfl w.heap.size 3 i0 (.int .i64 0) 8 Try.underlying33 hii hz0 hz1 hz2 rfl _ 0 [] rfl Mq304.out.s C i cc (x.S.map i64V) rfl (src_below HSS.out Mq304.out.hb) (i64s_one _) (by unfold maxLen; omega) (by omega) Mq304.out.hb.size ?_
                  intro vq306 uq305 hwq307 hgq308 hlq309
                  have Mq312 := Lib.hid (Mq304.out.growS hwq307 hgq308 hlq309)
                  obtain ⟨Aq310, cq311, rfl⟩ := own_slice hwq307
                  rw [Nat.zero_add, List.nil_append] at Mq312
                  rw [Nat.zero_add]
                  clear hwq307 hgq308 hlq309
                  refine hK.out _ _ trivial (fun ht157 => ?_)
                  clear hK K
                  try simp only [Act.put, List.setIfInBounds_toArray, List.set_cons_zero, List.set_cons_succ]
                  refine wpAnyH_take (i := 12) (oi := ?oit15812) (v := ?vt15812) ?hit15812 (by kernel_rfl) (by kernel_rfl) (by kernel_rfl) ?hQt15812 (Or.inl ⟨?hwt15812, ?hyt15812⟩) (by assumption) ?restt15812
                  case hit15812 => (first | (simp only [List.getElem?_toArray, List.getElem?_cons_zero, List.getElem?_cons_succ]; rfl) | rfl)
                  case hQt15812 => exact fun _ _ _ h => h
                  case hwt15812 => rfl
                  case hyt15812 => ((intro w hSw; go_simp); first | done | with_reducible rfl)
                  try simp only [Act.put, List.setIfInBounds_toArray, List.set_cons_zero, List.set_cons_succ]
                  refine wpAnyH_ready (rs := [13]) (by kernel_rfl) (by simp) ?_
                  refine AllReadyH.cons (o := ?ot159) ?ht159 ?st159 AllReadyH.nil
                  case ht159 => (simp only [List.getElem?_toArray, List.getElem?_cons_zero, List.getElem?_cons_succ]; rfl)
                  case st159 =>
                    intro K hK
                    go_simp
                    obtain ⟨uq313, huq314⟩ : ∃ zz, zz = uq305.alloc (.cells #[.int .i64 D, .slice Aq302 i cq303, .slice Aq310 i cq311] 56) := ⟨_, rfl⟩
                    have Mq315 := Lib.hid (Mq312.out.alloc (.cells #[.int .i64 D, .slice Aq302 i cq303, .slice Aq310 i cq311] 56))
                    have Bq316 : Hid (Blk uq313 uq305.heap.size 56 #[.int .i64 D, .slice Aq302 i cq303, .slice Aq310 i cq311]) := Lib.hid (by rw [huq314]; exact Blk.new _ _ _)
                    rw [← huq314] at Mq315 ⊢
                    clear huq314
                    refine hK.out _ _ trivial (fun ht160 => ?_)
                    clear hK K
                    try simp only [Act.put, List.setIfInBounds_toArray, List.set_cons_zero, List.set_cons_succ]
                    refine wpAnyH_ready (rs := [14]) (by kernel_rfl) (by simp) ?_
                    refine AllReadyH.cons (o := ?ot161) ?ht161 ?st161 AllReadyH.nil
                    case ht161 => (simp only [List.getElem?_toArray, List.getElem?_cons_zero, List.getElem?_cons_succ]; rfl)
                    case st161 =>
                      intro K hK
                      refine step_append_recK _ rfl (.tmp 97) (.tmp 106) 27 rfl 0 56 i1 _ 3 56 Try.underlying27 hi1 hy0 hy1 hy2 rfl (by decide) _ N _ rfl (ownsRow_block HOW.out fun g hg => Mq315.out.hb.block g (HOW.out.lt g hg).2) ⟨uq305.heap.size, 0, none⟩ 1 1 (oneCells (D, (.slice Aq302 i cq303), (.slice Aq310 i cq311))) rfl rfl (one_cells (p := (D, (.slice Aq302 i cq303), (.slice Aq310 i cq311))) Bq316.out) (one_one _ _ _ _ _ _ _) (by unfold maxLen; omega) (by omega) (Nat.zero_le _) ?_
                      intro vq318 uq317 hwq319 hgq320 hlq321
                      have Bq324 := Lib.hid ((HBV.out.below Mq315.out.hb hbl).grown hgq320 (fun e => (HGO.out b e.symm).2 rfl))
                      have Eq325 := Lib.hid (add_done (n := i) HE.out HN.out HGB.out HGL.out HBV.out HRL.out HGO.out HRX.out Mq315.out HTL.out HSL.out (by unfold maxLen; omega) (by rw [← HD.out]; exact hd) HTF.out HSF.out (by rw [← HD.out]; exact hwq319) hgq320 hlq321)
                      obtain ⟨Aq322, cq323, rfl⟩ := own_slice hwq319
                      clear hwq319 hgq320 hlq321
                      refine hK.out _ _ trivial (fun ht162 => ?_)
                      clear hK K
                      try simp only [Act.put, List.setIfInBounds_toArray, List.set_cons_zero, List.set_cons_succ]
                      refine wpAnyH_take (i := 15) (oi := ?oit16315) (v := ?vt16315) ?hit16315 (by kernel_rfl) (by kernel_rfl) (by kernel_rfl) ?hQt16315 (Or.inl ⟨?hwt16315, ?hyt16315⟩) (by assumption) ?restt16315
                      case hit16315 => (first | (simp only [List.getElem?_toArray, List.getElem?_cons_zero, List.getElem?_cons_succ]; rfl) | rfl)
                      case hQt16315 => exact fun _ _ _ h => h
                      case hwt16315 => rfl
                      case hyt16315 => ((intro w hSw; go_simp); first | done | with_reducible rfl)
                      try simp only [Act.put, List.setIfInBounds_toArray, List.set_cons_zero, List.set_cons_succ]
                      refine wpAnyH_take (i := 16) (oi := ?oit16416) (v := ?vt16416) ?hit16416 (by kernel_rfl) (by kernel_rfl) (by kernel_rfl) ?hQt16416 (Or.inl ⟨?hwt16416, ?hyt16416⟩) (by assumption) ?restt16416
                      case hit16416 => (first | (simp only [List.getElem?_toArray, List.getElem?_cons_zero, List.getElem?_cons_succ]; rfl) | rfl)
                      case hQt16416 => exact fun _ _ _ h => h
                      case hwt16416 => rfl
                      case hyt16416 => ((intro w hSw; go_simp); first | done | with_reducible rfl)
                      try simp only [Act.put, List.setIfInBounds_toArray, List.set_cons_zero, List.set_cons_succ]
                      refine wpAnyH_ready (rs := [17]) (by kernel_rfl) (by simp) ?_
                      refine AllReadyH.cons (o := ?ot165) ?ht165 ?st165 AllReadyH.nil
                      case ht165 => (simp only [List.getElem?_toArray, List.getElem?_cons_zero, List.getElem?_cons_succ]; rfl)
                      case st165 =>
                        intro K hK
                        have yq327 := Bq324.out.cell 0
                        have zq328 := Bq324.out.frozen 0
                        simp only [List.getElem?_toArray, List.getElem?_cons_zero, List.getElem?_cons_succ] at yq327
                        go_simp
                        clear yq327 zq328
                        refine hK.out _ _ trivial (fun ht166 => ?_)
                        clear hK K
                        try simp only [Act.put, List.setIfInBounds_toArray, List.set_cons_zero, List.set_cons_succ]
                        refine wpAnyH_done (by kernel_rfl) ?_ _
                        go_wp2
                        go_ret
                        exact Eq325.out
            case st152 =>
              intro K hK
              refine step_append_src _ rfl (.tmp 99) (.tmp 100) 33 rfl w.heap.size 3 i0 (.int .i64 0) 8 Try.underlying33 hii hz0 hz1 hz2 rfl _ 0 [] rfl Mq295.out.t A i c (x.T.map i64V) rfl (src_below HTS.out Mq295.out.hb) (i64s_one _) (by unfold maxLen; omega) (by omega) Mq295.out.hb.size ?_
              intro vq330 uq329 hwq331 hgq332 hlq333
              have Mq336 := Lib.hid (Mq295.out.growT hwq331 hgq332 hlq333)
              obtain ⟨Aq334, cq335, rfl⟩ := own_slice hwq331
              rw [Nat.zero_add, List.nil_append] at Mq336
              rw [Nat.zero_add]
              clear hwq331 hgq332 hlq333
              refine hK.out _ _ trivial (fun ht167 => ?_)
              clear hK K
              try simp only [Act.put, List.setIfInBounds_toArray, List.set_cons_zero, List.set_cons_succ]
              refine wpAnyH_ready (rs := [4, 11]) (by kernel_rfl) (by simp) ?_
              refine AllReadyH.cons (o := ?ot168) ?ht168 ?st168 (AllReadyH.cons (o := ?ot169) ?ht169 ?st169 AllReadyH.nil)
              case ht168 => (simp only [List.getElem?_toArray, List.getElem?_cons_zero, List.getElem?_cons_succ]; rfl)
              case ht169 => (simp only [List.getElem?_toArray, List.getElem?_cons_zero, List.getElem?_cons_succ]; rfl)
              case st168 =>
                intro K hK
                have yq337 := (HBV.out.below Mq336.out.hb hbl).cell 0
                simp only [List.getElem?_toArray, List.getElem?_cons_zero, List.getElem?_cons_succ] at yq337
                go_simp
                clear yq337
                refine hK.out _ _ trivial (fun ht170 => ?_)
                clear hK K
                try simp only [Act.put, List.setIfInBounds_toArray, List.set_cons_zero, List.set_cons_succ]
                refine wpAnyH_ready (rs := [11]) (by kernel_rfl) (by simp) ?_
                refine AllReadyH.cons (o := ?ot171) ?ht171 ?st171 AllReadyH.nil
                case ht171 => (simp only [List.getElem?_toArray, List.getElem?_cons_zero, List.getElem?_cons_succ]; rfl)
                case st171 =>
                  intro K hK
                  refine step_append_src _ rfl (.tmp 102) (.tmp 103) 33 rfl w.heap.size 3 i0 (.int .i64 0) 8 Try.underlying33 hii hz0 hz1 hz2 rfl _ 0 [] rfl Mq336.out.s C i cc (x.S.map i64V) rfl (src_below HSS.out Mq336.out.hb) (i64s_one _) (by unfold maxLen; omega) (by omega) Mq336.out.hb.size ?_
                  intro vq339 uq338 hwq340 hgq341 hlq342
                  have Mq345 := Lib.hid (Mq336.out.growS hwq340 hgq341 hlq342)
                  obtain ⟨Aq343, cq344, rfl⟩ := own_slice hwq340
                  rw [Nat.zero_add, List.nil_append] at Mq345
                  rw [Nat.zero_add]
                  clear hwq340 hgq341 hlq342
                  refine hK.out _ _ trivial (fun ht172 => ?_)
                  clear hK K
                  try simp only [Act.put, List.setIfInBounds_toArray, List.set_cons_zero, List.set_cons_succ]
                  refine wpAnyH_take (i := 12) (oi := ?oit17312) (v := ?vt17312) ?hit17312 (by kernel_rfl) (by kernel_rfl) (by kernel_rfl) ?hQt17312 (Or.inl ⟨?hwt17312, ?hyt17312⟩) (by assumption) ?restt17312
                  case hit17312 => (first | (simp only [List.getElem?_toArray, List.getElem?_cons_zero, List.getElem?_cons_succ]; rfl) | rfl)
                  case hQt17312 => exact fun _ _ _ h => h
                  case hwt17312 => rfl
                  case hyt17312 => ((intro w hSw; go_simp); first | done | with_reducible rfl)
                  try simp only [Act.put, List.setIfInBounds_toArray, List.set_cons_zero, List.set_cons_succ]
                  refine wpAnyH_ready (rs := [13]) (by kernel_rfl) (by simp) ?_
                  refine AllReadyH.cons (o := ?ot174) ?ht174 ?st174 AllReadyH.nil
                  case ht174 => (simp only [List.getElem?_toArray, List.getElem?_cons_zero, List.getElem?_cons_succ]; rfl)
                  case st174 =>
                    intro K hK
                    go_simp
                    obtain ⟨uq346, huq347⟩ : ∃ zz, zz = uq338.alloc (.cells #[.int .i64 D, .slice Aq334 i cq335, .slice Aq343 i cq344] 56) := ⟨_, rfl⟩
                    have Mq348 := Lib.hid (Mq345.out.alloc (.cells #[.int .i64 D, .slice Aq334 i cq335, .slice Aq343 i cq344] 56))
                    have Bq349 : Hid (Blk uq346 uq338.heap.size 56 #[.int .i64 D, .slice Aq334 i cq335, .slice Aq343 i cq344]) := Lib.hid (by rw [huq347]; exact Blk.new _ _ _)
                    rw [← huq347] at Mq348 ⊢
                    clear huq347
                    refine hK.out _ _ trivial (fun ht175 => ?_)
                    clear hK K
                    try simp only [Act.put, List.setIfInBounds_toArray, List.set_cons_zero, List.set_cons_succ]
                    refine wpAnyH_ready (rs := [14]) (by kernel_rfl) (by simp) ?_
                    refine AllReadyH.cons (o := ?ot176) ?ht176 ?st176 AllReadyH.nil
                    case ht176 => (simp only [List.getElem?_toArray, List.getElem?_cons_zero, List.getElem?_cons_succ]; rfl)
                    case st176 =>
                      intro K hK
                      refine step_append_recK _ rfl (.tmp 97) (.tmp 106) 27 rfl 0 56 i1 _ 3 56 Try.underlying27 hi1 hy0 hy1 hy2 rfl (by decide) _ N _ rfl (ownsRow_block HOW.out fun g hg => Mq348.out.hb.block g (HOW.out.lt g hg).2) ⟨uq338.heap.size, 0, none⟩ 1 1 (oneCells (D, (.slice Aq334 i cq335), (.slice Aq343 i cq344))) rfl rfl (one_cells (p := (D, (.slice Aq334 i cq335), (.slice Aq343 i cq344))) Bq349.out) (one_one _ _ _ _ _ _ _) (by unfold maxLen; omega) (by omega) (Nat.zero_le _) ?_
                      intro vq351 uq350 hwq352 hgq353 hlq354
                      have Bq357 := Lib.hid ((HBV.out.below Mq348.out.hb hbl).grown hgq353 (fun e => (HGO.out b e.symm).2 rfl))
                      have Eq358 := Lib.hid (add_done (n := i) HE.out HN.out HGB.out HGL.out HBV.out HRL.out HGO.out HRX.out Mq348.out HTL.out HSL.out (by unfold maxLen; omega) (by rw [← HD.out]; exact hd) HTF.out HSF.out (by rw [← HD.out]; exact hwq352) hgq353 hlq354)
                      obtain ⟨Aq355, cq356, rfl⟩ := own_slice hwq352
                      clear hwq352 hgq353 hlq354
                      refine hK.out _ _ trivial (fun ht177 => ?_)
                      clear hK K
                      try simp only [Act.put, List.setIfInBounds_toArray, List.set_cons_zero, List.set_cons_succ]
                      refine wpAnyH_take (i := 15) (oi := ?oit17815) (v := ?vt17815) ?hit17815 (by kernel_rfl) (by kernel_rfl) (by kernel_rfl) ?hQt17815 (Or.inl ⟨?hwt17815, ?hyt17815⟩) (by assumption) ?restt17815
                      case hit17815 => (first | (simp only [List.getElem?_toArray, List.getElem?_cons_zero, List.getElem?_cons_succ]; rfl) | rfl)
                      case hQt17815 => exact fun _ _ _ h => h
                      case hwt17815 => rfl
                      case hyt17815 => ((intro w hSw; go_simp); first | done | with_reducible rfl)
                      try simp only [Act.put, List.setIfInBounds_toArray, List.set_cons_zero, List.set_cons_succ]
                      refine wpAnyH_take (i := 16) (oi := ?oit17916) (v := ?vt17916) ?hit17916 (by kernel_rfl) (by kernel_rfl) (by kernel_rfl) ?hQt17916 (Or.inl ⟨?hwt17916, ?hyt17916⟩) (by assumption) ?restt17916
                      case hit17916 => (first | (simp only [List.getElem?_toArray, List.getElem?_cons_zero, List.getElem?_cons_succ]; rfl) | rfl)
                      case hQt17916 => exact fun _ _ _ h => h
                      case hwt17916 => rfl
                      case hyt17916 => ((intro w hSw; go_simp); first | done | with_reducible rfl)
                      try simp only [Act.put, List.setIfInBounds_toArray, List.set_cons_zero, List.set_cons_succ]
                      refine wpAnyH_ready (rs := [17]) (by kernel_rfl) (by simp) ?_
                      refine AllReadyH.cons (o := ?ot180) ?ht180 ?st180 AllReadyH.nil
                      case ht180 => (simp only [List.getElem?_toArray, List.getElem?_cons_zero, List.getElem?_cons_succ]; rfl)
                      case st180 =>
                        intro K hK
                        have yq360 := Bq357.out.cell 0
                        have zq361 := Bq357.out.frozen 0
                        simp only [List.getElem?_toArray, List.getElem?_cons_zero, List.getElem?_cons_succ] at yq360
                        go_simp
                        clear yq360 zq361
                        refine hK.out _ _ trivial (fun ht181 => ?_)
                        clear hK K
                        try simp only [Act.put, List.setIfInBounds_toArray, List.set_cons_zero, List.set_cons_succ]
                        refine wpAnyH_done (by kernel_rfl) ?_ _
                        go_wp2
                        go_ret
                        exact Eq358.out
              case st169 =>
                intro K hK
                refine step_append_src _ rfl (.tmp 102) (.tmp 103) 33 rfl w.heap.size 3 i0 (.int .i64 0) 8 Try.underlying33 hii hz0 hz1 hz2 rfl _ 0 [] rfl Mq336.out.s C i cc (x.S.map i64V) rfl (src_below HSS.out Mq336.out.hb) (i64s_one _) (by unfold maxLen; omega) (by omega) Mq336.out.hb.size ?_
                intro vq363 uq362 hwq364 hgq365 hlq366
                have Mq369 := Lib.hid (Mq336.out.growS hwq364 hgq365 hlq366)
                obtain ⟨Aq367, cq368, rfl⟩ := own_slice hwq364
                rw [Nat.zero_add, List.nil_append] at Mq369
                rw [Nat.zero_add]
                clear hwq364 hgq365 hlq366
                refine hK.out _ _ trivial (fun ht182 => ?_)
                clear hK K
                try simp only [Act.put, List.setIfInBounds_toArray, List.set_cons_zero, List.set_cons_succ]
                refine wpAnyH_take (i := 12) (oi := ?oit18312) (v := ?vt18312) ?hit18312 (by kernel_rfl) (by kernel_rfl) (by kernel_rfl) ?hQt18312 (Or.inl ⟨?hwt18312, ?hyt18312⟩) (by assumption) ?restt18312
                case hit18312 => (first | (simp only [List.getElem?_toArray, List.getElem?_cons_zero, List.getElem?_cons_succ]; rfl) | rfl)
                case hQt18312 => exact fun _ _ _ h => h
                case hwt18312 => rfl
                case hyt18312 => ((intro w hSw; go_simp); first | done | with_reducible rfl)
                try simp only [Act.put, List.setIfInBounds_toArray, List.set_cons_zero, List.set_cons_succ]
                refine wpAnyH_ready (rs := [4, 13]) (by kernel_rfl) (by simp) ?_
                refine AllReadyH.cons (o := ?ot184) ?ht184 ?st184 (AllReadyH.cons (o := ?ot185) ?ht185 ?st185 AllReadyH.nil)
                case ht184 => (simp only [List.getElem?_toArray, List.getElem?_cons_zero, List.getElem?_cons_succ]; rfl)
                case ht185 => (simp only [List.getElem?_toArray, List.getElem?_cons_zero, List.getElem?_cons_succ]; rfl)
                case st184 =>
                  intro K hK
                  have yq370 := (HBV.out.below Mq369.out.hb hbl).cell 0
                  simp only [List.getElem?_toArray, List.getElem?_cons_zero, List.getElem?_cons_succ] at yq370
                  go_simp
                  clear yq370
                  refine hK.out _ _ trivial (fun ht186 => ?_)
                  clear hK K
                  try simp only [Act.put, List.setIfInBounds_toArray, List.set_cons_zero, List.set_cons_succ]
                  refine wpAnyH_ready (rs := [13]) (by kernel_rfl) (by simp) ?_
                  refine AllReadyH.cons (o := ?ot187) ?ht187 ?st187 AllReadyH.nil
                  case ht187 => (simp only [List.getElem?_toArray, List.getElem?_cons_zero, List.getElem?_cons_succ]; rfl)
                  case st187 =>
                    intro K hK
                    go_simp
                    obtain ⟨uq371, huq372⟩ : ∃ zz, zz = uq362.alloc (.cells #[.int .i64 D, .slice Aq334 i cq335, .slice Aq367 i cq368] 56) := ⟨_, rfl⟩
                    have Mq373 := Lib.hid (Mq369.out.alloc (.cells #[.int .i64 D, .slice Aq334 i cq335, .slice Aq367 i cq368] 56))
                    have Bq374 : Hid (Blk uq371 uq362.heap.size 56 #[.int .i64 D, .slice Aq334 i cq335, .slice Aq367 i cq368]) := Lib.hid (by rw [huq372]; exact Blk.new _ _ _)
                    rw [← huq372] at Mq373 ⊢
                    clear huq372
                    refine hK.out _ _ trivial (fun ht188 => ?_)
                    clear hK K
                    try simp only [Act.put, List.setIfInBounds_toArray, List.set_cons_zero, List.set_cons_succ]
                    refine wpAnyH_ready (rs := [14]) (by kernel_rfl) (by simp) ?_
                    refine AllReadyH.cons (o := ?ot189) ?ht189 ?st189 AllReadyH.nil
                    case ht189 => (simp only [List.getElem?_toArray, List.getElem?_cons_zero, List.getElem?_cons_succ]; rfl)
                    case st189 =>
                      intro K hK
                      refine step_append_recK _ rfl (.tmp 97) (.tmp 106) 27 rfl 0 56 i1 _ 3 56 Try.underlying27 hi1 hy0 hy1 hy2 rfl (by decide) _ N _ rfl (ownsRow_block HOW.out fun g hg => Mq373.out.hb.block g (HOW.out.lt g hg).2) ⟨uq362.heap.size, 0, none⟩ 1 1 (oneCells (D, (.slice Aq334 i cq335), (.slice Aq367 i cq368))) rfl rfl (one_cells (p := (D, (.slice Aq334 i cq335), (.slice Aq367 i cq368))) Bq374.out) (one_one _ _ _ _ _ _ _) (by unfold maxLen; omega) (by omega) (Nat.zero_le _) ?_
                      intro vq376 uq375 hwq377 hgq378 hlq379
                      have Bq382 := Lib.hid ((HBV.out.below Mq373.out.hb hbl).grown hgq378 (fun e => (HGO.out b e.symm).2 rfl))
                      have Eq383 := Lib.hid (add_done (n := i) HE.out HN.out HGB.out HGL.out HBV.out HRL.out HGO.out HRX.out Mq373.out HTL.out HSL.out (by unfold maxLen; omega) (by rw [← HD.out]; exact hd) HTF.out HSF.out (by rw [← HD.out]; exact hwq377) hgq378 hlq379)
                      obtain ⟨Aq380, cq381, rfl⟩ := own_slice hwq377
                      clear hwq377 hgq378 hlq379
                      refine hK.out _ _ trivial (fun ht190 => ?_)
                      clear hK K
                      try simp only [Act.put, List.setIfInBounds_toArray, List.set_cons_zero, List.set_cons_succ]
                      refine wpAnyH_take (i := 15) (oi := ?oit19115) (v := ?vt19115) ?hit19115 (by kernel_rfl) (by kernel_rfl) (by kernel_rfl) ?hQt19115 (Or.inl ⟨?hwt19115, ?hyt19115⟩) (by assumption) ?restt19115
                      case hit19115 => (first | (simp only [List.getElem?_toArray, List.getElem?_cons_zero, List.getElem?_cons_succ]; rfl) | rfl)
                      case hQt19115 => exact fun _ _ _ h => h
                      case hwt19115 => rfl
                      case hyt19115 => ((intro w hSw; go_simp); first | done | with_reducible rfl)
                      try simp only [Act.put, List.setIfInBounds_toArray, List.set_cons_zero, List.set_cons_succ]
                      refine wpAnyH_take (i := 16) (oi := ?oit19216) (v := ?vt19216) ?hit19216 (by kernel_rfl) (by kernel_rfl) (by kernel_rfl) ?hQt19216 (Or.inl ⟨?hwt19216, ?hyt19216⟩) (by assumption) ?restt19216
                      case hit19216 => (first | (simp only [List.getElem?_toArray, List.getElem?_cons_zero, List.getElem?_cons_succ]; rfl) | rfl)
                      case hQt19216 => exact fun _ _ _ h => h
                      case hwt19216 => rfl
                      case hyt19216 => ((intro w hSw; go_simp); first | done | with_reducible rfl)
                      try simp only [Act.put, List.setIfInBounds_toArray, List.set_cons_zero, List.set_cons_succ]
                      refine wpAnyH_ready (rs := [17]) (by kernel_rfl) (by simp) ?_
                      refine AllReadyH.cons (o := ?ot193) ?ht193 ?st193 AllReadyH.nil
                      case ht193 => (simp only [List.getElem?_toArray, List.getElem?_cons_zero, List.getElem?_cons_succ]; rfl)
                      case st193 =>
                        intro K hK
                        have yq385 := Bq382.out.cell 0
                        have zq386 := Bq382.out.frozen 0
                        simp only [List.getElem?_toArray, List.getElem?_cons_zero, List.getElem?_cons_succ] at yq385
                        go_simp
                        clear yq385 zq386
                        refine hK.out _ _ trivial (fun ht194 => ?_)
                        clear hK K
                        try simp only [Act.put, List.setIfInBounds_toArray, List.set_cons_zero, List.set_cons_succ]
                        refine wpAnyH_done (by kernel_rfl) ?_ _
                        go_wp2
                        go_ret
                        exact Eq383.out
                case st185 =>
                  intro K hK
                  go_simp
                  obtain ⟨uq387, huq388⟩ : ∃ zz, zz = uq362.alloc (.cells #[.int .i64 D, .slice Aq334 i cq335, .slice Aq367 i cq368] 56) := ⟨_, rfl⟩
                  have Mq389 := Lib.hid (Mq369.out.alloc (.cells #[.int .i64 D, .slice Aq334 i cq335, .slice Aq367 i cq368] 56))
                  have Bq390 : Hid (Blk uq387 uq362.heap.size 56 #[.int .i64 D, .slice Aq334 i cq335, .slice Aq367 i cq368]) := Lib.hid (by rw [huq388]; exact Blk.new _ _ _)
                  rw [← huq388] at Mq389 ⊢
                  clear huq388
                  refine hK.out _ _ trivial (fun ht195 => ?_)
                  clear hK K
                  try simp only [Act.put, List.setIfInBounds_toArray, List.set_cons_zero, List.set_cons_succ]
                  refine wpAnyH_ready (rs := [4]) (by kernel_rfl) (by simp) ?_
                  refine AllReadyH.cons (o := ?ot196) ?ht196 ?st196 AllReadyH.nil
                  case ht196 => (simp only [List.getElem?_toArray, List.getElem?_cons_zero, List.getElem?_cons_succ]; rfl)
                  case st196 =>
                    intro K hK
                    have yq391 := (HBV.out.below Mq389.out.hb hbl).cell 0
                    simp only [List.getElem?_toArray, List.getElem?_cons_zero, List.getElem?_cons_succ] at yq391
                    go_simp
                    clear yq391
                    refine hK.out _ _ trivial (fun ht197 => ?_)
                    clear hK K
                    try simp only [Act.put, List.setIfInBounds_toArray, List.set_cons_zero, List.set_cons_succ]
                    refine wpAnyH_ready (rs := [14]) (by kernel_rfl) (by simp) ?_
                    refine AllReadyH.cons (o := ?ot198) ?ht198 ?st198 AllReadyH.nil
                    case ht198 => (simp only [List.getElem?_toArray, List.getElem?_cons_zero, List.getElem?_cons_succ]; rfl)
                    case st198 =>
                      intro K hK
                      refine step_append_recK _ rfl (.tmp 97) (.tmp 106) 27 rfl 0 56 i1 _ 3 56 Try.underlying27 hi1 hy0 hy1 hy2 rfl (by decide) _ N _ rfl (ownsRow_block HOW.out fun g hg => Mq389.out.hb.block g (HOW.out.lt g hg).2) ⟨uq362.heap.size, 0, none⟩ 1 1 (oneCells (D, (.slice Aq334 i cq335), (.slice Aq367 i cq368))) rfl rfl (one_cells (p := (D, (.slice Aq334 i cq335), (.slice Aq367 i cq368))) Bq390.out) (one_one _ _ _ _ _ _ _) (by unfold maxLen; omega) (by omega) (Nat.zero_le _) ?_
                      intro vq393 uq392 hwq394 hgq395 hlq396
                      have Bq399 := Lib.hid ((HBV.out.below Mq389.out.hb hbl).grown hgq395 (fun e => (HGO.out b e.symm).2 rfl))
                      have Eq400 := Lib.hid (add_done (n := i) HE.out HN.out HGB.out HGL.out HBV.out HRL.out HGO.out HRX.out Mq389.out HTL.out HSL.out (by unfold maxLen; omega) (by rw [← HD.out]; exact hd) HTF.out HSF.out (by rw [← HD.out]; exact hwq394) hgq395 hlq396)
                      obtain ⟨Aq397, cq398, rfl⟩ := own_slice hwq394
                      clear hwq394 hgq395 hlq396
                      refine hK.out _ _ trivial (fun ht199 => ?_)
                      clear hK K
                      try simp only [Act.put, List.setIfInBounds_toArray, List.set_cons_zero, List.set_cons_succ]
                      refine wpAnyH_take (i := 15) (oi := ?oit20015) (v := ?vt20015) ?hit20015 (by kernel_rfl) (by kernel_rfl) (by kernel_rfl) ?hQt20015 (Or.inl ⟨?hwt20015, ?hyt20015⟩) (by assumption) ?restt20015
                      case hit20015 => (first | (simp only [List.getElem?_toArray, List.getElem?_cons_zero, List.getElem?_cons_succ]; rfl) | rfl)
                      case hQt20015 => exact fun _ _ _ h => h
                      case hwt20015 => rfl
                      case hyt20015 => ((intro w hSw; go_simp); first | done | with_reducible rfl)
                      try simp only [Act.put, List.setIfInBounds_toArray, List.set_cons_zero, List.set_cons_succ]
                      refine wpAnyH_take (i := 16) (oi := ?oit20116) (v := ?vt20116) ?hit20116 (by kernel_rfl) (by kernel_rfl) (by kernel_rfl) ?hQt20116 (Or.inl ⟨?hwt20116, ?hyt20116⟩) (by assumption) ?restt20116
                      case hit20116 => (first | (simp only [List.getElem?_toArray, List.getElem?_cons_zero, List.getElem?_cons_succ]; rfl) | rfl)
                      case hQt20116 => exact fun _ _ _ h => h
                      case hwt20116 => rfl
                      case hyt20116 => ((intro w hSw; go_simp); first | done | with_reducible rfl)
                      try simp only [Act.put, List.setIfInBounds_toArray, List.set_cons_zero, List.set_cons_succ]
                      refine wpAnyH_ready (rs := [17]) (by kernel_rfl) (by simp) ?_
                      refine AllReadyH.cons (o := ?ot202) ?ht202 ?st202 AllReadyH.nil
                      case ht202 => (simp only [List.getElem?_toArray, List.getElem?_cons_zero, List.getElem?_cons_succ]; rfl)
                      case st202 =>
                        intro K hK
                        have yq402 := Bq399.out.cell 0
                        have zq403 := Bq399.out.frozen 0
                        simp only [List.getElem?_toArray, List.getElem?_cons_zero, List.getElem?_cons_succ] at yq402
                        go_simp
                        clear yq402 zq403
                        refine hK.out _ _ trivial (fun ht203 => ?_)
                        clear hK K
                        try simp only [Act.put, List.setIfInBounds_toArray, List.set_cons_zero, List.set_cons_succ]
                        refine wpAnyH_done (by kernel_rfl) ?_ _
                        go_wp2
                        go_ret
                        exact Eq400.out
        case st10 =>
          intro K hK
          go_simp
          obtain ⟨uq404, huq405⟩ : ∃ zz, zz = u0.alloc (.cells #[] 3) := ⟨_, rfl⟩
          have Mq406 := Lib.hid (HM0.out.newS)
          rw [← huq405] at Mq406 ⊢
          clear huq405
          refine hK.out _ _ trivial (fun ht204 => ?_)
          clear hK K
          try simp only [Act.put, List.setIfInBounds_toArray, List.set_cons_zero, List.set_cons_succ]
          refine wpAnyH_ready (rs := [4, 6]) (by kernel_rfl) (by simp) ?_
          refine AllReadyH.cons (o := ?ot205) ?ht205 ?st205 (AllReadyH.cons (o := ?ot206) ?ht206 ?st206 AllReadyH.nil)
          case ht205 => (simp only [List.getElem?_toArray, List.getElem?_cons_zero, List.getElem?_cons_succ]; rfl)
          case ht206 => (simp only [List.getElem?_toArray, List.getElem?_cons_zero, List.getElem?_cons_succ]; rfl)
          case st205 =>
            intro K hK
            have yq407 := (HBV.out.below Mq406.out.hb hbl).cell 0
            simp only [List.getElem?_toArray, List.getElem?_cons_zero, List.getElem?_cons_succ] at yq407
            go_simp
            clear yq407
            refine hK.out _ _ trivial (fun ht207 => ?_)
            clear hK K
            try simp only [Act.put, List.setIfInBounds_toArray, List.set_cons_zero, List.set_cons_succ]
            refine wpAnyH_ready (rs := [6]) (by kernel_rfl) (by simp) ?_
            refine AllReadyH.cons (o := ?ot208) ?ht208 ?st208 AllReadyH.nil
            case ht208 => (simp only [List.getElem?_toArray, List.getElem?_cons_zero, List.getElem?_cons_succ]; rfl)
            case st208 =>
              intro K hK
              go_simp
              obtain ⟨uq408, huq409⟩ : ∃ zz, zz = uq404.alloc (.cells #[] 3) := ⟨_, rfl⟩
              have Mq410 := Lib.hid (Mq406.out.newT)
              rw [← huq409] at Mq410 ⊢
              clear huq409
              refine hK.out _ _ trivial (fun ht209 => ?_)
              clear hK K
              try simp only [Act.put, List.setIfInBounds_toArray, List.set_cons_zero, List.set_cons_succ]
              refine wpAnyH_ready (rs := [8]) (by kernel_rfl) (by simp) ?_
              refine AllReadyH.cons (o := ?ot210) ?ht210 ?st210 AllReadyH.nil
              case ht210 => (simp only [List.getElem?_toArray, List.getElem?_cons_zero, List.getElem?_cons_succ]; rfl)
              case st210 =>
                intro K hK
                refine step_append_src _ rfl (.tmp 99) (.tmp 100) 33 rfl w.heap.size 3 i0 (.int .i64 0) 8 Try.underlying33 hii hz0 hz1 hz2 rfl _ 0 [] rfl Mq410.out.t A i c (x.T.map i64V) rfl (src_below HTS.out Mq410.out.hb) (i64s_one _) (by unfold maxLen; omega) (by omega) Mq410.out.hb.size ?_
                intro vq412 uq411 hwq413 hgq414 hlq415
                have Mq418 := Lib.hid (Mq410.out.growT hwq413 hgq414 hlq415)
                obtain ⟨Aq416, cq417, rfl⟩ := own_slice hwq413
                rw [Nat.zero_add, List.nil_append] at Mq418
                rw [Nat.zero_add]
                clear hwq413 hgq414 hlq415
                refine hK.out _ _ trivial (fun ht211 => ?_)
                clear hK K
                try simp only [Act.put, List.setIfInBounds_toArray, List.set_cons_zero, List.set_cons_succ]
                refine wpAnyH_ready (rs := [11]) (by kernel_rfl) (by simp) ?_
                refine AllReadyH.cons (o := ?ot212) ?ht212 ?st212 AllReadyH.nil
                case ht212 => (simp only [List.getElem?_toArray, List.getElem?_cons_zero, List.getElem?_cons_succ]; rfl)
                case st212 =>
                  intro K hK
                  refine step_append_src _ rfl (.tmp 102) (.tmp 103) 33 rfl w.heap.size 3 i0 (.int .i64 0) 8 Try.underlying33 hii hz0 hz1 hz2 rfl _ 0 [] rfl Mq418.out.s C i cc (x.S.map i64V) rfl (src_below HSS.out Mq418.out.hb) (i64s_one _) (by unfold maxLen; omega) (by omega) Mq418.out.hb.size ?_
                  intro vq420 uq419 hwq421 hgq422 hlq423
                  have Mq426 := Lib.hid (Mq418.out.growS hwq421 hgq422 hlq423)
                  obtain ⟨Aq424, cq425, rfl⟩ := own_slice hwq421
                  rw [Nat.zero_add, List.nil_append] at Mq426
                  rw [Nat.zero_add]
                  clear hwq421 hgq422 hlq423
                  refine hK.out _ _ trivial (fun ht213 => ?_)
                  clear hK K
                  try simp only [Act.put, List.setIfInBounds_toArray, List.set_cons_zero, List.set_cons_succ]
                  refine wpAnyH_take (i := 12) (oi := ?oit21412) (v := ?vt21412) ?hit21412 (by kernel_rfl) (by kernel_rfl) (by kernel_rfl) ?hQt21412 (Or.inl ⟨?hwt21412, ?hyt21412⟩) (by assumption) ?restt21412
                  case hit21412 => (first | (simp only [List.getElem?_toArray, List.getElem?_cons_zero, List.getElem?_cons_succ]; rfl) | rfl)
                  case hQt21412 => exact fun _ _ _ h => h
                  case hwt21412 => rfl
                  case hyt21412 => ((intro w hSw; go_simp); first | done | with_reducible rfl)
                  try simp only [Act.put, List.setIfInBounds_toArray, List.set_cons_zero, List.set_cons_succ]
                  refine wpAnyH_ready (rs := [13]) (by kernel_rfl) (by simp) ?_
                  refine AllReadyH.cons (o := ?ot215) ?ht215 ?st215 AllReadyH.nil
                  case ht215 => (simp only [List.getElem?_toArray, List.getElem?_cons_zero, List.getElem?_cons_succ]; rfl)
                  case st215 =>
                    intro K hK
                    go_simp
                    obtain ⟨uq427, huq428⟩ : ∃ zz, zz = uq419.alloc (.cells #[.int .i64 D, .slice Aq416 i cq417, .slice Aq424 i cq425] 56) := ⟨_, rfl⟩
                    have Mq429 := Lib.hid (Mq426.out.alloc (.cells #[.int .i64 D, .slice Aq416 i cq417, .slice Aq424 i cq425] 56))
                    have Bq430 : Hid (Blk uq427 uq419.heap.size 56 #[.int .i64 D, .slice Aq416 i cq417, .slice Aq424 i cq425]) := Lib.hid (by rw [huq428]; exact Blk.new _ _ _)
                    rw [← huq428] at Mq429 ⊢
                    clear huq428
                    refine hK.out _ _ trivial (fun ht216 => ?_)
                    clear hK K
                    try simp only [Act.put, List.setIfInBounds_toArray, List.set_cons_zero, List.set_cons_succ]
                    refine wpAnyH_ready (rs := [14]) (by kernel_rfl) (by simp) ?_
                    refine AllReadyH.cons (o := ?ot217) ?ht217 ?st217 AllReadyH.nil
                    case ht217 => (simp only [List.getElem?_toArray, List.getElem?_cons_zero, List.getElem?_cons_succ]; rfl)
                    case st217 =>
                      intro K hK
                      refine step_append_recK _ rfl (.tmp 97) (.tmp 106) 27 rfl 0 56 i1 _ 3 56 Try.underlying27 hi1 hy0 hy1 hy2 rfl (by decide) _ N _ rfl (ownsRow_block HOW.out fun g hg => Mq429.out.hb.block g (HOW.out.lt g hg).2) ⟨uq419.heap.size, 0, none⟩ 1 1 (oneCells (D, (.slice Aq416 i cq417), (.slice Aq424 i cq425))) rfl rfl (one_cells (p := (D, (.slice Aq416 i cq417), (.slice Aq424 i cq425))) Bq430.out) (one_one _ _ _ _ _ _ _) (by unfold maxLen; omega) (by omega) (Nat.zero_le _) ?_
                      intro vq432 uq431 hwq433 hgq434 hlq435
                      have Bq438 := Lib.hid ((HBV.out.below Mq429.out.hb hbl).grown hgq434 (fun e => (HGO.out b e.symm).2 rfl))
                      have Eq439 := Lib.hid (add_done (n := i) HE.out HN.out HGB.out HGL.out HBV.out HRL.out HGO.out HRX.out Mq429.out HTL.out HSL.out (by unfold maxLen; omega) (by rw [← HD.out]; exact hd) HTF.out HSF.out (by rw [← HD.out]; exact hwq433) hgq434 hlq435)
                      obtain ⟨Aq436, cq437, rfl⟩ := own_slice hwq433
                      clear hwq433 hgq434 hlq435
                      refine hK.out _ _ trivial (fun ht218 => ?_)
                      clear hK K
                      try simp only [Act.put, List.setIfInBounds_toArray, List.set_cons_zero, List.set_cons_succ]
                      refine wpAnyH_take (i := 15) (oi := ?oit21915) (v := ?vt21915) ?hit21915 (by kernel_rfl) (by kernel_rfl) (by kernel_rfl) ?hQt21915 (Or.inl ⟨?hwt21915, ?hyt21915⟩) (by assumption) ?restt21915
                      case hit21915 => (first | (simp only [List.getElem?_toArray, List.getElem?_cons_zero, List.getElem?_cons_succ]; rfl) | rfl)
                      case hQt21915 => exact fun _ _ _ h => h
                      case hwt21915 => rfl
                      case hyt21915 => ((intro w hSw; go_simp); first | done | with_reducible rfl)
                      try simp only [Act.put, List.setIfInBounds_toArray, List.set_cons_zero, List.set_cons_succ]
                      refine wpAnyH_take (i := 16) (oi := ?oit22016) (v := ?vt22016) ?hit22016 (by kernel_rfl) (by kernel_rfl) (by kernel_rfl) ?hQt22016 (Or.inl ⟨?hwt22016, ?hyt22016⟩) (by assumption) ?restt22016
                      case hit22016 => (first | (simp only [List.getElem?_toArray, List.getElem?_cons_zero, List.getElem?_cons_succ]; rfl) | rfl)
                      case hQt22016 => exact fun _ _ _ h => h
                      case hwt22016 => rfl
                      case hyt22016 => ((intro w hSw; go_simp); first | done | with_reducible rfl)
                      try simp only [Act.put, List.setIfInBounds_toArray, List.set_cons_zero, List.set_cons_succ]
                      refine wpAnyH_ready (rs := [17]) (by kernel_rfl) (by simp) ?_
                      refine AllReadyH.cons (o := ?ot221) ?ht221 ?st221 AllReadyH.nil
                      case ht221 => (simp only [List.getElem?_toArray, List.getElem?_cons_zero, List.getElem?_cons_succ]; rfl)
                      case st221 =>
                        intro K hK
                        have yq441 := Bq438.out.cell 0
                        have zq442 := Bq438.out.frozen 0
                        simp only [List.getElem?_toArray, List.getElem?_cons_zero, List.getElem?_cons_succ] at yq441
                        go_simp
                        clear yq441 zq442
                        refine hK.out _ _ trivial (fun ht222 => ?_)
                        clear hK K
                        try simp only [Act.put, List.setIfInBounds_toArray, List.set_cons_zero, List.set_cons_succ]
                        refine wpAnyH_done (by kernel_rfl) ?_ _
                        go_wp2
                        go_ret
                        exact Eq439.out
          case st206 =>
            intro K hK
            go_simp
            obtain ⟨uq443, huq444⟩ : ∃ zz, zz = uq404.alloc (.cells #[] 3) := ⟨_, rfl⟩
            have Mq445 := Lib.hid (Mq406.out.newT)
            rw [← huq444] at Mq445 ⊢
            clear huq444
            refine hK.out _ _ trivial (fun ht223 => ?_)
            clear hK K
            try simp only [Act.put, List.setIfInBounds_toArray, List.set_cons_zero, List.set_cons_succ]
            refine wpAnyH_ready (rs := [4, 8]) (by kernel_rfl) (by simp) ?_
            refine AllReadyH.cons (o := ?ot224) ?ht224 ?st224 (AllReadyH.cons (o := ?ot225) ?ht225 ?st225 AllReadyH.nil)
            case ht224 => (simp only [List.getElem?_toArray, List.getElem?_cons_zero, List.getElem?_cons_succ]; rfl)
            case ht225 => (simp only [List.getElem?_toArray, List.getElem?_cons_zero, List.getElem?_cons_succ]; rfl)
            case st224 =>
              intro K hK
              have yq446 := (HBV.out.below Mq445.out.hb hbl).cell 0
              simp only [List.getElem?_toArray, List.getElem?_cons_zero, List.getElem?_cons_succ] at yq446
              go_simp
              clear yq446
              refine hK.out _ _ trivial (fun ht226 => ?_)
              clear hK K
              try simp only [Act.put, List.setIfInBounds_toArray, List.set_cons_zero, List.set_cons_succ]
              refine wpAnyH_ready (rs := [8]) (by kernel_rfl) (by simp) ?_
              refine AllReadyH.cons (o := ?ot227) ?ht227 ?st227 AllReadyH.nil
              case ht227 => (simp only [List.getElem?_toArray, List.getElem?_cons_zero, List.getElem?_cons_succ]; rfl)
              case st227 =>
                intro K hK
                refine step_append_src _ rfl (.tmp 99) (.tmp 100) 33 rfl w.heap.size 3 i0 (.int .i64 0) 8 Try.underlying33 hii hz0 hz1 hz2 rfl _ 0 [] rfl Mq445.out.t A i c (x.T.map i64V) rfl (src_below HTS.out Mq445.out.hb) (i64s_one _) (by unfold maxLen; omega) (by omega) Mq445.out.hb.size ?_
                intro vq448 uq447 hwq449 hgq450 hlq451
                have Mq454 := Lib.hid (Mq445.out.growT hwq449 hgq450 hlq451)
                obtain ⟨Aq452, cq453, rfl⟩ := own_slice hwq449
                rw [Nat.zero_add, List.nil_append] at Mq454
                rw [Nat.zero_add]
                clear hwq449 hgq450 hlq451
                refine hK.out _ _ trivial (fun ht228 => ?_)
                clear hK K
                try simp only [Act.put, List.setIfInBounds_toArray, List.set_cons_zero, List.set_cons_succ]
                refine wpAnyH_ready (rs := [11]) (by kernel_rfl) (by simp) ?_
                refine AllReadyH.cons (o := ?ot229) ?ht229 ?st229 AllReadyH.nil
                case ht229 => (simp only [List.getElem?_toArray, List.getElem?_cons_zero, List.getElem?_cons_succ]; rfl)
                case st229 =>
                  intro K hK
                  refine step_append_src _ rfl (.tmp 102) (.tmp 103) 33 rfl w.heap.size 3 i0 (.int .i64 0) 8 Try.underlying33 hii hz0 hz1 hz2 rfl _ 0 [] rfl Mq454.out.s C i cc (x.S.map i64V) rfl (src_below HSS.out Mq454.out.hb) (i64s_one _) (by unfold maxLen; omega) (by omega) Mq454.out.hb.size ?_
                  intro vq456 uq455 hwq457 hgq458 hlq459
                  have Mq462 := Lib.hid (Mq454.out.growS hwq457 hgq458 hlq459)
                  obtain ⟨Aq460, cq461, rfl⟩ := own_slice hwq457
                  rw [Nat.zero_add, List.nil_append] at Mq462
                  rw [Nat.zero_add]
                  clear hwq457 hgq458 hlq459
                  refine hK.out _ _ trivial (fun ht230 => ?_)
                  clear hK K
                  try simp only [Act.put, List.setIfInBounds_toArray, List.set_cons_zero, List.set_cons_succ]
                  refine wpAnyH_take (i := 12) (oi := ?oit23112) (v := ?vt23112) ?hit23112 (by kernel_rfl) (by kernel_rfl) (by kernel_rfl) ?hQt23112 (Or.inl ⟨?hwt23112, ?hyt23112⟩) (by assumption) ?restt23112
                  case hit23112 => (first | (simp only [List.getElem?_toArray, List.getElem?_cons_zero, List.getElem?_cons_succ]; rfl) | rfl)
                  case hQt23112 => exact fun _ _ _ h => h
                  case hwt23112 => rfl
                  case hyt23112 => ((intro w hSw; go_simp); first | done | with_reducible rfl)
                  try simp only [Act.put, List.setIfInBounds_toArray, List.set_cons_zero, List.set_cons_succ]
                  refine wpAnyH_ready (rs := [13]) (by kernel_rfl) (by simp) ?_
                  refine AllReadyH.cons (o := ?ot232) ?ht232 ?st232 AllReadyH.nil
                  case ht232 => (simp only [List.getElem?_toArray, List.getElem?_cons_zero, List.getElem?_cons_succ]; rfl)
                  case st232 =>
                    intro K hK
                    go_simp
                    obtain ⟨uq463, huq464⟩ : ∃ zz, zz = uq455.alloc (.cells #[.int .i64 D, .slice Aq452 i cq453, .slice Aq460 i cq461] 56) := ⟨_, rfl⟩
                    have Mq465 := Lib.hid (Mq462.out.alloc (.cells #[.int .i64 D, .slice Aq452 i cq453, .slice Aq460 i cq461] 56))
                    have Bq466 : Hid (Blk uq463 uq455.heap.size 56 #[.int .i64 D, .slice Aq452 i cq453, .slice Aq460 i cq461]) := Lib.hid (by rw [huq464]; exact Blk.new _ _ _)
                    rw [← huq464] at Mq465 ⊢
                    clear huq464
                    refine hK.out _ _ trivial (fun ht233 => ?_)
                    clear hK K
                    try simp only [Act.put, List.setIfInBounds_toArray, List.set_cons_zero, List.set_cons_succ]
                    refine wpAnyH_ready (rs := [14]) (by kernel_rfl) (by simp) ?_
                    refine AllReadyH.cons (o := ?ot234) ?ht234 ?st234 AllReadyH.nil
                    case ht234 => (simp only [List.getElem?_toArray, List.getElem?_cons_zero, List.getElem?_cons_succ]; rfl)
                    case st234 =>
                      intro K hK
                      refine step_append_recK _ rfl (.tmp 97) (.tmp 106) 27 rfl 0 56 i1 _ 3 56 Try.underlying27 hi1 hy0 hy1 hy2 rfl (by decide) _ N _ rfl (ownsRow_block HOW.out fun g hg => Mq465.out.hb.block g (HOW.out.lt g hg).2) ⟨uq455.heap.size, 0, none⟩ 1 1 (oneCells (D, (.slice Aq452 i cq453), (.slice Aq460 i cq461))) rfl rfl (one_cells (p := (D, (.slice Aq452 i cq453), (.slice Aq460 i cq461))) Bq466.out) (one_one _ _ _ _ _ _ _) (by unfold maxLen; omega) (by omega) (Nat.zero_le _) ?_
                      intro vq468 uq467 hwq469 hgq470 hlq471
                      have Bq474 := Lib.hid ((HBV.out.below Mq465.out.hb hbl).grown hgq470 (fun e => (HGO.out b e.symm).2 rfl))
                      have Eq475 := Lib.hid (add_done (n := i) HE.out HN.out HGB.out HGL.out HBV.out HRL.out HGO.out HRX.out Mq465.out HTL.out HSL.out (by unfold maxLen; omega) (by rw [← HD.out]; exact hd) HTF.out HSF.out (by rw [← HD.out]; exact hwq469) hgq470 hlq471)
                      obtain ⟨Aq472, cq473, rfl⟩ := own_slice hwq469
                      clear hwq469 hgq470 hlq471
                      refine hK.out _ _ trivial (fun ht235 => ?_)
                      clear hK K
                      try simp only [Act.put, List.setIfInBounds_toArray, List.set_cons_zero, List.set_cons_succ]
                      refine wpAnyH_take (i := 15) (oi := ?oit23615) (v := ?vt23615) ?hit23615 (by kernel_rfl) (by kernel_rfl) (by kernel_rfl) ?hQt23615 (Or.inl ⟨?hwt23615, ?hyt23615⟩) (by assumption) ?restt23615
                      case hit23615 => (first | (simp only [List.getElem?_toArray, List.getElem?_cons_zero, List.getElem?_cons_succ]; rfl) | rfl)
                      case hQt23615 => exact fun _ _ _ h => h
                      case hwt23615 => rfl
                      case hyt23615 => ((intro w hSw; go_simp); first | done | with_reducible rfl)
                      try simp only [Act.put, List.setIfInBounds_toArray, List.set_cons_zero, List.set_cons_succ]
                      refine wpAnyH_take (i := 16) (oi := ?oit23716) (v := ?vt23716) ?hit23716 (by kernel_rfl) (by kernel_rfl) (by kernel_rfl) ?hQt23716 (Or.inl ⟨?hwt23716, ?hyt23716⟩) (by assumption) ?restt23716
                      case hit23716 => (first | (simp only [List.getElem?_toArray, List.getElem?_cons_zero, List.getElem?_cons_succ]; rfl) | rfl)
                      case hQt23716 => exact fun _ _ _ h => h
                      case hwt23716 => rfl
                      case hyt23716 => ((intro w hSw; go_simp); first | done | with_reducible rfl)
                      try simp only [Act.put, List.setIfInBounds_toArray, List.set_cons_zero, List.set_cons_succ]
                      refine wpAnyH_ready (rs := [17]) (by kernel_rfl) (by simp) ?_
                      refine AllReadyH.cons (o := ?ot238) ?ht238 ?st238 AllReadyH.nil
                      case ht238 => (simp only [List.getElem?_toArray, List.getElem?_cons_zero, List.getElem?_cons_succ]; rfl)
                      case st238 =>
                        intro K hK
                        have yq477 := Bq474.out.cell 0
                        have zq478 := Bq474.out.frozen 0
                        simp only [List.getElem?_toArray, List.getElem?_cons_zero, List.getElem?_cons_succ] at yq477
                        go_simp
                        clear yq477 zq478
                        refine hK.out _ _ trivial (fun ht239 => ?_)
                        clear hK K
                        try simp only [Act.put, List.setIfInBounds_toArray, List.set_cons_zero, List.set_cons_succ]
                        refine wpAnyH_done (by kernel_rfl) ?_ _
                        go_wp2
                        go_ret
                        exact Eq475.out
            case st225 =>
              intro K hK
              refine step_append_src _ rfl (.tmp 99) (.tmp 100) 33 rfl w.heap.size 3 i0 (.int .i64 0) 8 Try.underlying33 hii hz0 hz1 hz2 rfl _ 0 [] rfl Mq445.out.t A i c (x.T.map i64V) rfl (src_below HTS.out Mq445.out.hb) (i64s_one _) (by unfold maxLen; omega) (by omega) Mq445.out.hb.size ?_
              intro vq480 uq479 hwq481 hgq482 hlq483
              have Mq486 := Lib.hid (Mq445.out.growT hwq481 hgq482 hlq483)
              obtain ⟨Aq484, cq485, rfl⟩ := own_slice hwq481
              rw [Nat.zero_add, List.nil_append] at Mq486
              rw [Nat.zero_add]
              clear hwq481 hgq482 hlq483
              refine hK.out _ _ trivial (fun ht240 => ?_)
              clear hK K
              try simp only [Act.put, List.setIfInBounds_toArray, List.set_cons_zero, List.set_cons_succ]
              refine wpAnyH_ready (rs := [4, 11]) (by kernel_rfl) (by simp) ?_
              refine AllReadyH.cons (o := ?ot241) ?ht241 ?st241 (AllReadyH.cons (o := ?ot242) ?ht242 ?st242 AllReadyH.nil)
              case ht241 => (simp only [List.getElem?_toArray, List.getElem?_cons_zero, List.getElem?_cons_succ]; rfl)
              case ht242 => (simp only [List.getElem?_toArray, List.getElem?_cons_zero, List.getElem?_cons_succ]; rfl)
              case st241 =>
                intro K hK
                have yq487 := (HBV.out.below Mq486.out.hb hbl).cell 0
                simp only [List.getElem?_toArray, List.getElem?_cons_zero, List.getElem?_cons_succ] at yq487
                go_simp
                clear yq487
                refine hK.out _ _ trivial (fun ht243 => ?_)
                clear hK K
                try simp only [Act.put, List.setIfInBounds_toArray, List.set_cons_zero, List.set_cons_succ]
                refine wpAnyH_ready (rs := [11]) (by kernel_rfl) (by simp) ?_
                refine AllReadyH.cons (o := ?ot244) ?ht244 ?st244 AllReadyH.nil
                case ht244 => (simp only [List.getElem?_toArray, List.getElem?_cons_zero, List.getElem?_cons_succ]; rfl)
                case st244 =>
                  intro K hK
                  refine step_append_src _ rfl (.tmp 102) (.tmp 103) 33 rfl w.heap.size 3 i0 (.int .i64 0) 8 Try.underlying33 hii hz0 hz1 hz2 rfl _ 0 [] rfl Mq486.out.s C i cc (x.S.map i64V) rfl (src_below HSS.out Mq486.out.hb) (i64s_one _) (by unfold maxLen; omega) (by omega) Mq486.out.hb.size ?_
                  intro vq489 uq488 hwq490 hgq491 hlq492
                  have Mq495 := Lib.hid (Mq486.out.growS hwq490 hgq491 hlq492)
                  obtain ⟨Aq493, cq494, rfl⟩ := own_slice hwq490
                  rw [Nat.zero_add, List.nil_append] at Mq495
                  rw [Nat.zero_add]
                  clear hwq490 hgq491 hlq492
                  refine hK.out _ _ trivial (fun ht245 => ?_)
                  clear hK K
                  try simp only [Act.put, List.setIfInBounds_toArray, List.set_cons_zero, List.set_cons_succ]
                  refine wpAnyH_take (i := 12) (oi := ?oit24612) (v := ?vt24612) ?hit24612 (by kernel_rfl) (by kernel_rfl) (by kernel_rfl) ?hQt24612 (Or.inl ⟨?hwt24612, ?hyt24612⟩) (by assumption) ?restt24612
                  case hit24612 => (first | (simp only [List.getElem?_toArray, List.getElem?_cons_zero, List.getElem?_cons_succ]; rfl) | rfl)
                  case hQt24612 => exact fun _ _ _ h => h
                  case hwt24612 => rfl
                  case hyt24612 => ((intro w hSw; go_simp); first | done | with_reducible rfl)
                  try simp only [Act.put, List.setIfInBounds_toArray, List.set_cons_zero, List.set_cons_succ]
                  refine wpAnyH_ready (rs := [13]) (by kernel_rfl) (by simp) ?_
                  refine AllReadyH.cons (o := ?ot247) ?ht247 ?st247 AllReadyH.nil
                  case ht247 => (simp only [List.getElem?_toArray, List.getElem?_cons_zero, List.getElem?_cons_succ]; rfl)
                  case st247 =>
                    intro K hK
                    go_simp
                    obtain ⟨uq496, huq497⟩ : ∃ zz, zz = uq488.alloc (.cells #[.int .i64 D, .slice Aq484 i cq485, .slice Aq493 i cq494] 56) := ⟨_, rfl⟩
                    have Mq498 := Lib.hid (Mq495.out.alloc (.cells #[.int .i64 D, .slice Aq484 i cq485, .slice Aq493 i cq494] 56))
                    have Bq499 : Hid (Blk uq496 uq488.heap.size 56 #[.int .i64 D, .slice Aq484 i cq485, .slice Aq493 i cq494]) := Lib.hid (by rw [huq497]; exact Blk.new _ _ _)
                    rw [← huq497] at Mq498 ⊢
                    clear huq497
                    refine hK.out _ _ trivial (fun ht248 => ?_)
                    clear hK K
                    try simp only [Act.put, List.setIfInBounds_toArray, List.set_cons_zero, List.set_cons_succ]
                    refine wpAnyH_ready (rs := [14]) (by kernel_rfl) (by simp) ?_
                    refine AllReadyH.cons (o := ?ot249) ?ht249 ?st249 AllReadyH.nil
                    case ht249 => (simp only [List.getElem?_toArray, List.getElem?_cons_zero, List.getElem?_cons_succ]; rfl)
                    case st249 =>
                      intro K hK
                      refine step_append_recK _ rfl (.tmp 97) (.tmp 106) 27 rfl 0 56 i1 _ 3 56 Try.underlying27 hi1 hy0 hy1 hy2 rfl (by decide) _ N _ rfl (ownsRow_block HOW.out fun g hg => Mq498.out.hb.block g (HOW.out.lt g hg).2) ⟨uq488.heap.size, 0, none⟩ 1 1 (oneCells (D, (.slice Aq484 i cq485), (.slice Aq493 i cq494))) rfl rfl (one_cells (p := (D, (.slice Aq484 i cq485), (.slice Aq493 i cq494))) Bq499.out) (one_one _ _ _ _ _ _ _) (by unfold maxLen; omega) (by omega) (Nat.zero_le _) ?_
                      intro vq501 uq500 hwq502 hgq503 hlq504
                      have Bq507 := Lib.hid ((HBV.out.below Mq498.out.hb hbl).grown hgq503 (fun e => (HGO.out b e.symm).2 rfl))
                      have Eq508 := Lib.hid (add_done (n := i) HE.out HN.out HGB.out HGL.out HBV.out HRL.out HGO.out HRX.out Mq498.out HTL.out HSL.out (by unfold maxLen; omega) (by rw [← HD.out]; exact hd) HTF.out HSF.out (by rw [← HD.out]; exact hwq502) hgq503 hlq504)
                      obtain ⟨Aq505, cq506, rfl⟩ := own_slice hwq502
                      clear hwq502 hgq503 hlq504
                      refine hK.out _ _ trivial (fun ht250 => ?_)
                      clear hK K
                      try simp only [Act.put, List.setIfInBounds_toArray, List.set_cons_zero, List.set_cons_succ]
                      refine wpAnyH_take (i := 15) (oi := ?oit25115) (v := ?vt25115) ?hit25115 (by kernel_rfl) (by kernel_rfl) (by kernel_rfl) ?hQt25115 (Or.inl ⟨?hwt25115, ?hyt25115⟩) (by assumption) ?restt25115
                      case hit25115 => (first | (simp only [List.getElem?_toArray, List.getElem?_cons_zero, List.getElem?_cons_succ]; rfl) | rfl)
                      case hQt25115 => exact fun _ _ _ h => h
                      case hwt25115 => rfl
                      case hyt25115 => ((intro w hSw; go_simp); first | done | with_reducible rfl)
                      try simp only [Act.put, List.setIfInBounds_toArray, List.set_cons_zero, List.set_cons_succ]
                      refine wpAnyH_take (i := 16) (oi := ?oit25216) (v := ?vt25216) ?hit25216 (by kernel_rfl) (by kernel_rfl) (by kernel_rfl) ?hQt25216 (Or.inl ⟨?hwt25216, ?hyt25216⟩) (by assumption) ?restt25216
                      case hit25216 => (first | (simp only [List.getElem?_toArray, List.getElem?_cons_zero, List.getElem?_cons_succ]; rfl) | rfl)
                      case hQt25216 => exact fun _ _ _ h => h
                      case hwt25216 => rfl
                      case hyt25216 => ((intro w hSw; go_simp); first | done | with_reducible rfl)
                      try simp only [Act.put, List.setIfInBounds_toArray, List.set_cons_zero, List.set_cons_succ]
                      refine wpAnyH_ready (rs := [17]) (by kernel_rfl) (by simp) ?_
                      refine AllReadyH.cons (o := ?ot253) ?ht253 ?st253 AllReadyH.nil
                      case ht253 => (simp only [List.getElem?_toArray, List.getElem?_cons_zero, List.getElem?_cons_succ]; rfl)
                      case st253 =>
                        intro K hK
                        have yq510 := Bq507.out.cell 0
                        have zq511 := Bq507.out.frozen 0
                        simp only [List.getElem?_toArray, List.getElem?_cons_zero, List.getElem?_cons_succ] at yq510
                        go_simp
                        clear yq510 zq511
                        refine hK.out _ _ trivial (fun ht254 => ?_)
                        clear hK K
                        try simp only [Act.put, List.setIfInBounds_toArray, List.set_cons_zero, List.set_cons_succ]
                        refine wpAnyH_done (by kernel_rfl) ?_ _
                        go_wp2
                        go_ret
                        exact Eq508.out
              case st242 =>
                intro K hK
                refine step_append_src _ rfl (.tmp 102) (.tmp 103) 33 rfl w.heap.size 3 i0 (.int .i64 0) 8 Try.underlying33 hii hz0 hz1 hz2 rfl _ 0 [] rfl Mq486.out.s C i cc (x.S.map i64V) rfl (src_below HSS.out Mq486.out.hb) (i64s_one _) (by unfold maxLen; omega) (by omega) Mq486.out.hb.size ?_
                intro vq513 uq512 hwq514 hgq515 hlq516
                have Mq519 := Lib.hid (Mq486.out.growS hwq514 hgq515 hlq516)
                obtain ⟨Aq517, cq518, rfl⟩ := own_slice hwq514
                rw [Nat.zero_add, List.nil_append] at Mq519
                rw [Nat.zero_add]
                clear hwq514 hgq515 hlq516
                refine hK.out _ _ trivial (fun ht255 => ?_)
                clear hK K
                try simp only [Act.put, List.setIfInBounds_toArray, List.set_cons_zero, List.set_cons_succ]
                refine wpAnyH_take (i := 12) (oi := ?oit25612) (v := ?vt25612) ?hit25612 (by kernel_rfl) (by kernel_rfl) (by kernel_rfl) ?hQt25612 (Or.inl ⟨?hwt25612, ?hyt25612⟩) (by assumption) ?restt25612
                case hit25612 => (first | (simp only [List.getElem?_toArray, List.getElem?_cons_zero, List.getElem?_cons_succ]; rfl) | rfl)
                case hQt25612 => exact fun _ _ _ h => h
                case hwt25612 => rfl
                case hyt25612 => ((intro w hSw; go_simp); first | done | with_reducible rfl)
                try simp only [Act.put, List.setIfInBounds_toArray, List.set_cons_zero, List.set_cons_succ]
                refine wpAnyH_ready (rs := [4, 13]) (by kernel_rfl) (by simp) ?_
                refine AllReadyH.cons (o := ?ot257) ?ht257 ?st257 (AllReadyH.cons (o := ?ot258) ?ht258 ?st258 AllReadyH.nil)
                case ht257 => (simp only [List.getElem?_toArray, List.getElem?_cons_zero, List.getElem?_cons_succ]; rfl)
                case ht258 => (simp only [List.getElem?_toArray, List.getElem?_cons_zero, List.getElem?_cons_succ]; rfl)
                case st257 =>
                  intro K hK
                  have yq520 := (HBV.out.below Mq519.out.hb hbl).cell 0
                  simp only [List.getElem?_toArray, List.getElem?_cons_zero, List.getElem?_cons_succ] at yq520
                  go_simp
                  clear yq520
                  refine hK.out _ _ trivial (fun ht259 => ?_)
                  clear hK K
                  try simp only [Act.put, List.setIfInBounds_toArray, List.set_cons_zero, List.set_cons_succ]
                  refine wpAnyH_ready (rs := [13]) (by kernel_rfl) (by simp) ?_
                  refine AllReadyH.cons (o := ?ot260) ?ht260 ?st260 AllReadyH.nil
                  case ht260 => (simp only [List.getElem?_toArray, List.getElem?_cons_zero, List.getElem?_cons_succ]; rfl)
                  case st260 =>
                    intro K hK
                    go_simp
                    obtain ⟨uq521, huq522⟩ : ∃ zz, zz = uq512.alloc (.cells #[.int .i64 D, .slice Aq484 i cq485, .slice Aq517 i cq518] 56) := ⟨_, rfl⟩
                    have Mq523 := Lib.hid (Mq519.out.alloc (.cells #[.int .i64 D, .slice Aq484 i cq485, .slice Aq517 i cq518] 56))
                    have Bq524 : Hid (Blk uq521 uq512.heap.size 56 #[.int .i64 D, .slice Aq484 i cq485, .slice Aq517 i cq518]) := Lib.hid (by rw [huq522]; exact Blk.new _ _ _)
                    rw [← huq522] at Mq523 ⊢
                    clear huq522
                    refine hK.out _ _ trivial (fun ht261 => ?_)
                    clear hK K
                    try simp only [Act.put, List.setIfInBounds_toArray, List.set_cons_zero, List.set_cons_succ]
                    refine wpAnyH_ready (rs := [14]) (by kernel_rfl) (by simp) ?_
                    refine AllReadyH.cons (o := ?ot262) ?ht262 ?st262 AllReadyH.nil
                    case ht262 => (simp only [List.getElem?_toArray, List.getElem?_cons_zero, List.getElem?_cons_succ]; rfl)
                    case st262 =>
                      intro K hK
                      refine step_append_recK _ rfl (.tmp 97) (.tmp 106) 27 rfl 0 56 i1 _ 3 56 Try.underlying27 hi1 hy0 hy1 hy2 rfl (by decide) _ N _ rfl (ownsRow_block HOW.out fun g hg => Mq523.out.hb.block g (HOW.out.lt g hg).2) ⟨uq512.heap.size, 0, none⟩ 1 1 (oneCells (D, (.slice Aq484 i cq485), (.slice Aq517 i cq518))) rfl rfl (one_cells (p := (D, (.slice Aq484 i cq485), (.slice Aq517 i cq518))) Bq524.out) (one_one _ _ _ _ _ _ _) (by unfold maxLen; omega) (by omega) (Nat.zero_le _) ?_
                      intro vq526 uq525 hwq527 hgq528 hlq529
                      have Bq532 := Lib.hid ((HBV.out.below Mq523.out.hb hbl).grown hgq528 (fun e => (HGO.out b e.symm).2 rfl))
                      have Eq533 := Lib.hid (add_done (n := i) HE.out HN.out HGB.out HGL.out HBV.out HRL.out HGO.out HRX.out Mq523.out HTL.out HSL.out (by unfold maxLen; omega) (by rw [← HD.out]; exact hd) HTF.out HSF.out (by rw [← HD.out]; exact hwq527) hgq528 hlq529)
                      obtain ⟨Aq530, cq531, rfl⟩ := own_slice hwq527
                      clear hwq527 hgq528 hlq529
                      refine hK.out _ _ trivial (fun ht263 => ?_)
                      clear hK K
                      try simp only [Act.put, List.setIfInBounds_toArray, List.set_cons_zero, List.set_cons_succ]
                      refine wpAnyH_take (i := 15) (oi := ?oit26415) (v := ?vt26415) ?hit26415 (by kernel_rfl) (by kernel_rfl) (by kernel_rfl) ?hQt26415 (Or.inl ⟨?hwt26415, ?hyt26415⟩) (by assumption) ?restt26415
                      case hit26415 => (first | (simp only [List.getElem?_toArray, List.getElem?_cons_zero, List.getElem?_cons_succ]; rfl) | rfl)
                      case hQt26415 => exact fun _ _ _ h => h
                      case hwt26415 => rfl
                      case hyt26415 => ((intro w hSw; go_simp); first | done | with_reducible rfl)
                      try simp only [Act.put, List.setIfInBounds_toArray, List.set_cons_zero, List.set_cons_succ]
                      refine wpAnyH_take (i := 16) (oi := ?oit26516) (v := ?vt26516) ?hit26516 (by kernel_rfl) (by kernel_rfl) (by kernel_rfl) ?hQt26516 (Or.inl ⟨?hwt26516, ?hyt26516⟩) (by assumption) ?restt26516
                      case hit26516 => (first | (simp only [List.getElem?_toArray, List.getElem?_cons_zero, List.getElem?_cons_succ]; rfl) | rfl)
                      case hQt26516 => exact fun _ _ _ h => h
                      case hwt26516 => rfl
                      case hyt26516 => ((intro w hSw; go_simp); first | done | with_reducible rfl)
                      try simp only [Act.put, List.setIfInBounds_toArray, List.set_cons_zero, List.set_cons_succ]
                      refine wpAnyH_ready (rs := [17]) (by kernel_rfl) (by simp) ?_
                      refine AllReadyH.cons (o := ?ot266) ?ht266 ?st266 AllReadyH.nil
                      case ht266 => (simp only [List.getElem?_toArray, List.getElem?_cons_zero, List.getElem?_cons_succ]; rfl)
                      case st266 =>
                        intro K hK
                        have yq535 := Bq532.out.cell 0
                        have zq536 := Bq532.out.frozen 0
                        simp only [List.getElem?_toArray, List.getElem?_cons_zero, List.getElem?_cons_succ] at yq535
                        go_simp
                        clear yq535 zq536
                        refine hK.out _ _ trivial (fun ht267 => ?_)
                        clear hK K
                        try simp only [Act.put, List.setIfInBounds_toArray, List.set_cons_zero, List.set_cons_succ]
                        refine wpAnyH_done (by kernel_rfl) ?_ _
                        go_wp2
                        go_ret
                        exact Eq533.out
                case st258 =>
                  intro K hK
                  go_simp
                  obtain ⟨uq537, huq538⟩ : ∃ zz, zz = uq512.alloc (.cells #[.int .i64 D, .slice Aq484 i cq485, .slice Aq517 i cq518] 56) := ⟨_, rfl⟩
                  have Mq539 := Lib.hid (Mq519.out.alloc (.cells #[.int .i64 D, .slice Aq484 i cq485, .slice Aq517 i cq518] 56))
                  have Bq540 : Hid (Blk uq537 uq512.heap.size 56 #[.int .i64 D, .slice Aq484 i cq485, .slice Aq517 i cq518]) := Lib.hid (by rw [huq538]; exact Blk.new _ _ _)
                  rw [← huq538] at Mq539 ⊢
                  clear huq538
                  refine hK.out _ _ trivial (fun ht268 => ?_)
                  clear hK K
                  try simp only [Act.put, List.setIfInBounds_toArray, List.set_cons_zero, List.set_cons_succ]
                  refine wpAnyH_ready (rs := [4]) (by kernel_rfl) (by simp) ?_
                  refine AllReadyH.cons (o := ?ot269) ?ht269 ?st269 AllReadyH.nil
                  case ht269 => (simp only [List.getElem?_toArray, List.getElem?_cons_zero, List.getElem?_cons_succ]; rfl)
                  case st269 =>
                    intro K hK
                    have yq541 := (HBV.out.below Mq539.out.hb hbl).cell 0
                    simp only [List.getElem?_toArray, List.getElem?_cons_zero, List.getElem?_cons_succ] at yq541
                    go_simp
                    clear yq541
                    refine hK.out _ _ trivial (fun ht270 => ?_)
                    clear hK K
                    try simp only [Act.put, List.setIfInBounds_toArray, List.set_cons_zero, List.set_cons_succ]
                    refine wpAnyH_ready (rs := [14]) (by kernel_rfl) (by simp) ?_
                    refine AllReadyH.cons (o := ?ot271) ?ht271 ?st271 AllReadyH.nil
                    case ht271 => (simp only [List.getElem?_toArray, List.getElem?_cons_zero, List.getElem?_cons_succ]; rfl)
                    case st271 =>
                      intro K hK
                      refine step_append_recK _ rfl (.tmp 97) (.tmp 106) 27 rfl 0 56 i1 _ 3 56 Try.underlying27 hi1 hy0 hy1 hy2 rfl (by decide) _ N _ rfl (ownsRow_block HOW.out fun g hg => Mq539.out.hb.block g (HOW.out.lt g hg).2) ⟨uq512.heap.size, 0, none⟩ 1 1 (oneCells (D, (.slice Aq484 i cq485), (.slice Aq517 i cq518))) rfl rfl (one_cells (p := (D, (.slice Aq484 i cq485), (.slice Aq517 i cq518))) Bq540.out) (one_one _ _ _ _ _ _ _) (by unfold maxLen; omega) (by omega) (Nat.zero_le _) ?_
                      intro vq543 uq542 hwq544 hgq545 hlq546
                      have Bq549 := Lib.hid ((HBV.out.below Mq539.out.hb hbl).grown hgq545 (fun e => (HGO.out b e.symm).2 rfl))
                      have Eq550 := Lib.hid (add_done (n := i) HE.out HN.out HGB.out HGL.out HBV.out HRL.out HGO.out HRX.out Mq539.out HTL.out HSL.out (by unfold maxLen; omega) (by rw [← HD.out]; exact hd) HTF.out HSF.out (by rw [← HD.out]; exact hwq544) hgq545 hlq546)
                      obtain ⟨Aq547, cq548, rfl⟩ := own_slice hwq544
                      clear hwq544 hgq545 hlq546
                      refine hK.out _ _ trivial (fun ht272 => ?_)
                      clear hK K
                      try simp only [Act.put, List.setIfInBounds_toArray, List.set_cons_zero, List.set_cons_succ]
                      refine wpAnyH_take (i := 15) (oi := ?oit27315) (v := ?vt27315) ?hit27315 (by kernel_rfl) (by kernel_rfl) (by kernel_rfl) ?hQt27315 (Or.inl ⟨?hwt27315, ?hyt27315⟩) (by assumption) ?restt27315
                      case hit27315 => (first | (simp only [List.getElem?_toArray, List.getElem?_cons_zero, List.getElem?_cons_succ]; rfl) | rfl)
                      case hQt27315 => exact fun _ _ _ h => h
                      case hwt27315 => rfl
                      case hyt27315 => ((intro w hSw; go_simp); first | done | with_reducible rfl)
                      try simp only [Act.put, List.setIfInBounds_toArray, List.set_cons_zero, List.set_cons_succ]
                      refine wpAnyH_take (i := 16) (oi := ?oit27416) (v := ?vt27416) ?hit27416 (by kernel_rfl) (by kernel_rfl) (by kernel_rfl) ?hQt27416 (Or.inl ⟨?hwt27416, ?hyt27416⟩) (by assumption) ?restt27416
                      case hit27416 => (first | (simp only [List.getElem?_toArray, List.getElem?_cons_zero, List.getElem?_cons_succ]; rfl) | rfl)
                      case hQt27416 => exact fun _ _ _ h => h
                      case hwt27416 => rfl
                      case hyt27416 => ((intro w hSw; go_simp); first | done | with_reducible rfl)
                      try simp only [Act.put, List.setIfInBounds_toArray, List.set_cons_zero, List.set_cons_succ]
                      refine wpAnyH_ready (rs := [17]) (by kernel_rfl) (by simp) ?_
                      refine AllReadyH.cons (o := ?ot275) ?ht275 ?st275 AllReadyH.nil
                      case ht275 => (simp only [List.getElem?_toArray, List.getElem?_cons_zero, List.getElem?_cons_succ]; rfl)
                      case st275 =>
                        intro K hK
                        have yq552 := Bq549.out.cell 0
                        have zq553 := Bq549.out.frozen 0
                        simp only [List.getElem?_toArray, List.getElem?_cons_zero, List.getElem?_cons_succ] at yq552
                        go_simp
                        clear yq552 zq553
                        refine hK.out _ _ trivial (fun ht276 => ?_)
                        clear hK K
                        try simp only [Act.put, List.setIfInBounds_toArray, List.set_cons_zero, List.set_cons_succ]
                        refine wpAnyH_done (by kernel_rfl) ?_ _
                        go_wp2
                        go_ret
                        exact Eq550.out
end Go.Proofs.Ytmnofmcfkchebaa
