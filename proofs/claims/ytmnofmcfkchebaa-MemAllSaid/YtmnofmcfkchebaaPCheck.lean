/- The document's Check. -/
import Derived.Test.YtmnofmcfkchebaaKPosts
import Derived.Test.YtmnofmcfkchebaaKInts
import Derived.Test.YtmnofmcfkchebaaPPlain
import Derived.Deep.QuietTactic
import Derived.BigQuiet
import Derived.Laws.StructEq
namespace Go.Proofs.Ytmnofmcfkchebaa
open Go.RowKit Go.Maps Go.WideMaps
set_option linter.unusedSimpArgs false

set_option maxHeartbeats 8000000 in
set_option maxRecDepth 100000 in
theorem r9Check_any (w : World) (A : Option Addr) (n c : Nat) (l : List Pst) (h : PostsSee w A n l) (hn : n ≤ 9223372036854775807) :
    Calls Try.prog 19 #[.slice A n c] w fun e w' => e = .returned (.int .i64 (checkP l)) ∧ Below w.heap.size w w' := by
  have HP := Lib.hid h
  have HLEN := Lib.hid h.len
  obtain ⟨R, hR⟩ : ∃ R, R = checkP l := ⟨_, rfl⟩
  rw [← hR]
  have HR := Lib.hid hR
  clear h hR
  by_cases hmany : 4096 < n
  · have d0 : decide ((4096 : Int) < (n : Int)) = true := decide_eq_true (by omega)
    have hr : R = 2 := by rw [HR.out, check_many (by rw [HLEN.out]; exact hmany)]
    subst hr
    go_enter Try.func19, Try.ntmps19
    go_wp2
    go_ret
    exact ⟨rfl, Below.refl _ _⟩
  · have d0 : decide ((4096 : Int) < (n : Int)) = false := decide_eq_false (by omega)
    go_enter Try.func19, Try.ntmps19
    go_wp2
    go_loopw [3] (fun i wr => ∃ k : Nat, k ≤ n ∧ i = .int .i64 k ∧ manyUp l k = false ∧ wr = w) (fun i _ => n - (intOf i).toNat)
    case atStart => exact ⟨0, by omega, rfl, rfl, rfl⟩
    case round =>
      obtain ⟨k, hk, rfl, hmu, hwr⟩ := hrel
      obtain rfl := hwr.symm
      have HMU := Lib.hid hmu
      clear hmu
      rcases Nat.lt_or_ge k n with hlt | hge
      · have hlt' : (k : Int) < (n : Int) := by omega
        have p0 : (0 : Int) ≤ (k : Int) := by omega
        have hw5 : IntKind.i64.wrap ((k : Int) + 1) = (k : Int) + 1 := IntWalk.i64_in _ (by omega)
        obtain ⟨pa, x, SA, da, rfl, hx, -, a0, a1, -, -⟩ := HP.out.at k hlt
        have hpx := pAt_eq hx
        have HPX := Lib.hid hpx
        clear hx hpx a0
        by_cases hsp : 4096 < x.2.length
        · have d1 : decide ((4096 : Int) < (x.2.length : Int)) = true := decide_eq_true (by omega)
          have hr : R = 2 := by rw [HR.out, check_spots (k := k) (by rw [HLEN.out]; exact hlt) (by rw [HPX.out]; exact hsp)]
          subst hr
          go_wp2
          go_ret
          exact ⟨rfl, Below.refl _ _⟩
        · have d1 : decide ((4096 : Int) < (x.2.length : Int)) = false := decide_eq_false (by omega)
          have hnx : manyUp l (k + 1) = false := by rw [manyUp, HMU.out, HPX.out, decide_eq_false hsp]; rfl
          have HNX := Lib.hid hnx
          clear hnx
          go_wp2
          go_roundw
          case rel => exact ⟨k + 1, by omega, by go_num, HNX.out, by first | rfl | trivial⟩
          case measure => simp [intOf]; omega
      · obtain rfl : k = n := by omega
        have hlz : ¬ ((k : Int) < (k : Int)) := by omega
        have HM0 := HMU
        go_wp2
        go_loopw [4] (fun i wr => ∃ j : Nat, j ≤ k ∧ i = .int .i64 j ∧ okUp l j = true ∧ Below w.heap.size w wr) (fun i _ => k - (intOf i).toNat)
        case atStart => exact ⟨0, by omega, rfl, rfl, Below.refl _ _⟩
        case round =>
          obtain ⟨j, hj, rfl, hok, hB⟩ := hrel
          have HOK := Lib.hid hok
          have HB := Lib.hid hB
          clear hok hB
          rcases Nat.lt_or_ge j k with hlt | hge
          · have hlt' : (j : Int) < (k : Int) := by omega
            have p0 : (0 : Int) ≤ (j : Int) := by omega
            have hw5 : IntKind.i64.wrap ((j : Int) + 1) = (j : Int) + 1 := IntWalk.i64_in _ (by omega)
            obtain ⟨pa, x, SA, da, rfl, hx, hfx, a0, a1, hda, sa⟩ := (HP.out.below HB.out).at j hlt
            have hpx := pAt_eq hx
            have HPX := Lib.hid hpx
            have hxs : x.2.length ≤ 4096 := by have := manyUp_iff.1 HM0.out j hlt; rw [hpx] at this; exact this
            obtain ⟨x1, x2⟩ := x
            simp only at a0 a1 hda sa hxs hfx
            have hbad : okAt l j = false → R = 1 := fun e => by rw [HR.out, check_bad (by rw [HLEN.out]; omega) (by rw [HLEN.out]; exact HM0.out) (by rw [HLEN.out]; exact hlt) e]
            have HBAD := Lib.hid hbad
            obtain ⟨W1, hW1⟩ : ∃ W1, W1 = wr.alloc (.cells #[.int .i64 x1, .slice SA x2.length da] 46) := ⟨_, rfl⟩
            have hBk : Blk W1 wr.heap.size 46 #[.int .i64 x1, .slice SA x2.length da] := by rw [hW1]; exact Blk.new _ _ _
            have hb1 : Below wr.heap.size wr W1 := by rw [hW1]; exact (Below.refl _ wr).alloc (Nat.le_refl _) _
            obtain ⟨g, hg⟩ : ∃ g, g = wr.heap.size := ⟨_, rfl⟩
            rw [← hg] at hBk
            have e0 : ∀ q, (W1.drewN q).cell? ⟨g, 0, none⟩ = some (.int .i64 x1) := fun _ => hBk.cell 0
            have e1 : ∀ q, (W1.drewN q).cell? ⟨g, 1, none⟩ = some (.slice SA x2.length da) := fun _ => hBk.cell 1
            have HBK := Lib.hid hBk
            have HW1 := Lib.hid hW1
            have HG := Lib.hid hg
            have HBW := Lib.hid (below_then HB.out hb1 HB.out.size)
            have HSA := Lib.hid (sa.below hb1)
            clear hx hpx hbad hW1 hBk hb1 hg sa hfx
            by_cases hj0 : j = 0
            · have dj : decide ((0 : Int) < (j : Int)) = false := decide_eq_false (by omega)
              have djm : decide (0 < j) = false := decide_eq_false (by omega)
              have hlast : lastD l j = -1 := by unfold lastD; rw [if_pos hj0]
              have HLAST := Lib.hid hlast
              clear hlast hj0
              by_cases c1 : x1 < 0
              · have d2 : decide (x1 < 0) = true := decide_eq_true c1
                have hb : okAt l j = false := by
                  rw [Bool.eq_false_iff]
                  intro e
                  obtain ⟨q1, q2, q3, q4, -, -⟩ := okAt_iff.1 e
                  rw [HPX.out] at q1 q2 q3 q4
                  rw [HLAST.out] at q3
                  simp only at q1 q2 q3 q4
                  omega
                obtain rfl : R = 1 := HBAD.out hb
                clear hb
                go_wp2_with fail
                rw [← HW1.out, ← HG.out]
                go_quiet (fail)
                go_wp2
                go_ret
                exact ⟨rfl, below_drewN HBW.out _⟩
              · have d2 : decide (x1 < 0) = false := decide_eq_false c1
                by_cases c2 : 4294967296 < x1
                · have d3 : decide ((4294967296 : Int) < x1) = true := decide_eq_true c2
                  have hb : okAt l j = false := by
                    rw [Bool.eq_false_iff]
                    intro e
                    obtain ⟨q1, q2, q3, q4, -, -⟩ := okAt_iff.1 e
                    rw [HPX.out] at q1 q2 q3 q4
                    rw [HLAST.out] at q3
                    simp only at q1 q2 q3 q4
                    omega
                  obtain rfl : R = 1 := HBAD.out hb
                  clear hb
                  go_wp2_with fail
                  rw [← HW1.out, ← HG.out]
                  go_quiet (fail)
                  go_wp2
                  go_ret
                  exact ⟨rfl, below_drewN HBW.out _⟩
                · have d3 : decide ((4294967296 : Int) < x1) = false := decide_eq_false c2
                  by_cases c4 : x2.length = 0
                  · have d5 : ((x2.length : Int) == 0) = true := by rw [c4]; rfl
                    have C4 := Lib.hid c4
                    clear c4
                    have hb : okAt l j = false := by
                      rw [Bool.eq_false_iff]
                      intro e
                      obtain ⟨q1, q2, q3, q4, -, -⟩ := okAt_iff.1 e
                      rw [HPX.out] at q1 q2 q3 q4
                      rw [HLAST.out] at q3
                      simp only at q1 q2 q3 q4
                      have c4 := C4.out; omega
                    obtain rfl : R = 1 := HBAD.out hb
                    clear hb
                    go_wp2_with fail
                    rw [← HW1.out, ← HG.out]
                    go_quiet (fail)
                    go_wp2
                    go_ret
                    exact ⟨rfl, below_drewN HBW.out _⟩
                  · have d5 : ((x2.length : Int) == 0) = false := beq_eq_false_iff_ne.2 (fun e => c4 (by omega))
                    have hdoc : 0 ≤ x1 ∧ x1 ≤ 4294967296 ∧ lastD l j < x1 ∧ 0 < x2.length := by
                      rw [HLAST.out]
                      omega
                    have HDOC := Lib.hid hdoc
                    clear hdoc
                    go_wp2_with fail
                    rw [← HW1.out, ← HG.out]
                    go_quiet (fail)
                    have hk2 := HBK.out.drewN nq
                    have hB2 := below_drewN HBW.out nq
                    have hs2 := HSA.out.drewN nq
                    obtain ⟨W2, hW2⟩ : ∃ W2, W2 = W1.drewN nq := ⟨_, rfl⟩
                    rw [← hW2] at hk2 hB2 hs2 ⊢
                    have HBK2 := Lib.hid hk2
                    have HB2 := Lib.hid hB2
                    have HS2 := Lib.hid hs2
                    have t1 : W2.cell? ⟨g, 1, none⟩ = some (.slice SA x2.length da) := hk2.cell 1
                    clear hW2 hk2 hB2 hs2 e0 e1
                    go_wp2
                    go_loopw [6] (fun i wi => ∃ z : Nat, z ≤ x2.length ∧ i = .int .i64 z ∧ (∀ t, t < z → spAt x2 t = true) ∧ Below W2.heap.size W2 wi) (fun i _ => x2.length - (intOf i).toNat)
                    case atStart => exact ⟨0, by omega, rfl, fun t ht => by omega, Below.refl _ _⟩
                    case round =>
                      obtain ⟨z, hz, rfl, hsp, hBi⟩ := hrel
                      have HSP := Lib.hid hsp
                      have HBi := Lib.hid hBi
                      clear hsp hBi t1
                      have hkz := HBK2.out.below HBi.out HBK2.out.lt
                      have f1 : wr.cell? ⟨g, 1, none⟩ = some (.slice SA x2.length da) := hkz.cell 1
                      rcases Nat.lt_or_ge z x2.length with hz2 | hz2
                      · have hzi : (z : Int) < (x2.length : Int) := by omega
                        have z0 : (0 : Int) ≤ (z : Int) := by omega
                        have hw8 : IntKind.i64.wrap ((z : Int) + 1) = (z : Int) + 1 := IntWalk.i64_in _ (by omega)
                        obtain ⟨ps, v, rfl, hv, b0, b1, -, -⟩ := (HS2.out.below HBi.out).at z hz2
                        obtain ⟨v1, v2⟩ := v
                        simp only at b0 b1
                        obtain ⟨V1, hV1⟩ : ∃ V1, V1 = wr.alloc (.cells #[.int .i64 v1, .int .i64 v2] 48) := ⟨_, rfl⟩
                        have hvk : Blk V1 wr.heap.size 48 #[.int .i64 v1, .int .i64 v2] := by rw [hV1]; exact Blk.new _ _ _
                        have hvb : Below wr.heap.size wr V1 := by rw [hV1]; exact (Below.refl _ wr).alloc (Nat.le_refl _) _
                        obtain ⟨gg, hgg⟩ : ∃ gg, gg = wr.heap.size := ⟨_, rfl⟩
                        rw [← hgg] at hvk
                        have r0 : ∀ q, (V1.drewN q).cell? ⟨gg, 0, none⟩ = some (.int .i64 v1) := fun _ => hvk.cell 0
                        have r1 : ∀ q, (V1.drewN q).cell? ⟨gg, 1, none⟩ = some (.int .i64 v2) := fun _ => hvk.cell 1
                        have f1z : V1.cell? ⟨g, 1, none⟩ = some (.slice (some ps) x2.length da) := below_cells hvb f1
                        have f1q : ∀ q, (V1.drewN q).cell? ⟨g, 1, none⟩ = some (.slice (some ps) x2.length da) := fun _ => f1z
                        have HV1 := Lib.hid hV1
                        have HGG := Lib.hid hgg
                        have HBV2 := Lib.hid (below_then HBi.out hvb HBi.out.size)
                        have HBV := Lib.hid (below_then HB2.out HBV2.out HB2.out.size)
                        have hgv : x2.getD z (0, 0) = (v1, v2) := by rw [List.getD_eq_getElem?_getD, hv]; rfl
                        by_cases hz0 : z = 0
                        · have dz : decide ((0 : Int) < (z : Int)) = false := decide_eq_false (by omega)
                          have dzm : decide (0 < z) = false := decide_eq_false (by omega)
                          have hsz : spAt x2 z = (decide ((-1 : Int) < v1) && decide ((-1 : Int) < v2)) := by unfold spAt; rw [if_pos hz0, if_pos hz0, hgv]
                          have HSZ := Lib.hid hsz
                          clear hsz hv hgv hvk hvb hV1 hgg hkz f1z hz0
                          by_cases c6 : v1 < 0
                          · have m1 : decide (v1 < 0) = true := decide_eq_true c6
                            have hb : okAt l j = false := okAt_spots (by
                              rw [Bool.eq_false_iff]
                              intro e
                              rw [HPX.out] at e
                              have e2 := spots_rise.1 e z hz2
                              rw [HSZ.out, Bool.and_eq_true, decide_eq_true_eq, decide_eq_true_eq] at e2
                              omega)
                            obtain rfl : R = 1 := HBAD.out hb
                            clear hb
                            go_wp2_with fail
                            rw [← HV1.out, ← HGG.out]
                            go_quiet (fail)
                            go_wp2
                            go_ret
                            exact ⟨rfl, below_drewN HBV.out _⟩
                          · have m1 : decide (v1 < 0) = false := decide_eq_false c6
                            by_cases c7 : v2 < 0
                            · have m2 : decide (v2 < 0) = true := decide_eq_true c7
                              have hb : okAt l j = false := okAt_spots (by
                                rw [Bool.eq_false_iff]
                                intro e
                                rw [HPX.out] at e
                                have e2 := spots_rise.1 e z hz2
                                rw [HSZ.out, Bool.and_eq_true, decide_eq_true_eq, decide_eq_true_eq] at e2
                                omega)
                              obtain rfl : R = 1 := HBAD.out hb
                              clear hb
                              go_wp2_with fail
                              rw [← HV1.out, ← HGG.out]
                              go_quiet (fail)
                              go_wp2
                              go_ret
                              exact ⟨rfl, below_drewN HBV.out _⟩
                            · have m2 : decide (v2 < 0) = false := decide_eq_false c7
                              have hsz2 : spAt x2 z = true := by
                                rw [HSZ.out, Bool.and_eq_true, decide_eq_true_eq, decide_eq_true_eq]
                                omega
                              have HNX := Lib.hid hsz2
                              clear hsz2
                              go_wp2_with fail
                              rw [← HV1.out, ← HGG.out]
                              go_quiet (fail)
                              go_wp2
                              go_roundw
                              case rel => exact ⟨z + 1, by omega, by go_num, fun t ht => by
                                rcases Nat.lt_or_ge t z with h1 | h1
                                · exact HSP.out t h1
                                · obtain rfl : t = z := by omega
                                  exact HNX.out, below_drewN HBV2.out _⟩
                              case measure => simp [intOf]; omega
                        · have dz : decide ((0 : Int) < (z : Int)) = true := decide_eq_true (by omega)
                          have dzn : 0 < z := by omega
                          have dzm : decide (0 < z) = true := decide_eq_true dzn
                          obtain ⟨y, hy⟩ : ∃ y, z = y + 1 := ⟨z - 1, by omega⟩
                          have hw9 : IntKind.i64.wrap ((z : Int) - 1) = (y : Int) := by rw [show (z : Int) - 1 = (y : Int) by omega]; exact IntWalk.i64_in _ (by omega)
                          have y0 : (0 : Int) ≤ (y : Int) := by omega
                          have y1i : (y : Int) < (x2.length : Int) := by omega
                          have y1n : y < x2.length := by omega
                          obtain ⟨pt, u, hpt, hu, s0, s1, -, -⟩ := ((HS2.out.below HBi.out).below hvb).at y y1n
                          obtain rfl : ps = pt := Option.some.inj hpt
                          obtain ⟨u1, u2⟩ := u
                          simp only at s0 s1
                          have s0' : ∀ q, (V1.drewN q).cell? (ps.add (y * 2)) = some (.int .i64 u1) := fun _ => s0
                          have s1' : ∀ q, (V1.drewN q).cell? ⟨(ps.add (y * 2)).block, (ps.add (y * 2)).off + 1, none⟩ = some (.int .i64 u2) := fun _ => s1
                          have hgu : x2.getD (z - 1) (0, 0) = (u1, u2) := by rw [hy, Nat.add_sub_cancel, List.getD_eq_getElem?_getD, hu]; rfl
                          have hlow := sp_low HSP.out (z - 1) (by omega)
                          rw [hgu] at hlow
                          obtain ⟨hlo1, hlo2⟩ := hlow
                          simp only at hlo1 hlo2
                          have hsz : spAt x2 z = (decide (u1 < v1) && decide (u2 < v2)) := by unfold spAt; rw [if_neg hz0, if_neg hz0, hgv, hgu]
                          have HSZ := Lib.hid hsz
                          clear hsz hv hgv hvk hvb hV1 hgg hkz f1z hpt hu s0 s1 hgu hy
                          by_cases c6 : v1 < 0
                          · have m1 : decide (v1 < 0) = true := decide_eq_true c6
                            have hb : okAt l j = false := okAt_spots (by
                              rw [Bool.eq_false_iff]
                              intro e
                              rw [HPX.out] at e
                              have e2 := spots_rise.1 e z hz2
                              rw [HSZ.out, Bool.and_eq_true, decide_eq_true_eq, decide_eq_true_eq] at e2
                              omega)
                            obtain rfl : R = 1 := HBAD.out hb
                            clear hb
                            go_wp2_with fail
                            rw [← HV1.out, ← HGG.out]
                            go_quiet (fail)
                            go_wp2
                            go_ret
                            exact ⟨rfl, below_drewN HBV.out _⟩
                          · have m1 : decide (v1 < 0) = false := decide_eq_false c6
                            by_cases c7 : v2 < 0
                            · have m2 : decide (v2 < 0) = true := decide_eq_true c7
                              have hb : okAt l j = false := okAt_spots (by
                                rw [Bool.eq_false_iff]
                                intro e
                                rw [HPX.out] at e
                                have e2 := spots_rise.1 e z hz2
                                rw [HSZ.out, Bool.and_eq_true, decide_eq_true_eq, decide_eq_true_eq] at e2
                                omega)
                              obtain rfl : R = 1 := HBAD.out hb
                              clear hb
                              go_wp2_with fail
                              rw [← HV1.out, ← HGG.out]
                              go_quiet (fail)
                              go_wp2
                              go_ret
                              exact ⟨rfl, below_drewN HBV.out _⟩
                            · have m2 : decide (v2 < 0) = false := decide_eq_false c7
                              by_cases c8 : v1 ≤ u1
                              · have m3 : decide (v1 ≤ u1) = true := decide_eq_true c8
                                have hb : okAt l j = false := okAt_spots (by
                                  rw [Bool.eq_false_iff]
                                  intro e
                                  rw [HPX.out] at e
                                  have e2 := spots_rise.1 e z hz2
                                  rw [HSZ.out, Bool.and_eq_true, decide_eq_true_eq, decide_eq_true_eq] at e2
                                  omega)
                                obtain rfl : R = 1 := HBAD.out hb
                                clear hb
                                go_wp2_with fail
                                rw [← HV1.out, ← HGG.out]
                                go_quiet (fail)
                                go_wp2
                                go_ret
                                exact ⟨rfl, below_drewN HBV.out _⟩
                              · have m3 : decide (v1 ≤ u1) = false := decide_eq_false c8
                                by_cases c9 : v2 ≤ u2
                                · have m4 : decide (v2 ≤ u2) = true := decide_eq_true c9
                                  have hb : okAt l j = false := okAt_spots (by
                                    rw [Bool.eq_false_iff]
                                    intro e
                                    rw [HPX.out] at e
                                    have e2 := spots_rise.1 e z hz2
                                    rw [HSZ.out, Bool.and_eq_true, decide_eq_true_eq, decide_eq_true_eq] at e2
                                    omega)
                                  obtain rfl : R = 1 := HBAD.out hb
                                  clear hb
                                  go_wp2_with fail
                                  rw [← HV1.out, ← HGG.out]
                                  go_quiet (fail)
                                  go_wp2
                                  go_ret
                                  exact ⟨rfl, below_drewN HBV.out _⟩
                                · have m4 : decide (v2 ≤ u2) = false := decide_eq_false c9
                                  have hsz2 : spAt x2 z = true := by
                                    rw [HSZ.out, Bool.and_eq_true, decide_eq_true_eq, decide_eq_true_eq]
                                    omega
                                  have HNX := Lib.hid hsz2
                                  clear hsz2
                                  go_wp2_with fail
                                  rw [← HV1.out, ← HGG.out]
                                  go_quiet (fail)
                                  go_wp2
                                  go_roundw
                                  case rel => exact ⟨z + 1, by omega, by go_num, fun t ht => by
                                    rcases Nat.lt_or_ge t z with h1 | h1
                                    · exact HSP.out t h1
                                    · obtain rfl : t = z := by omega
                                      exact HNX.out, below_drewN HBV2.out _⟩
                                  case measure => simp [intOf]; omega
                      · obtain rfl : z = x2.length := by omega
                        have hlz3 : ¬ ((x2.length : Int) < (x2.length : Int)) := by omega
                        have hnext : okUp l (j + 1) = true := by
                          rw [okUp, HOK.out, Bool.true_and]
                          have hri := spots_rise.2 HSP.out
                          rw [Bool.and_eq_true] at hri
                          refine okAt_iff.2 ?_
                          rw [HPX.out]
                          exact ⟨HDOC.out.1, HDOC.out.2.1, HDOC.out.2.2.1, HDOC.out.2.2.2, hri.1, hri.2⟩
                        have HNEXT := Lib.hid hnext
                        have HFIN := Lib.hid (below_then HB2.out HBi.out HB2.out.size)
                        clear hnext hkz
                        go_wp2
                        exact ⟨⟨j + 1, by omega, by go_num, HNEXT.out, HFIN.out⟩, by simp [intOf]; omega⟩
            · have dj : decide ((0 : Int) < (j : Int)) = true := decide_eq_true (by omega)
              have djn : 0 < j := by omega
              have djm : decide (0 < j) = true := decide_eq_true djn
              obtain ⟨i, hi⟩ : ∃ i, j = i + 1 := ⟨j - 1, by omega⟩
              have hw7 : IntKind.i64.wrap ((j : Int) - 1) = (i : Int) := by rw [show (j : Int) - 1 = (i : Int) by omega]; exact IntWalk.i64_in _ (by omega)
              have i0 : (0 : Int) ≤ (i : Int) := by omega
              have i1 : (i : Int) < (k : Int) := by omega
              have i1n : i < k := by omega
              obtain ⟨pb, y, SB, db, hpb, hy, -, b0, -, -, -⟩ := (HP.out.below HBW.out).at i i1n
              obtain rfl : pa = pb := Option.some.inj hpb
              obtain ⟨y1, yy⟩ := y
              simp only at b0
              have b0' : ∀ q, (W1.drewN q).cell? (pa.add (i * 2)) = some (.int .i64 y1) := fun _ => b0
              have hlast : lastD l j = y1 := by unfold lastD; rw [if_neg hj0, hi, Nat.add_sub_cancel, pAt_eq hy]
              have HLAST := Lib.hid hlast
              clear hlast hpb hy b0 hi
              by_cases c1 : x1 < 0
              · have d2 : decide (x1 < 0) = true := decide_eq_true c1
                have hb : okAt l j = false := by
                  rw [Bool.eq_false_iff]
                  intro e
                  obtain ⟨q1, q2, q3, q4, -, -⟩ := okAt_iff.1 e
                  rw [HPX.out] at q1 q2 q3 q4
                  rw [HLAST.out] at q3
                  simp only at q1 q2 q3 q4
                  omega
                obtain rfl : R = 1 := HBAD.out hb
                clear hb
                go_wp2_with fail
                rw [← HW1.out, ← HG.out]
                go_quiet (fail)
                go_wp2
                go_ret
                exact ⟨rfl, below_drewN HBW.out _⟩
              · have d2 : decide (x1 < 0) = false := decide_eq_false c1
                by_cases c2 : 4294967296 < x1
                · have d3 : decide ((4294967296 : Int) < x1) = true := decide_eq_true c2
                  have hb : okAt l j = false := by
                    rw [Bool.eq_false_iff]
                    intro e
                    obtain ⟨q1, q2, q3, q4, -, -⟩ := okAt_iff.1 e
                    rw [HPX.out] at q1 q2 q3 q4
                    rw [HLAST.out] at q3
                    simp only at q1 q2 q3 q4
                    omega
                  obtain rfl : R = 1 := HBAD.out hb
                  clear hb
                  go_wp2_with fail
                  rw [← HW1.out, ← HG.out]
                  go_quiet (fail)
                  go_wp2
                  go_ret
                  exact ⟨rfl, below_drewN HBW.out _⟩
                · have d3 : decide ((4294967296 : Int) < x1) = false := decide_eq_false c2
                  by_cases c3 : x1 ≤ y1
                  · have d4 : decide (x1 ≤ y1) = true := decide_eq_true c3
                    have hb : okAt l j = false := by
                      rw [Bool.eq_false_iff]
                      intro e
                      obtain ⟨q1, q2, q3, q4, -, -⟩ := okAt_iff.1 e
                      rw [HPX.out] at q1 q2 q3 q4
                      rw [HLAST.out] at q3
                      simp only at q1 q2 q3 q4
                      omega
                    obtain rfl : R = 1 := HBAD.out hb
                    clear hb
                    go_wp2_with fail
                    rw [← HW1.out, ← HG.out]
                    go_quiet (fail)
                    go_wp2
                    go_ret
                    exact ⟨rfl, below_drewN HBW.out _⟩
                  · have d4 : decide (x1 ≤ y1) = false := decide_eq_false c3
                    by_cases c4 : x2.length = 0
                    · have d5 : ((x2.length : Int) == 0) = true := by rw [c4]; rfl
                      have C4 := Lib.hid c4
                      clear c4
                      have hb : okAt l j = false := by
                        rw [Bool.eq_false_iff]
                        intro e
                        obtain ⟨q1, q2, q3, q4, -, -⟩ := okAt_iff.1 e
                        rw [HPX.out] at q1 q2 q3 q4
                        rw [HLAST.out] at q3
                        simp only at q1 q2 q3 q4
                        have c4 := C4.out; omega
                      obtain rfl : R = 1 := HBAD.out hb
                      clear hb
                      go_wp2_with fail
                      rw [← HW1.out, ← HG.out]
                      go_quiet (fail)
                      go_wp2
                      go_ret
                      exact ⟨rfl, below_drewN HBW.out _⟩
                    · have d5 : ((x2.length : Int) == 0) = false := beq_eq_false_iff_ne.2 (fun e => c4 (by omega))
                      have hdoc : 0 ≤ x1 ∧ x1 ≤ 4294967296 ∧ lastD l j < x1 ∧ 0 < x2.length := by
                        rw [HLAST.out]
                        omega
                      have HDOC := Lib.hid hdoc
                      clear hdoc
                      go_wp2_with fail
                      rw [← HW1.out, ← HG.out]
                      go_quiet (fail)
                      have hk2 := HBK.out.drewN nq
                      have hB2 := below_drewN HBW.out nq
                      have hs2 := HSA.out.drewN nq
                      obtain ⟨W2, hW2⟩ : ∃ W2, W2 = W1.drewN nq := ⟨_, rfl⟩
                      rw [← hW2] at hk2 hB2 hs2 ⊢
                      have HBK2 := Lib.hid hk2
                      have HB2 := Lib.hid hB2
                      have HS2 := Lib.hid hs2
                      have t1 : W2.cell? ⟨g, 1, none⟩ = some (.slice SA x2.length da) := hk2.cell 1
                      clear hW2 hk2 hB2 hs2 e0 e1
                      go_wp2
                      go_loopw [6] (fun i wi => ∃ z : Nat, z ≤ x2.length ∧ i = .int .i64 z ∧ (∀ t, t < z → spAt x2 t = true) ∧ Below W2.heap.size W2 wi) (fun i _ => x2.length - (intOf i).toNat)
                      case atStart => exact ⟨0, by omega, rfl, fun t ht => by omega, Below.refl _ _⟩
                      case round =>
                        obtain ⟨z, hz, rfl, hsp, hBi⟩ := hrel
                        have HSP := Lib.hid hsp
                        have HBi := Lib.hid hBi
                        clear hsp hBi t1
                        have hkz := HBK2.out.below HBi.out HBK2.out.lt
                        have f1 : wr.cell? ⟨g, 1, none⟩ = some (.slice SA x2.length da) := hkz.cell 1
                        rcases Nat.lt_or_ge z x2.length with hz2 | hz2
                        · have hzi : (z : Int) < (x2.length : Int) := by omega
                          have z0 : (0 : Int) ≤ (z : Int) := by omega
                          have hw8 : IntKind.i64.wrap ((z : Int) + 1) = (z : Int) + 1 := IntWalk.i64_in _ (by omega)
                          obtain ⟨ps, v, rfl, hv, b0, b1, -, -⟩ := (HS2.out.below HBi.out).at z hz2
                          obtain ⟨v1, v2⟩ := v
                          simp only at b0 b1
                          obtain ⟨V1, hV1⟩ : ∃ V1, V1 = wr.alloc (.cells #[.int .i64 v1, .int .i64 v2] 48) := ⟨_, rfl⟩
                          have hvk : Blk V1 wr.heap.size 48 #[.int .i64 v1, .int .i64 v2] := by rw [hV1]; exact Blk.new _ _ _
                          have hvb : Below wr.heap.size wr V1 := by rw [hV1]; exact (Below.refl _ wr).alloc (Nat.le_refl _) _
                          obtain ⟨gg, hgg⟩ : ∃ gg, gg = wr.heap.size := ⟨_, rfl⟩
                          rw [← hgg] at hvk
                          have r0 : ∀ q, (V1.drewN q).cell? ⟨gg, 0, none⟩ = some (.int .i64 v1) := fun _ => hvk.cell 0
                          have r1 : ∀ q, (V1.drewN q).cell? ⟨gg, 1, none⟩ = some (.int .i64 v2) := fun _ => hvk.cell 1
                          have f1z : V1.cell? ⟨g, 1, none⟩ = some (.slice (some ps) x2.length da) := below_cells hvb f1
                          have f1q : ∀ q, (V1.drewN q).cell? ⟨g, 1, none⟩ = some (.slice (some ps) x2.length da) := fun _ => f1z
                          have HV1 := Lib.hid hV1
                          have HGG := Lib.hid hgg
                          have HBV2 := Lib.hid (below_then HBi.out hvb HBi.out.size)
                          have HBV := Lib.hid (below_then HB2.out HBV2.out HB2.out.size)
                          have hgv : x2.getD z (0, 0) = (v1, v2) := by rw [List.getD_eq_getElem?_getD, hv]; rfl
                          by_cases hz0 : z = 0
                          · have dz : decide ((0 : Int) < (z : Int)) = false := decide_eq_false (by omega)
                            have dzm : decide (0 < z) = false := decide_eq_false (by omega)
                            have hsz : spAt x2 z = (decide ((-1 : Int) < v1) && decide ((-1 : Int) < v2)) := by unfold spAt; rw [if_pos hz0, if_pos hz0, hgv]
                            have HSZ := Lib.hid hsz
                            clear hsz hv hgv hvk hvb hV1 hgg hkz f1z hz0
                            by_cases c6 : v1 < 0
                            · have m1 : decide (v1 < 0) = true := decide_eq_true c6
                              have hb : okAt l j = false := okAt_spots (by
                                rw [Bool.eq_false_iff]
                                intro e
                                rw [HPX.out] at e
                                have e2 := spots_rise.1 e z hz2
                                rw [HSZ.out, Bool.and_eq_true, decide_eq_true_eq, decide_eq_true_eq] at e2
                                omega)
                              obtain rfl : R = 1 := HBAD.out hb
                              clear hb
                              go_wp2_with fail
                              rw [← HV1.out, ← HGG.out]
                              go_quiet (fail)
                              go_wp2
                              go_ret
                              exact ⟨rfl, below_drewN HBV.out _⟩
                            · have m1 : decide (v1 < 0) = false := decide_eq_false c6
                              by_cases c7 : v2 < 0
                              · have m2 : decide (v2 < 0) = true := decide_eq_true c7
                                have hb : okAt l j = false := okAt_spots (by
                                  rw [Bool.eq_false_iff]
                                  intro e
                                  rw [HPX.out] at e
                                  have e2 := spots_rise.1 e z hz2
                                  rw [HSZ.out, Bool.and_eq_true, decide_eq_true_eq, decide_eq_true_eq] at e2
                                  omega)
                                obtain rfl : R = 1 := HBAD.out hb
                                clear hb
                                go_wp2_with fail
                                rw [← HV1.out, ← HGG.out]
                                go_quiet (fail)
                                go_wp2
                                go_ret
                                exact ⟨rfl, below_drewN HBV.out _⟩
                              · have m2 : decide (v2 < 0) = false := decide_eq_false c7
                                have hsz2 : spAt x2 z = true := by
                                  rw [HSZ.out, Bool.and_eq_true, decide_eq_true_eq, decide_eq_true_eq]
                                  omega
                                have HNX := Lib.hid hsz2
                                clear hsz2
                                go_wp2_with fail
                                rw [← HV1.out, ← HGG.out]
                                go_quiet (fail)
                                go_wp2
                                go_roundw
                                case rel => exact ⟨z + 1, by omega, by go_num, fun t ht => by
                                  rcases Nat.lt_or_ge t z with h1 | h1
                                  · exact HSP.out t h1
                                  · obtain rfl : t = z := by omega
                                    exact HNX.out, below_drewN HBV2.out _⟩
                                case measure => simp [intOf]; omega
                          · have dz : decide ((0 : Int) < (z : Int)) = true := decide_eq_true (by omega)
                            have dzn : 0 < z := by omega
                            have dzm : decide (0 < z) = true := decide_eq_true dzn
                            obtain ⟨y, hy⟩ : ∃ y, z = y + 1 := ⟨z - 1, by omega⟩
                            have hw9 : IntKind.i64.wrap ((z : Int) - 1) = (y : Int) := by rw [show (z : Int) - 1 = (y : Int) by omega]; exact IntWalk.i64_in _ (by omega)
                            have y0 : (0 : Int) ≤ (y : Int) := by omega
                            have y1i : (y : Int) < (x2.length : Int) := by omega
                            have y1n : y < x2.length := by omega
                            obtain ⟨pt, u, hpt, hu, s0, s1, -, -⟩ := ((HS2.out.below HBi.out).below hvb).at y y1n
                            obtain rfl : ps = pt := Option.some.inj hpt
                            obtain ⟨u1, u2⟩ := u
                            simp only at s0 s1
                            have s0' : ∀ q, (V1.drewN q).cell? (ps.add (y * 2)) = some (.int .i64 u1) := fun _ => s0
                            have s1' : ∀ q, (V1.drewN q).cell? ⟨(ps.add (y * 2)).block, (ps.add (y * 2)).off + 1, none⟩ = some (.int .i64 u2) := fun _ => s1
                            have hgu : x2.getD (z - 1) (0, 0) = (u1, u2) := by rw [hy, Nat.add_sub_cancel, List.getD_eq_getElem?_getD, hu]; rfl
                            have hlow := sp_low HSP.out (z - 1) (by omega)
                            rw [hgu] at hlow
                            obtain ⟨hlo1, hlo2⟩ := hlow
                            simp only at hlo1 hlo2
                            have hsz : spAt x2 z = (decide (u1 < v1) && decide (u2 < v2)) := by unfold spAt; rw [if_neg hz0, if_neg hz0, hgv, hgu]
                            have HSZ := Lib.hid hsz
                            clear hsz hv hgv hvk hvb hV1 hgg hkz f1z hpt hu s0 s1 hgu hy
                            by_cases c6 : v1 < 0
                            · have m1 : decide (v1 < 0) = true := decide_eq_true c6
                              have hb : okAt l j = false := okAt_spots (by
                                rw [Bool.eq_false_iff]
                                intro e
                                rw [HPX.out] at e
                                have e2 := spots_rise.1 e z hz2
                                rw [HSZ.out, Bool.and_eq_true, decide_eq_true_eq, decide_eq_true_eq] at e2
                                omega)
                              obtain rfl : R = 1 := HBAD.out hb
                              clear hb
                              go_wp2_with fail
                              rw [← HV1.out, ← HGG.out]
                              go_quiet (fail)
                              go_wp2
                              go_ret
                              exact ⟨rfl, below_drewN HBV.out _⟩
                            · have m1 : decide (v1 < 0) = false := decide_eq_false c6
                              by_cases c7 : v2 < 0
                              · have m2 : decide (v2 < 0) = true := decide_eq_true c7
                                have hb : okAt l j = false := okAt_spots (by
                                  rw [Bool.eq_false_iff]
                                  intro e
                                  rw [HPX.out] at e
                                  have e2 := spots_rise.1 e z hz2
                                  rw [HSZ.out, Bool.and_eq_true, decide_eq_true_eq, decide_eq_true_eq] at e2
                                  omega)
                                obtain rfl : R = 1 := HBAD.out hb
                                clear hb
                                go_wp2_with fail
                                rw [← HV1.out, ← HGG.out]
                                go_quiet (fail)
                                go_wp2
                                go_ret
                                exact ⟨rfl, below_drewN HBV.out _⟩
                              · have m2 : decide (v2 < 0) = false := decide_eq_false c7
                                by_cases c8 : v1 ≤ u1
                                · have m3 : decide (v1 ≤ u1) = true := decide_eq_true c8
                                  have hb : okAt l j = false := okAt_spots (by
                                    rw [Bool.eq_false_iff]
                                    intro e
                                    rw [HPX.out] at e
                                    have e2 := spots_rise.1 e z hz2
                                    rw [HSZ.out, Bool.and_eq_true, decide_eq_true_eq, decide_eq_true_eq] at e2
                                    omega)
                                  obtain rfl : R = 1 := HBAD.out hb
                                  clear hb
                                  go_wp2_with fail
                                  rw [← HV1.out, ← HGG.out]
                                  go_quiet (fail)
                                  go_wp2
                                  go_ret
                                  exact ⟨rfl, below_drewN HBV.out _⟩
                                · have m3 : decide (v1 ≤ u1) = false := decide_eq_false c8
                                  by_cases c9 : v2 ≤ u2
                                  · have m4 : decide (v2 ≤ u2) = true := decide_eq_true c9
                                    have hb : okAt l j = false := okAt_spots (by
                                      rw [Bool.eq_false_iff]
                                      intro e
                                      rw [HPX.out] at e
                                      have e2 := spots_rise.1 e z hz2
                                      rw [HSZ.out, Bool.and_eq_true, decide_eq_true_eq, decide_eq_true_eq] at e2
                                      omega)
                                    obtain rfl : R = 1 := HBAD.out hb
                                    clear hb
                                    go_wp2_with fail
                                    rw [← HV1.out, ← HGG.out]
                                    go_quiet (fail)
                                    go_wp2
                                    go_ret
                                    exact ⟨rfl, below_drewN HBV.out _⟩
                                  · have m4 : decide (v2 ≤ u2) = false := decide_eq_false c9
                                    have hsz2 : spAt x2 z = true := by
                                      rw [HSZ.out, Bool.and_eq_true, decide_eq_true_eq, decide_eq_true_eq]
                                      omega
                                    have HNX := Lib.hid hsz2
                                    clear hsz2
                                    go_wp2_with fail
                                    rw [← HV1.out, ← HGG.out]
                                    go_quiet (fail)
                                    go_wp2
                                    go_roundw
                                    case rel => exact ⟨z + 1, by omega, by go_num, fun t ht => by
                                      rcases Nat.lt_or_ge t z with h1 | h1
                                      · exact HSP.out t h1
                                      · obtain rfl : t = z := by omega
                                        exact HNX.out, below_drewN HBV2.out _⟩
                                    case measure => simp [intOf]; omega
                        · obtain rfl : z = x2.length := by omega
                          have hlz3 : ¬ ((x2.length : Int) < (x2.length : Int)) := by omega
                          have hnext : okUp l (j + 1) = true := by
                            rw [okUp, HOK.out, Bool.true_and]
                            have hri := spots_rise.2 HSP.out
                            rw [Bool.and_eq_true] at hri
                            refine okAt_iff.2 ?_
                            rw [HPX.out]
                            exact ⟨HDOC.out.1, HDOC.out.2.1, HDOC.out.2.2.1, HDOC.out.2.2.2, hri.1, hri.2⟩
                          have HNEXT := Lib.hid hnext
                          have HFIN := Lib.hid (below_then HB2.out HBi.out HB2.out.size)
                          clear hnext hkz
                          go_wp2
                          exact ⟨⟨j + 1, by omega, by go_num, HNEXT.out, HFIN.out⟩, by simp [intOf]; omega⟩
          · obtain rfl : j = k := by omega
            have hlz2 : ¬ ((j : Int) < (j : Int)) := by omega
            have hr : R = 0 := by rw [HR.out, check_good (by rw [HLEN.out]; omega) (by rw [HLEN.out]; exact HM0.out) (by rw [HLEN.out]; exact HOK.out)]
            subst hr
            go_wp2
            go_ret
            exact ⟨rfl, HB.out⟩
end Go.Proofs.Ytmnofmcfkchebaa
