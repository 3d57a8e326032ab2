/- The live question. -/
import Derived.Test.YtkligdaademakaaSePool
namespace Go.Proofs.Ytkligdaademakaa
open Go.RowKit Go.Maps Go.WideMaps
set_option linter.unusedSimpArgs false

theorem head_l1 : listI [1, 3, 5] = [1, 3, 5] := by decide
theorem head_l2 : listI [3, 4, 5] = [3, 4, 5] := by decide
theorem head_and : andL [[1, 3, 5], [3, 4, 5]] = [3, 5] := by decide
theorem head_or : orL [[1, 3, 5], [3, 4, 5]] = [1, 3, 4, 5] := by simp [orL, orI]
theorem head_less : lessI [1, 3, 5] [3, 4, 5] = [1] := by decide
theorem lit_fits (a b c : Int) (h : -9223372036854775808 ≤ a ∧ a ≤ 9223372036854775807) (h2 : -9223372036854775808 ≤ b ∧ b ≤ 9223372036854775807) (h3 : -9223372036854775808 ≤ c ∧ c ≤ 9223372036854775807) : ∀ x ∈ [a, b, c], -9223372036854775808 ≤ x ∧ x ≤ 9223372036854775807 := by
  intro x hx
  simp at hx
  rcases hx with rfl | rfl | rfl <;> assumption

set_option maxHeartbeats 8000000 in
set_option maxRecDepth 100000 in
theorem seHead_any {S : SetP} (hS : SetsOk S) (w : World) : Calls Try.prog 8 #[] w fun e w' => e = .returned (.bool true) ∧ Below w.heap.size w w' := by
  have HP := Lib.hid (Pool.start S w)
  go_enter Try.func8, Try.ntmps8
  have hn1 := (HP.out).nums hS [1, 3, 5] (lit_fits _ _ _ (by omega) (by omega) (by omega)) (by unfold maxLen; simp)
  obtain ⟨G1, hG1⟩ : ∃ z : Nat → Prop, z = fun b => ((fun b => b < w.heap.size)) b ∨ b = w.heap.size := ⟨_, rfl⟩
  rw [← hG1] at hn1
  have hc1 := hn1.1.list2 hS hn1.2.1 (c := 3) (by simp) (by simp)
  rw [head_l1] at hc1
  have HC1 := Lib.hid hc1
  clear hn1 hc1 hG1
  go_wp2_with fail
  refine HC1.out.mono ?_
  rintro e w1 ⟨y1, rfl, hl1, hp1, -⟩
  have HL1 := Lib.hid hl1
  have HP1 := Lib.hid hp1
  clear hl1 hp1
  have hn2 := (HP1.out).nums hS [3, 4, 5] (lit_fits _ _ _ (by omega) (by omega) (by omega)) (by unfold maxLen; simp)
  obtain ⟨G2, hG2⟩ : ∃ z : Nat → Prop, z = fun b => (G1) b ∨ b = w1.heap.size := ⟨_, rfl⟩
  rw [← hG2] at hn2
  have hc2 := hn2.1.list2 hS hn2.2.1 (c := 3) (by simp) (by simp)
  rw [head_l2] at hc2
  have HC2 := Lib.hid hc2
  clear hn2 hc2 hG2
  go_wp2_with fail
  refine HC2.out.mono ?_
  rintro e w2 ⟨y2, rfl, hl2, hp2, -⟩
  have HL2 := Lib.hid hl2
  have HP2 := Lib.hid hp2
  clear hl2 hp2
  have hq3 : Pool S w w2 G2 ([] ++ [y1, y2]) := by simpa using HP2.out
  have hc3 := hq3.andRow hS (by simp)
  simp only [List.map_cons, List.map_nil, HL1.out, HL2.out, head_and] at hc3
  have HC3 := Lib.hid hc3
  clear hq3 hc3
  go_wp2_with fail
  refine HC3.out.mono ?_
  rintro e w3 ⟨sa, rfl, hl3, hp3, -⟩
  have HL3 := Lib.hid hl3
  have HP3 := Lib.hid hp3
  clear hl3 hp3
  have hn4 := (HP3.out).nums hS [1, 3, 5] (lit_fits _ _ _ (by omega) (by omega) (by omega)) (by unfold maxLen; simp)
  obtain ⟨G4, hG4⟩ : ∃ z : Nat → Prop, z = fun b => (G2) b ∨ b = w3.heap.size := ⟨_, rfl⟩
  rw [← hG4] at hn4
  have hc4 := hn4.1.list2 hS hn4.2.1 (c := 3) (by simp) (by simp)
  rw [head_l1] at hc4
  have HC4 := Lib.hid hc4
  clear hn4 hc4 hG4
  go_wp2_with fail
  refine HC4.out.mono ?_
  rintro e w4 ⟨y4, rfl, hl4, hp4, -⟩
  have HL4 := Lib.hid hl4
  have HP4 := Lib.hid hp4
  clear hl4 hp4
  have hn5 := (HP4.out).nums hS [3, 4, 5] (lit_fits _ _ _ (by omega) (by omega) (by omega)) (by unfold maxLen; simp)
  obtain ⟨G5, hG5⟩ : ∃ z : Nat → Prop, z = fun b => (G4) b ∨ b = w4.heap.size := ⟨_, rfl⟩
  rw [← hG5] at hn5
  have hc5 := hn5.1.list2 hS hn5.2.1 (c := 3) (by simp) (by simp)
  rw [head_l2] at hc5
  have HC5 := Lib.hid hc5
  clear hn5 hc5 hG5
  go_wp2_with fail
  refine HC5.out.mono ?_
  rintro e w5 ⟨y5, rfl, hl5, hp5, -⟩
  have HL5 := Lib.hid hl5
  have HP5 := Lib.hid hp5
  clear hl5 hp5
  have hq6 : Pool S w w5 G5 ([sa] ++ [y4, y5]) := by simpa using HP5.out
  have hc6 := hq6.orRow hS (by simp)
  simp only [List.map_cons, List.map_nil, HL4.out, HL5.out, head_or] at hc6
  have HC6 := Lib.hid hc6
  clear hq6 hc6
  go_wp2_with fail
  refine HC6.out.mono ?_
  rintro e w6 ⟨sb, rfl, hl6, hp6, -⟩
  have HL6 := Lib.hid hl6
  have HP6 := Lib.hid hp6
  clear hl6 hp6
  have hn7 := (HP6.out).nums hS [1, 3, 5] (lit_fits _ _ _ (by omega) (by omega) (by omega)) (by unfold maxLen; simp)
  obtain ⟨G7, hG7⟩ : ∃ z : Nat → Prop, z = fun b => (G5) b ∨ b = w6.heap.size := ⟨_, rfl⟩
  rw [← hG7] at hn7
  have hc7 := hn7.1.list2 hS hn7.2.1 (c := 3) (by simp) (by simp)
  rw [head_l1] at hc7
  have HC7 := Lib.hid hc7
  clear hn7 hc7 hG7
  go_wp2_with fail
  refine HC7.out.mono ?_
  rintro e w7 ⟨y7, rfl, hl7, hp7, -⟩
  have HL7 := Lib.hid hl7
  have HP7 := Lib.hid hp7
  clear hl7 hp7
  have hn8 := (HP7.out).nums hS [3, 4, 5] (lit_fits _ _ _ (by omega) (by omega) (by omega)) (by unfold maxLen; simp)
  obtain ⟨G8, hG8⟩ : ∃ z : Nat → Prop, z = fun b => (G7) b ∨ b = w7.heap.size := ⟨_, rfl⟩
  rw [← hG8] at hn8
  have hc8 := hn8.1.list2 hS hn8.2.1 (c := 3) (by simp) (by simp)
  rw [head_l2] at hc8
  have HC8 := Lib.hid hc8
  clear hn8 hc8 hG8
  go_wp2_with fail
  refine HC8.out.mono ?_
  rintro e w8 ⟨y8, rfl, hl8, hp8, -⟩
  have HL8 := Lib.hid hl8
  have HP8 := Lib.hid hp8
  clear hl8 hp8
  have hq9 : Pool S w w8 G8 ([sa, sb] ++ [y7, y8]) := by simpa using HP8.out
  have hc9 := hq9.less2 hS
  simp only [List.map_cons, List.map_nil, HL7.out, HL8.out, head_less] at hc9
  have HC9 := Lib.hid hc9
  clear hq9 hc9
  go_wp2_with fail
  refine HC9.out.mono ?_
  rintro e w9 ⟨sc, rfl, hl9, hp9, -⟩
  have HL9 := Lib.hid hl9
  have HP9 := Lib.hid hp9
  clear hl9 hp9
  have hq10 : Pool S w w9 G8 ([sb, sc] ++ [sa]) := by
    have h0 : Pool S w w9 G8 [sa, sb, sc] := by simpa using HP9.out
    exact h0.perm (by first | exact List.Perm.refl _ | exact List.perm_append_comm (l₁ := [sa]) (l₂ := [sb, sc]) | exact List.perm_append_comm (l₁ := [sb]) (l₂ := [sc]))
  have hc10 := hq10.gather hS (by rw [HL3.out]; decide)
  rw [HL3.out] at hc10
  have HC10 := Lib.hid hc10
  clear hq10 hc10
  go_wp2_with fail
  refine HC10.out.mono ?_
  rintro e w10 ⟨A10, c10, G10, rfl, -, hp10, hm10, hg10, -⟩
  have HP10 := Lib.hid hp10
  have HM10 := Lib.hid hm10
  clear hp10 hm10 hg10
  have hq11 : Pool S w w10 G10 ([sc] ++ [sb]) := by
    have h0 : Pool S w w10 G10 [sb, sc] := by simpa using HP10.out
    exact h0.perm (by first | exact List.Perm.refl _ | exact List.perm_append_comm (l₁ := [sa]) (l₂ := [sb, sc]) | exact List.perm_append_comm (l₁ := [sb]) (l₂ := [sc]))
  have hc11 := hq11.gather hS (by rw [HL6.out]; decide)
  rw [HL6.out] at hc11
  have HC11 := Lib.hid hc11
  clear hq11 hc11
  go_wp2_with fail
  refine HC11.out.mono ?_
  rintro e w11 ⟨A11, c11, G11, rfl, -, hp11, hm11, hg11, -⟩
  have HP11 := Lib.hid hp11
  have HM11 := Lib.hid hm11
  have HM10_11 := Lib.hid (HM10.out.goes hg11)
  clear hp11 hm11 hg11
  have hq12 : Pool S w w11 G11 ([] ++ [sc]) := by
    have h0 : Pool S w w11 G11 [sc] := by simpa using HP11.out
    exact h0.perm (by first | exact List.Perm.refl _ | exact List.perm_append_comm (l₁ := [sa]) (l₂ := [sb, sc]) | exact List.perm_append_comm (l₁ := [sb]) (l₂ := [sc]))
  have hc12 := hq12.gather hS (by rw [HL9.out]; decide)
  rw [HL9.out] at hc12
  have HC12 := Lib.hid hc12
  clear hq12 hc12
  go_wp2_with fail
  refine HC12.out.mono ?_
  rintro e w12 ⟨A12, c12, G12, rfl, -, hp12, hm12, hg12, -⟩
  have HP12 := Lib.hid hp12
  have HM12 := Lib.hid hm12
  have HM10_12 := Lib.hid (HM10_11.out.goes hg12)
  have HM11_12 := Lib.hid (HM11.out.goes hg12)
  clear hp12 hm12 hg12
  have HX := Lib.hid HM10_12.out.1
  have HY := Lib.hid HM11_12.out.1
  have HZ := Lib.hid HM12.out.1
  obtain ⟨pa, x0, rfl, hx0, a0, -, -⟩ := HX.out.at 0 (by simp)
  obtain ⟨pb, y0, rfl, hy0, b0, -, -⟩ := HY.out.at 2 (by simp)
  obtain ⟨pc, z0, rfl, hz0, c0', -, -⟩ := HZ.out.at 0 (by simp)
  obtain rfl : 3 = x0 := by simpa using hx0
  obtain rfl : 4 = y0 := by simpa using hy0
  obtain rfl : 1 = z0 := by simpa using hz0
  have a1 : w12.cell? pa = some (.int .i64 3) := by simpa [Addr.add] using a0
  have b1 : w12.cell? ⟨pb.block, pb.off + 2, none⟩ = some (.int .i64 4) := by simpa [Addr.add] using b0
  have c1 : w12.cell? pc = some (.int .i64 1) := by simpa [Addr.add] using c0'
  have pa0 : pa.add 0 = pa := by simp [Addr.add]
  have pc0 : pc.add 0 = pc := by simp [Addr.add]
  have HALL := Lib.hid (HP12.out.all hS 3 (by omega) (by omega))
  simp only [List.length_cons, List.length_nil, Nat.zero_add, Nat.reduceAdd]
  clear hx0 hy0 hz0
  go_wp2_with fail
  refine HALL.out.mono ?_
  rintro e w13 ⟨y, rfl, hl, hp, -⟩
  have HG := Lib.hid (hp.gather hS (by rw [hl]; simp [allI]))
  rw [hl] at HG
  clear hl hp
  go_wp2_with fail
  refine HG.out.mono ?_
  rintro e w14 ⟨A14, c14, G14, rfl, -, hp, -, -⟩
  have HB := Lib.hid hp.below
  clear hp
  have hl3 : (allI (Int.toNat 3)).length = 3 := by decide
  rw [hl3]
  go_wp2
  go_ret
  exact ⟨rfl, HB.out⟩
end Go.Proofs.Ytkligdaademakaa
