/- SetsLaws. -/
import Derived.Test.YtkligdaademakaaSeHead
import Derived.Test.YtkligdaademakaaSeMath2
import Derived.Test.YtkligdaademakaaSeLen
import Derived.Test.YtkligdaademakaaLRef8
namespace Go.Proofs.Ytkligdaademakaa
open Go.RowKit Go.Maps Go.WideMaps
set_option linter.unusedSimpArgs false

set_option maxHeartbeats 16000000 in
set_option maxRecDepth 100000 in
theorem setsLaws_any {S : SetP} (hS : SetsOk S) (W : World) (A B D : Option Addr) (na nb nd ca cb cd : Nat) (a b d : List Int) (ha : IntsIn W A na a) (hb : IntsIn W B nb b) (hd : IntsIn W D nd d) (hca : na ≤ ca) (hcb : nb ≤ cb) (hcd : nd ≤ cd) (hza : na ≤ 140737488351232) (hzb : nb ≤ 140737488351232) (hzd : nd ≤ 140737488351232) :
    Calls Try.prog 5 #[.slice A na ca, .slice B nb cb, .slice D nd cd] W fun e w' => e = .returned (.bool true) ∧ Below W.heap.size W w' := by
  have N_a := Lib.hid (show Nums (fun b => b < W.heap.size) W A na a from ⟨ha, ha.2.2.2⟩)
  have N_b := Lib.hid (show Nums (fun b => b < W.heap.size) W B nb b from ⟨hb, hb.2.2.2⟩)
  have N_d := Lib.hid (show Nums (fun b => b < W.heap.size) W D nd d from ⟨hd, hd.2.2.2⟩)
  have HP0 := Lib.hid (Pool.start S W)
  have hw1 : IntKind.i64.wrap ((na : Int) + (nb : Int)) = (na : Int) + (nb : Int) := IntWalk.i64_in _ (by omega)
  have hw2 : IntKind.i64.wrap ((na : Int) + (nb : Int) + (nd : Int)) = (na : Int) + (nb : Int) + (nd : Int) := IntWalk.i64_in _ (by omega)
  obtain ⟨la, hla⟩ : ∃ z, z = listI a := ⟨_, rfl⟩
  obtain ⟨lb, hlb⟩ : ∃ z, z = listI b := ⟨_, rfl⟩
  obtain ⟨ld, hld⟩ : ∃ z, z = listI d := ⟨_, rfl⟩
  have HRA : Hid (rises (-1) la = true) := Lib.hid (by rw [hla]; exact list_rise a)
  have HRB : Hid (rises (-1) lb = true) := Lib.hid (by rw [hlb]; exact list_rise b)
  have HRD : Hid (rises (-1) ld = true) := Lib.hid (by rw [hld]; exact list_rise d)
  have Za : Hid (la.length ≤ na) := Lib.hid (by rw [hla]; exact few_list ha)
  have Zb : Hid (lb.length ≤ nb) := Lib.hid (by rw [hlb]; exact few_list hb)
  have Zd : Hid (ld.length ≤ nd) := Lib.hid (by rw [hld]; exact few_list hd)
  have L_a := Lib.hid hla.symm
  have L_b := Lib.hid hlb.symm
  have L_d := Lib.hid hld.symm
  clear ha hb hd hla hlb hld
  go_enter Try.func5, Try.ntmps5
  go_wp2_with fail
  refine (seHead_any hS W).mono ?_
  rintro e w0 ⟨rfl, hb0⟩
  have hg0 := Goes.below hb0 (fun (b : Nat) (e : b < W.heap.size) => e)
  have N_a := Lib.hid (N_a.out.goes hg0)
  have N_b := Lib.hid (N_b.out.goes hg0)
  have N_d := Lib.hid (N_d.out.goes hg0)
  have HP0 := Lib.hid (HP0.out.later hS hb0)
  have HB0 := Lib.hid hb0
  clear hb0 hg0
  by_cases hbig : 600 < na + nb + nd
  · have d1 : decide ((600 : Int) < (na : Int) + (nb : Int) + (nd : Int)) = true := decide_eq_true (by omega)
    go_wp2
    go_ret
    exact ⟨rfl, HB0.out⟩
  have d1 : decide ((600 : Int) < (na : Int) + (nb : Int) + (nd : Int)) = false := decide_eq_false (by omega)
  have hna : na ≤ 600 := by omega
  have hnb : nb ≤ 600 := by omega
  have hnd : nd ≤ 600 := by omega
  have hc1 := HP0.out.list2 hS N_a.out hca (by omega)
  rw [L_a.out] at hc1
  have HC1 := Lib.hid hc1
  clear hc1
  go_wp2_with fail
  refine HC1.out.mono ?_
  rintro e w1 ⟨x1, rfl, hl1, hp1, hg1⟩
  clear HC1 HP0
  have HL1 := Lib.hid hl1
  have HP1 := Lib.hid hp1
  replace N_a := Lib.hid (N_a.out.goes hg1)
  replace N_b := Lib.hid (N_b.out.goes hg1)
  replace N_d := Lib.hid (N_d.out.goes hg1)
  clear hl1 hp1 hg1
  have hc2 := HP1.out.list2 hS N_b.out hcb (by omega)
  rw [L_b.out] at hc2
  have HC2 := Lib.hid hc2
  clear hc2
  go_wp2_with fail
  refine HC2.out.mono ?_
  rintro e w2 ⟨x2, rfl, hl2, hp2, hg2⟩
  clear HC2 HP1
  have HL2 := Lib.hid hl2
  have HP2 := Lib.hid hp2
  replace N_a := Lib.hid (N_a.out.goes hg2)
  replace N_b := Lib.hid (N_b.out.goes hg2)
  replace N_d := Lib.hid (N_d.out.goes hg2)
  clear hl2 hp2 hg2
  have hq3 : Pool S W w2 (fun b => b < W.heap.size) ([] ++ [x1, x2]) := by simpa using HP2.out
  have hc3 := hq3.andRow hS (by simp)
  simp only [List.map_cons, List.map_nil, HL1.out, HL2.out] at hc3
  have HC3 := Lib.hid hc3
  clear hq3 hc3
  go_wp2_with fail
  refine HC3.out.mono ?_
  rintro e w3 ⟨s1, rfl, hl3, hp3, hg3⟩
  clear HC3 HP2
  have HL3 := Lib.hid hl3
  have HP3 := Lib.hid hp3
  replace N_a := Lib.hid (N_a.out.goes hg3)
  replace N_b := Lib.hid (N_b.out.goes hg3)
  replace N_d := Lib.hid (N_d.out.goes hg3)
  clear hl3 hp3 hg3
  have hq4 : Pool S W w3 (fun b => b < W.heap.size) ([] ++ [s1]) := by simpa using HP3.out
  have hc4 := hq4.gather hS (by rw [HL3.out]; exact Nat.le_trans (few_and (Za.out)) (by omega))
  rw [HL3.out] at hc4
  have HC4 := Lib.hid hc4
  clear hq4 hc4
  go_wp2_with fail
  refine HC4.out.mono ?_
  rintro e w4 ⟨Aone, cone, G4, rfl, -, hp4, hm4, hg4, -⟩
  clear HC4 HP3
  have HP4 := Lib.hid hp4
  replace N_a := Lib.hid (N_a.out.goes hg4)
  replace N_b := Lib.hid (N_b.out.goes hg4)
  replace N_d := Lib.hid (N_d.out.goes hg4)
  have N_one := Lib.hid hm4
  obtain ⟨lone, hl4⟩ : ∃ z, z = andL [la, lb] := ⟨_, rfl⟩
  rw [← hl4] at N_one ⊢
  have V_one := Lib.hid hl4
  clear hp4 hm4 hg4 hl4
  have hc5 := HP4.out.list2 hS N_b.out hcb (by omega)
  rw [L_b.out] at hc5
  have HC5 := Lib.hid hc5
  clear hc5
  go_wp2_with fail
  refine HC5.out.mono ?_
  rintro e w5 ⟨x3, rfl, hl5, hp5, hg5⟩
  clear HC5 HP4
  have HL5 := Lib.hid hl5
  have HP5 := Lib.hid hp5
  replace N_a := Lib.hid (N_a.out.goes hg5)
  replace N_b := Lib.hid (N_b.out.goes hg5)
  replace N_d := Lib.hid (N_d.out.goes hg5)
  replace N_one := Lib.hid (N_one.out.goes hg5)
  clear hl5 hp5 hg5
  have hc6 := HP5.out.list2 hS N_a.out hca (by omega)
  rw [L_a.out] at hc6
  have HC6 := Lib.hid hc6
  clear hc6
  go_wp2_with fail
  refine HC6.out.mono ?_
  rintro e w6 ⟨x4, rfl, hl6, hp6, hg6⟩
  clear HC6 HP5
  have HL6 := Lib.hid hl6
  have HP6 := Lib.hid hp6
  replace N_a := Lib.hid (N_a.out.goes hg6)
  replace N_b := Lib.hid (N_b.out.goes hg6)
  replace N_d := Lib.hid (N_d.out.goes hg6)
  replace N_one := Lib.hid (N_one.out.goes hg6)
  clear hl6 hp6 hg6
  have hq7 : Pool S W w6 G4 ([] ++ [x3, x4]) := by simpa using HP6.out
  have hc7 := hq7.andRow hS (by simp)
  simp only [List.map_cons, List.map_nil, HL5.out, HL6.out] at hc7
  have HC7 := Lib.hid hc7
  clear hq7 hc7
  go_wp2_with fail
  refine HC7.out.mono ?_
  rintro e w7 ⟨s2, rfl, hl7, hp7, hg7⟩
  clear HC7 HP6
  have HL7 := Lib.hid hl7
  have HP7 := Lib.hid hp7
  replace N_a := Lib.hid (N_a.out.goes hg7)
  replace N_b := Lib.hid (N_b.out.goes hg7)
  replace N_d := Lib.hid (N_d.out.goes hg7)
  replace N_one := Lib.hid (N_one.out.goes hg7)
  clear hl7 hp7 hg7
  have hq8 : Pool S W w7 G4 ([] ++ [s2]) := by simpa using HP7.out
  have hc8 := hq8.gather hS (by rw [HL7.out]; exact Nat.le_trans (few_and (Zb.out)) (by omega))
  rw [HL7.out] at hc8
  have HC8 := Lib.hid hc8
  clear hq8 hc8
  go_wp2_with fail
  refine HC8.out.mono ?_
  rintro e w8 ⟨Atwo, ctwo, G8, rfl, -, hp8, hm8, hg8, -⟩
  clear HC8 HP7
  have HP8 := Lib.hid hp8
  replace N_a := Lib.hid (N_a.out.goes hg8)
  replace N_b := Lib.hid (N_b.out.goes hg8)
  replace N_d := Lib.hid (N_d.out.goes hg8)
  replace N_one := Lib.hid (N_one.out.goes hg8)
  have N_two := Lib.hid hm8
  obtain ⟨ltwo, hl8⟩ : ∃ z, z = andL [lb, la] := ⟨_, rfl⟩
  rw [← hl8] at N_two ⊢
  have V_two := Lib.hid hl8
  clear hp8 hm8 hg8 hl8
  have hc9 := HP8.out.list2 hS N_a.out hca (by omega)
  rw [L_a.out] at hc9
  have HC9 := Lib.hid hc9
  clear hc9
  go_wp2_with fail
  refine HC9.out.mono ?_
  rintro e w9 ⟨x5, rfl, hl9, hp9, hg9⟩
  clear HC9 HP8
  have HL9 := Lib.hid hl9
  have HP9 := Lib.hid hp9
  replace N_a := Lib.hid (N_a.out.goes hg9)
  replace N_b := Lib.hid (N_b.out.goes hg9)
  replace N_d := Lib.hid (N_d.out.goes hg9)
  replace N_one := Lib.hid (N_one.out.goes hg9)
  replace N_two := Lib.hid (N_two.out.goes hg9)
  clear hl9 hp9 hg9
  have hc10 := HP9.out.list2 hS N_b.out hcb (by omega)
  rw [L_b.out] at hc10
  have HC10 := Lib.hid hc10
  clear hc10
  go_wp2_with fail
  refine HC10.out.mono ?_
  rintro e w10 ⟨x6, rfl, hl10, hp10, hg10⟩
  clear HC10 HP9
  have HL10 := Lib.hid hl10
  have HP10 := Lib.hid hp10
  replace N_a := Lib.hid (N_a.out.goes hg10)
  replace N_b := Lib.hid (N_b.out.goes hg10)
  replace N_d := Lib.hid (N_d.out.goes hg10)
  replace N_one := Lib.hid (N_one.out.goes hg10)
  replace N_two := Lib.hid (N_two.out.goes hg10)
  clear hl10 hp10 hg10
  have hc11 := HP10.out.list2 hS N_d.out hcd (by omega)
  rw [L_d.out] at hc11
  have HC11 := Lib.hid hc11
  clear hc11
  go_wp2_with fail
  refine HC11.out.mono ?_
  rintro e w11 ⟨x7, rfl, hl11, hp11, hg11⟩
  clear HC11 HP10
  have HL11 := Lib.hid hl11
  have HP11 := Lib.hid hp11
  replace N_a := Lib.hid (N_a.out.goes hg11)
  replace N_b := Lib.hid (N_b.out.goes hg11)
  replace N_d := Lib.hid (N_d.out.goes hg11)
  replace N_one := Lib.hid (N_one.out.goes hg11)
  replace N_two := Lib.hid (N_two.out.goes hg11)
  clear hl11 hp11 hg11
  have hq12 : Pool S W w11 G8 ([] ++ [x5, x6, x7]) := by simpa using HP11.out
  have hc12 := hq12.orRow hS (by simp)
  simp only [List.map_cons, List.map_nil, HL9.out, HL10.out, HL11.out] at hc12
  have HC12 := Lib.hid hc12
  clear hq12 hc12
  go_wp2_with fail
  refine HC12.out.mono ?_
  rintro e w12 ⟨s3, rfl, hl12, hp12, hg12⟩
  clear HC12 HP11
  have HL12 := Lib.hid hl12
  have HP12 := Lib.hid hp12
  replace N_a := Lib.hid (N_a.out.goes hg12)
  replace N_b := Lib.hid (N_b.out.goes hg12)
  replace N_d := Lib.hid (N_d.out.goes hg12)
  replace N_one := Lib.hid (N_one.out.goes hg12)
  replace N_two := Lib.hid (N_two.out.goes hg12)
  clear hl12 hp12 hg12
  have hq13 : Pool S W w12 G8 ([] ++ [s3]) := by simpa using HP12.out
  have hc13 := hq13.gather hS (by rw [HL12.out]; exact Nat.le_trans (few_or3 (Za.out) (Zb.out) (Zd.out)) (by omega))
  rw [HL12.out] at hc13
  have HC13 := Lib.hid hc13
  clear hq13 hc13
  go_wp2_with fail
  refine HC13.out.mono ?_
  rintro e w13 ⟨Athree, cthree, G13, rfl, -, hp13, hm13, hg13, -⟩
  clear HC13 HP12
  have HP13 := Lib.hid hp13
  replace N_a := Lib.hid (N_a.out.goes hg13)
  replace N_b := Lib.hid (N_b.out.goes hg13)
  replace N_d := Lib.hid (N_d.out.goes hg13)
  replace N_one := Lib.hid (N_one.out.goes hg13)
  replace N_two := Lib.hid (N_two.out.goes hg13)
  have N_three := Lib.hid hm13
  obtain ⟨lthree, hl13⟩ : ∃ z, z = orL [la, lb, ld] := ⟨_, rfl⟩
  rw [← hl13] at N_three ⊢
  have V_three := Lib.hid hl13
  clear hp13 hm13 hg13 hl13
  have hc14 := HP13.out.list2 hS N_d.out hcd (by omega)
  rw [L_d.out] at hc14
  have HC14 := Lib.hid hc14
  clear hc14
  go_wp2_with fail
  refine HC14.out.mono ?_
  rintro e w14 ⟨x8, rfl, hl14, hp14, hg14⟩
  clear HC14 HP13
  have HL14 := Lib.hid hl14
  have HP14 := Lib.hid hp14
  replace N_a := Lib.hid (N_a.out.goes hg14)
  replace N_b := Lib.hid (N_b.out.goes hg14)
  replace N_d := Lib.hid (N_d.out.goes hg14)
  replace N_one := Lib.hid (N_one.out.goes hg14)
  replace N_two := Lib.hid (N_two.out.goes hg14)
  replace N_three := Lib.hid (N_three.out.goes hg14)
  clear hl14 hp14 hg14
  have hc15 := HP14.out.list2 hS N_b.out hcb (by omega)
  rw [L_b.out] at hc15
  have HC15 := Lib.hid hc15
  clear hc15
  go_wp2_with fail
  refine HC15.out.mono ?_
  rintro e w15 ⟨x9, rfl, hl15, hp15, hg15⟩
  clear HC15 HP14
  have HL15 := Lib.hid hl15
  have HP15 := Lib.hid hp15
  replace N_a := Lib.hid (N_a.out.goes hg15)
  replace N_b := Lib.hid (N_b.out.goes hg15)
  replace N_d := Lib.hid (N_d.out.goes hg15)
  replace N_one := Lib.hid (N_one.out.goes hg15)
  replace N_two := Lib.hid (N_two.out.goes hg15)
  replace N_three := Lib.hid (N_three.out.goes hg15)
  clear hl15 hp15 hg15
  have hq16 : Pool S W w15 G13 ([] ++ [x8, x9]) := by simpa using HP15.out
  have hc16 := hq16.orRow hS (by simp)
  simp only [List.map_cons, List.map_nil, HL14.out, HL15.out] at hc16
  have HC16 := Lib.hid hc16
  clear hq16 hc16
  go_wp2_with fail
  refine HC16.out.mono ?_
  rintro e w16 ⟨t4, rfl, hl16, hp16, hg16⟩
  clear HC16 HP15
  have HL16 := Lib.hid hl16
  have HP16 := Lib.hid hp16
  replace N_a := Lib.hid (N_a.out.goes hg16)
  replace N_b := Lib.hid (N_b.out.goes hg16)
  replace N_d := Lib.hid (N_d.out.goes hg16)
  replace N_one := Lib.hid (N_one.out.goes hg16)
  replace N_two := Lib.hid (N_two.out.goes hg16)
  replace N_three := Lib.hid (N_three.out.goes hg16)
  clear hl16 hp16 hg16
  have hc17 := HP16.out.list2 hS N_a.out hca (by omega)
  rw [L_a.out] at hc17
  have HC17 := Lib.hid hc17
  clear hc17
  go_wp2_with fail
  refine HC17.out.mono ?_
  rintro e w17 ⟨x10, rfl, hl17, hp17, hg17⟩
  clear HC17 HP16
  have HL17 := Lib.hid hl17
  have HP17 := Lib.hid hp17
  replace N_a := Lib.hid (N_a.out.goes hg17)
  replace N_b := Lib.hid (N_b.out.goes hg17)
  replace N_d := Lib.hid (N_d.out.goes hg17)
  replace N_one := Lib.hid (N_one.out.goes hg17)
  replace N_two := Lib.hid (N_two.out.goes hg17)
  replace N_three := Lib.hid (N_three.out.goes hg17)
  clear hl17 hp17 hg17
  have hq18 : Pool S W w17 G13 ([] ++ [t4, x10]) := by simpa using HP17.out
  have hc18 := hq18.orRow hS (by simp)
  simp only [List.map_cons, List.map_nil, HL16.out, HL17.out] at hc18
  have HC18 := Lib.hid hc18
  clear hq18 hc18
  go_wp2_with fail
  refine HC18.out.mono ?_
  rintro e w18 ⟨s4, rfl, hl18, hp18, hg18⟩
  clear HC18 HP17
  have HL18 := Lib.hid hl18
  have HP18 := Lib.hid hp18
  replace N_a := Lib.hid (N_a.out.goes hg18)
  replace N_b := Lib.hid (N_b.out.goes hg18)
  replace N_d := Lib.hid (N_d.out.goes hg18)
  replace N_one := Lib.hid (N_one.out.goes hg18)
  replace N_two := Lib.hid (N_two.out.goes hg18)
  replace N_three := Lib.hid (N_three.out.goes hg18)
  clear hl18 hp18 hg18
  have hq19 : Pool S W w18 G13 ([] ++ [s4]) := by simpa using HP18.out
  have hc19 := hq19.gather hS (by rw [HL18.out]; exact Nat.le_trans (few_or2 (few_or2 (Zd.out) (Zb.out)) (Za.out)) (by omega))
  rw [HL18.out] at hc19
  have HC19 := Lib.hid hc19
  clear hq19 hc19
  go_wp2_with fail
  refine HC19.out.mono ?_
  rintro e w19 ⟨Afour, cfour, G19, rfl, -, hp19, hm19, hg19, -⟩
  clear HC19 HP18
  have HP19 := Lib.hid hp19
  replace N_a := Lib.hid (N_a.out.goes hg19)
  replace N_b := Lib.hid (N_b.out.goes hg19)
  replace N_d := Lib.hid (N_d.out.goes hg19)
  replace N_one := Lib.hid (N_one.out.goes hg19)
  replace N_two := Lib.hid (N_two.out.goes hg19)
  replace N_three := Lib.hid (N_three.out.goes hg19)
  have N_four := Lib.hid hm19
  obtain ⟨lfour, hl19⟩ : ∃ z, z = orL [orL [ld, lb], la] := ⟨_, rfl⟩
  rw [← hl19] at N_four ⊢
  have V_four := Lib.hid hl19
  clear hp19 hm19 hg19 hl19
  have hc20 := HP19.out.list2 hS N_a.out hca (by omega)
  rw [L_a.out] at hc20
  have HC20 := Lib.hid hc20
  clear hc20
  go_wp2_with fail
  refine HC20.out.mono ?_
  rintro e w20 ⟨x11, rfl, hl20, hp20, hg20⟩
  clear HC20 HP19
  have HL20 := Lib.hid hl20
  have HP20 := Lib.hid hp20
  replace N_a := Lib.hid (N_a.out.goes hg20)
  replace N_b := Lib.hid (N_b.out.goes hg20)
  replace N_d := Lib.hid (N_d.out.goes hg20)
  replace N_one := Lib.hid (N_one.out.goes hg20)
  replace N_two := Lib.hid (N_two.out.goes hg20)
  replace N_three := Lib.hid (N_three.out.goes hg20)
  replace N_four := Lib.hid (N_four.out.goes hg20)
  clear hl20 hp20 hg20
  have hc21 := HP20.out.list2 hS N_b.out hcb (by omega)
  rw [L_b.out] at hc21
  have HC21 := Lib.hid hc21
  clear hc21
  go_wp2_with fail
  refine HC21.out.mono ?_
  rintro e w21 ⟨x12, rfl, hl21, hp21, hg21⟩
  clear HC21 HP20
  have HL21 := Lib.hid hl21
  have HP21 := Lib.hid hp21
  replace N_a := Lib.hid (N_a.out.goes hg21)
  replace N_b := Lib.hid (N_b.out.goes hg21)
  replace N_d := Lib.hid (N_d.out.goes hg21)
  replace N_one := Lib.hid (N_one.out.goes hg21)
  replace N_two := Lib.hid (N_two.out.goes hg21)
  replace N_three := Lib.hid (N_three.out.goes hg21)
  replace N_four := Lib.hid (N_four.out.goes hg21)
  clear hl21 hp21 hg21
  have hq22 : Pool S W w21 G19 ([] ++ [x11, x12]) := by simpa using HP21.out
  have hc22 := hq22.andRow hS (by simp)
  simp only [List.map_cons, List.map_nil, HL20.out, HL21.out] at hc22
  have HC22 := Lib.hid hc22
  clear hq22 hc22
  go_wp2_with fail
  refine HC22.out.mono ?_
  rintro e w22 ⟨t5, rfl, hl22, hp22, hg22⟩
  clear HC22 HP21
  have HL22 := Lib.hid hl22
  have HP22 := Lib.hid hp22
  replace N_a := Lib.hid (N_a.out.goes hg22)
  replace N_b := Lib.hid (N_b.out.goes hg22)
  replace N_d := Lib.hid (N_d.out.goes hg22)
  replace N_one := Lib.hid (N_one.out.goes hg22)
  replace N_two := Lib.hid (N_two.out.goes hg22)
  replace N_three := Lib.hid (N_three.out.goes hg22)
  replace N_four := Lib.hid (N_four.out.goes hg22)
  clear hl22 hp22 hg22
  have hc23 := HP22.out.list2 hS N_a.out hca (by omega)
  rw [L_a.out] at hc23
  have HC23 := Lib.hid hc23
  clear hc23
  go_wp2_with fail
  refine HC23.out.mono ?_
  rintro e w23 ⟨x13, rfl, hl23, hp23, hg23⟩
  clear HC23 HP22
  have HL23 := Lib.hid hl23
  have HP23 := Lib.hid hp23
  replace N_a := Lib.hid (N_a.out.goes hg23)
  replace N_b := Lib.hid (N_b.out.goes hg23)
  replace N_d := Lib.hid (N_d.out.goes hg23)
  replace N_one := Lib.hid (N_one.out.goes hg23)
  replace N_two := Lib.hid (N_two.out.goes hg23)
  replace N_three := Lib.hid (N_three.out.goes hg23)
  replace N_four := Lib.hid (N_four.out.goes hg23)
  clear hl23 hp23 hg23
  have hc24 := HP23.out.list2 hS N_b.out hcb (by omega)
  rw [L_b.out] at hc24
  have HC24 := Lib.hid hc24
  clear hc24
  go_wp2_with fail
  refine HC24.out.mono ?_
  rintro e w24 ⟨x14, rfl, hl24, hp24, hg24⟩
  clear HC24 HP23
  have HL24 := Lib.hid hl24
  have HP24 := Lib.hid hp24
  replace N_a := Lib.hid (N_a.out.goes hg24)
  replace N_b := Lib.hid (N_b.out.goes hg24)
  replace N_d := Lib.hid (N_d.out.goes hg24)
  replace N_one := Lib.hid (N_one.out.goes hg24)
  replace N_two := Lib.hid (N_two.out.goes hg24)
  replace N_three := Lib.hid (N_three.out.goes hg24)
  replace N_four := Lib.hid (N_four.out.goes hg24)
  clear hl24 hp24 hg24
  have hq25 : Pool S W w24 G19 ([t5] ++ [x13, x14]) := by simpa using HP24.out
  have hc25 := hq25.less2 hS
  simp only [List.map_cons, List.map_nil, HL23.out, HL24.out] at hc25
  have HC25 := Lib.hid hc25
  clear hq25 hc25
  go_wp2_with fail
  refine HC25.out.mono ?_
  rintro e w25 ⟨u5, rfl, hl25, hp25, hg25⟩
  clear HC25 HP24
  have HL25 := Lib.hid hl25
  have HP25 := Lib.hid hp25
  replace N_a := Lib.hid (N_a.out.goes hg25)
  replace N_b := Lib.hid (N_b.out.goes hg25)
  replace N_d := Lib.hid (N_d.out.goes hg25)
  replace N_one := Lib.hid (N_one.out.goes hg25)
  replace N_two := Lib.hid (N_two.out.goes hg25)
  replace N_three := Lib.hid (N_three.out.goes hg25)
  replace N_four := Lib.hid (N_four.out.goes hg25)
  clear hl25 hp25 hg25
  have hq26 : Pool S W w25 G19 ([] ++ [t5, u5]) := by simpa using HP25.out
  have hc26 := hq26.orRow hS (by simp)
  simp only [List.map_cons, List.map_nil, HL22.out, HL25.out] at hc26
  have HC26 := Lib.hid hc26
  clear hq26 hc26
  go_wp2_with fail
  refine HC26.out.mono ?_
  rintro e w26 ⟨s5, rfl, hl26, hp26, hg26⟩
  clear HC26 HP25
  have HL26 := Lib.hid hl26
  have HP26 := Lib.hid hp26
  replace N_a := Lib.hid (N_a.out.goes hg26)
  replace N_b := Lib.hid (N_b.out.goes hg26)
  replace N_d := Lib.hid (N_d.out.goes hg26)
  replace N_one := Lib.hid (N_one.out.goes hg26)
  replace N_two := Lib.hid (N_two.out.goes hg26)
  replace N_three := Lib.hid (N_three.out.goes hg26)
  replace N_four := Lib.hid (N_four.out.goes hg26)
  clear hl26 hp26 hg26
  have hq27 : Pool S W w26 G19 ([] ++ [s5]) := by simpa using HP26.out
  have hc27 := hq27.gather hS (by rw [HL26.out]; exact Nat.le_trans (few_or2 (few_and (Za.out)) (few_less (Za.out))) (by omega))
  rw [HL26.out] at hc27
  have HC27 := Lib.hid hc27
  clear hq27 hc27
  go_wp2_with fail
  refine HC27.out.mono ?_
  rintro e w27 ⟨Afive, cfive, G27, rfl, -, hp27, hm27, hg27, -⟩
  clear HC27 HP26
  have HP27 := Lib.hid hp27
  replace N_a := Lib.hid (N_a.out.goes hg27)
  replace N_b := Lib.hid (N_b.out.goes hg27)
  replace N_d := Lib.hid (N_d.out.goes hg27)
  replace N_one := Lib.hid (N_one.out.goes hg27)
  replace N_two := Lib.hid (N_two.out.goes hg27)
  replace N_three := Lib.hid (N_three.out.goes hg27)
  replace N_four := Lib.hid (N_four.out.goes hg27)
  have N_five := Lib.hid hm27
  obtain ⟨lfive, hl27⟩ : ∃ z, z = orL [andL [la, lb], lessI (la) (lb)] := ⟨_, rfl⟩
  rw [← hl27] at N_five ⊢
  have V_five := Lib.hid hl27
  clear hp27 hm27 hg27 hl27
  have hc28 := HP27.out.list2 hS N_a.out hca (by omega)
  rw [L_a.out] at hc28
  have HC28 := Lib.hid hc28
  clear hc28
  go_wp2_with fail
  refine HC28.out.mono ?_
  rintro e w28 ⟨x15, rfl, hl28, hp28, hg28⟩
  clear HC28 HP27
  have HL28 := Lib.hid hl28
  have HP28 := Lib.hid hp28
  replace N_a := Lib.hid (N_a.out.goes hg28)
  replace N_b := Lib.hid (N_b.out.goes hg28)
  replace N_d := Lib.hid (N_d.out.goes hg28)
  replace N_one := Lib.hid (N_one.out.goes hg28)
  replace N_two := Lib.hid (N_two.out.goes hg28)
  replace N_three := Lib.hid (N_three.out.goes hg28)
  replace N_four := Lib.hid (N_four.out.goes hg28)
  replace N_five := Lib.hid (N_five.out.goes hg28)
  clear hl28 hp28 hg28
  have hc29 := HP28.out.list2 hS N_b.out hcb (by omega)
  rw [L_b.out] at hc29
  have HC29 := Lib.hid hc29
  clear hc29
  go_wp2_with fail
  refine HC29.out.mono ?_
  rintro e w29 ⟨x16, rfl, hl29, hp29, hg29⟩
  clear HC29 HP28
  have HL29 := Lib.hid hl29
  have HP29 := Lib.hid hp29
  replace N_a := Lib.hid (N_a.out.goes hg29)
  replace N_b := Lib.hid (N_b.out.goes hg29)
  replace N_d := Lib.hid (N_d.out.goes hg29)
  replace N_one := Lib.hid (N_one.out.goes hg29)
  replace N_two := Lib.hid (N_two.out.goes hg29)
  replace N_three := Lib.hid (N_three.out.goes hg29)
  replace N_four := Lib.hid (N_four.out.goes hg29)
  replace N_five := Lib.hid (N_five.out.goes hg29)
  clear hl29 hp29 hg29
  have hc30 := HP29.out.list2 hS N_d.out hcd (by omega)
  rw [L_d.out] at hc30
  have HC30 := Lib.hid hc30
  clear hc30
  go_wp2_with fail
  refine HC30.out.mono ?_
  rintro e w30 ⟨x17, rfl, hl30, hp30, hg30⟩
  clear HC30 HP29
  have HL30 := Lib.hid hl30
  have HP30 := Lib.hid hp30
  replace N_a := Lib.hid (N_a.out.goes hg30)
  replace N_b := Lib.hid (N_b.out.goes hg30)
  replace N_d := Lib.hid (N_d.out.goes hg30)
  replace N_one := Lib.hid (N_one.out.goes hg30)
  replace N_two := Lib.hid (N_two.out.goes hg30)
  replace N_three := Lib.hid (N_three.out.goes hg30)
  replace N_four := Lib.hid (N_four.out.goes hg30)
  replace N_five := Lib.hid (N_five.out.goes hg30)
  clear hl30 hp30 hg30
  have hq31 : Pool S W w30 G27 ([x15] ++ [x16, x17]) := by simpa using HP30.out
  have hc31 := hq31.orRow hS (by simp)
  simp only [List.map_cons, List.map_nil, HL29.out, HL30.out] at hc31
  have HC31 := Lib.hid hc31
  clear hq31 hc31
  go_wp2_with fail
  refine HC31.out.mono ?_
  rintro e w31 ⟨t6, rfl, hl31, hp31, hg31⟩
  clear HC31 HP30
  have HL31 := Lib.hid hl31
  have HP31 := Lib.hid hp31
  replace N_a := Lib.hid (N_a.out.goes hg31)
  replace N_b := Lib.hid (N_b.out.goes hg31)
  replace N_d := Lib.hid (N_d.out.goes hg31)
  replace N_one := Lib.hid (N_one.out.goes hg31)
  replace N_two := Lib.hid (N_two.out.goes hg31)
  replace N_three := Lib.hid (N_three.out.goes hg31)
  replace N_four := Lib.hid (N_four.out.goes hg31)
  replace N_five := Lib.hid (N_five.out.goes hg31)
  clear hl31 hp31 hg31
  have hq32 : Pool S W w31 G27 ([] ++ [x15, t6]) := by simpa using HP31.out
  have hc32 := hq32.less2 hS
  simp only [List.map_cons, List.map_nil, HL28.out, HL31.out] at hc32
  have HC32 := Lib.hid hc32
  clear hq32 hc32
  go_wp2_with fail
  refine HC32.out.mono ?_
  rintro e w32 ⟨s6, rfl, hl32, hp32, hg32⟩
  clear HC32 HP31
  have HL32 := Lib.hid hl32
  have HP32 := Lib.hid hp32
  replace N_a := Lib.hid (N_a.out.goes hg32)
  replace N_b := Lib.hid (N_b.out.goes hg32)
  replace N_d := Lib.hid (N_d.out.goes hg32)
  replace N_one := Lib.hid (N_one.out.goes hg32)
  replace N_two := Lib.hid (N_two.out.goes hg32)
  replace N_three := Lib.hid (N_three.out.goes hg32)
  replace N_four := Lib.hid (N_four.out.goes hg32)
  replace N_five := Lib.hid (N_five.out.goes hg32)
  clear hl32 hp32 hg32
  have hq33 : Pool S W w32 G27 ([] ++ [s6]) := by simpa using HP32.out
  have hc33 := hq33.gather hS (by rw [HL32.out]; exact Nat.le_trans (few_less (Za.out)) (by omega))
  rw [HL32.out] at hc33
  have HC33 := Lib.hid hc33
  clear hq33 hc33
  go_wp2_with fail
  refine HC33.out.mono ?_
  rintro e w33 ⟨Asix, csix, G33, rfl, -, hp33, hm33, hg33, -⟩
  clear HC33 HP32
  have HP33 := Lib.hid hp33
  replace N_a := Lib.hid (N_a.out.goes hg33)
  replace N_b := Lib.hid (N_b.out.goes hg33)
  replace N_d := Lib.hid (N_d.out.goes hg33)
  replace N_one := Lib.hid (N_one.out.goes hg33)
  replace N_two := Lib.hid (N_two.out.goes hg33)
  replace N_three := Lib.hid (N_three.out.goes hg33)
  replace N_four := Lib.hid (N_four.out.goes hg33)
  replace N_five := Lib.hid (N_five.out.goes hg33)
  have N_six := Lib.hid hm33
  obtain ⟨lsix, hl33⟩ : ∃ z, z = lessI (la) (orL [lb, ld]) := ⟨_, rfl⟩
  rw [← hl33] at N_six ⊢
  have V_six := Lib.hid hl33
  clear hp33 hm33 hg33 hl33
  have hc34 := HP33.out.list2 hS N_a.out hca (by omega)
  rw [L_a.out] at hc34
  have HC34 := Lib.hid hc34
  clear hc34
  go_wp2_with fail
  refine HC34.out.mono ?_
  rintro e w34 ⟨x18, rfl, hl34, hp34, hg34⟩
  clear HC34 HP33
  have HL34 := Lib.hid hl34
  have HP34 := Lib.hid hp34
  replace N_a := Lib.hid (N_a.out.goes hg34)
  replace N_b := Lib.hid (N_b.out.goes hg34)
  replace N_d := Lib.hid (N_d.out.goes hg34)
  replace N_one := Lib.hid (N_one.out.goes hg34)
  replace N_two := Lib.hid (N_two.out.goes hg34)
  replace N_three := Lib.hid (N_three.out.goes hg34)
  replace N_four := Lib.hid (N_four.out.goes hg34)
  replace N_five := Lib.hid (N_five.out.goes hg34)
  replace N_six := Lib.hid (N_six.out.goes hg34)
  clear hl34 hp34 hg34
  have hc35 := HP34.out.list2 hS N_b.out hcb (by omega)
  rw [L_b.out] at hc35
  have HC35 := Lib.hid hc35
  clear hc35
  go_wp2_with fail
  refine HC35.out.mono ?_
  rintro e w35 ⟨x19, rfl, hl35, hp35, hg35⟩
  clear HC35 HP34
  have HL35 := Lib.hid hl35
  have HP35 := Lib.hid hp35
  replace N_a := Lib.hid (N_a.out.goes hg35)
  replace N_b := Lib.hid (N_b.out.goes hg35)
  replace N_d := Lib.hid (N_d.out.goes hg35)
  replace N_one := Lib.hid (N_one.out.goes hg35)
  replace N_two := Lib.hid (N_two.out.goes hg35)
  replace N_three := Lib.hid (N_three.out.goes hg35)
  replace N_four := Lib.hid (N_four.out.goes hg35)
  replace N_five := Lib.hid (N_five.out.goes hg35)
  replace N_six := Lib.hid (N_six.out.goes hg35)
  clear hl35 hp35 hg35
  have hq36 : Pool S W w35 G33 ([] ++ [x18, x19]) := by simpa using HP35.out
  have hc36 := hq36.less2 hS
  simp only [List.map_cons, List.map_nil, HL34.out, HL35.out] at hc36
  have HC36 := Lib.hid hc36
  clear hq36 hc36
  go_wp2_with fail
  refine HC36.out.mono ?_
  rintro e w36 ⟨t7, rfl, hl36, hp36, hg36⟩
  clear HC36 HP35
  have HL36 := Lib.hid hl36
  have HP36 := Lib.hid hp36
  replace N_a := Lib.hid (N_a.out.goes hg36)
  replace N_b := Lib.hid (N_b.out.goes hg36)
  replace N_d := Lib.hid (N_d.out.goes hg36)
  replace N_one := Lib.hid (N_one.out.goes hg36)
  replace N_two := Lib.hid (N_two.out.goes hg36)
  replace N_three := Lib.hid (N_three.out.goes hg36)
  replace N_four := Lib.hid (N_four.out.goes hg36)
  replace N_five := Lib.hid (N_five.out.goes hg36)
  replace N_six := Lib.hid (N_six.out.goes hg36)
  clear hl36 hp36 hg36
  have hc37 := HP36.out.list2 hS N_a.out hca (by omega)
  rw [L_a.out] at hc37
  have HC37 := Lib.hid hc37
  clear hc37
  go_wp2_with fail
  refine HC37.out.mono ?_
  rintro e w37 ⟨x20, rfl, hl37, hp37, hg37⟩
  clear HC37 HP36
  have HL37 := Lib.hid hl37
  have HP37 := Lib.hid hp37
  replace N_a := Lib.hid (N_a.out.goes hg37)
  replace N_b := Lib.hid (N_b.out.goes hg37)
  replace N_d := Lib.hid (N_d.out.goes hg37)
  replace N_one := Lib.hid (N_one.out.goes hg37)
  replace N_two := Lib.hid (N_two.out.goes hg37)
  replace N_three := Lib.hid (N_three.out.goes hg37)
  replace N_four := Lib.hid (N_four.out.goes hg37)
  replace N_five := Lib.hid (N_five.out.goes hg37)
  replace N_six := Lib.hid (N_six.out.goes hg37)
  clear hl37 hp37 hg37
  have hc38 := HP37.out.list2 hS N_d.out hcd (by omega)
  rw [L_d.out] at hc38
  have HC38 := Lib.hid hc38
  clear hc38
  go_wp2_with fail
  refine HC38.out.mono ?_
  rintro e w38 ⟨x21, rfl, hl38, hp38, hg38⟩
  clear HC38 HP37
  have HL38 := Lib.hid hl38
  have HP38 := Lib.hid hp38
  replace N_a := Lib.hid (N_a.out.goes hg38)
  replace N_b := Lib.hid (N_b.out.goes hg38)
  replace N_d := Lib.hid (N_d.out.goes hg38)
  replace N_one := Lib.hid (N_one.out.goes hg38)
  replace N_two := Lib.hid (N_two.out.goes hg38)
  replace N_three := Lib.hid (N_three.out.goes hg38)
  replace N_four := Lib.hid (N_four.out.goes hg38)
  replace N_five := Lib.hid (N_five.out.goes hg38)
  replace N_six := Lib.hid (N_six.out.goes hg38)
  clear hl38 hp38 hg38
  have hq39 : Pool S W w38 G33 ([t7] ++ [x20, x21]) := by simpa using HP38.out
  have hc39 := hq39.less2 hS
  simp only [List.map_cons, List.map_nil, HL37.out, HL38.out] at hc39
  have HC39 := Lib.hid hc39
  clear hq39 hc39
  go_wp2_with fail
  refine HC39.out.mono ?_
  rintro e w39 ⟨u7, rfl, hl39, hp39, hg39⟩
  clear HC39 HP38
  have HL39 := Lib.hid hl39
  have HP39 := Lib.hid hp39
  replace N_a := Lib.hid (N_a.out.goes hg39)
  replace N_b := Lib.hid (N_b.out.goes hg39)
  replace N_d := Lib.hid (N_d.out.goes hg39)
  replace N_one := Lib.hid (N_one.out.goes hg39)
  replace N_two := Lib.hid (N_two.out.goes hg39)
  replace N_three := Lib.hid (N_three.out.goes hg39)
  replace N_four := Lib.hid (N_four.out.goes hg39)
  replace N_five := Lib.hid (N_five.out.goes hg39)
  replace N_six := Lib.hid (N_six.out.goes hg39)
  clear hl39 hp39 hg39
  have hq40 : Pool S W w39 G33 ([] ++ [t7, u7]) := by simpa using HP39.out
  have hc40 := hq40.andRow hS (by simp)
  simp only [List.map_cons, List.map_nil, HL36.out, HL39.out] at hc40
  have HC40 := Lib.hid hc40
  clear hq40 hc40
  go_wp2_with fail
  refine HC40.out.mono ?_
  rintro e w40 ⟨s7, rfl, hl40, hp40, hg40⟩
  clear HC40 HP39
  have HL40 := Lib.hid hl40
  have HP40 := Lib.hid hp40
  replace N_a := Lib.hid (N_a.out.goes hg40)
  replace N_b := Lib.hid (N_b.out.goes hg40)
  replace N_d := Lib.hid (N_d.out.goes hg40)
  replace N_one := Lib.hid (N_one.out.goes hg40)
  replace N_two := Lib.hid (N_two.out.goes hg40)
  replace N_three := Lib.hid (N_three.out.goes hg40)
  replace N_four := Lib.hid (N_four.out.goes hg40)
  replace N_five := Lib.hid (N_five.out.goes hg40)
  replace N_six := Lib.hid (N_six.out.goes hg40)
  clear hl40 hp40 hg40
  have hq41 : Pool S W w40 G33 ([] ++ [s7]) := by simpa using HP40.out
  have hc41 := hq41.gather hS (by rw [HL40.out]; exact Nat.le_trans (few_and (few_less (Za.out))) (by omega))
  rw [HL40.out] at hc41
  have HC41 := Lib.hid hc41
  clear hq41 hc41
  go_wp2_with fail
  refine HC41.out.mono ?_
  rintro e w41 ⟨Aseven, cseven, G41, rfl, -, hp41, hm41, hg41, -⟩
  clear HC41 HP40
  have HP41 := Lib.hid hp41
  replace N_a := Lib.hid (N_a.out.goes hg41)
  replace N_b := Lib.hid (N_b.out.goes hg41)
  replace N_d := Lib.hid (N_d.out.goes hg41)
  replace N_one := Lib.hid (N_one.out.goes hg41)
  replace N_two := Lib.hid (N_two.out.goes hg41)
  replace N_three := Lib.hid (N_three.out.goes hg41)
  replace N_four := Lib.hid (N_four.out.goes hg41)
  replace N_five := Lib.hid (N_five.out.goes hg41)
  replace N_six := Lib.hid (N_six.out.goes hg41)
  have N_seven := Lib.hid hm41
  obtain ⟨lseven, hl41⟩ : ∃ z, z = andL [lessI (la) (lb), lessI (la) (ld)] := ⟨_, rfl⟩
  rw [← hl41] at N_seven ⊢
  have V_seven := Lib.hid hl41
  clear hp41 hm41 hg41 hl41
  have HE42 : Hid (lone = ltwo) := Lib.hid (by rw [V_one.out, V_two.out]; exact law_one HRA.out HRB.out)
  go_wp2_with fail
  refine (r3Same_any w41 Aone Atwo lone.length ltwo.length cone ctwo lone ltwo N_one.out.1 N_two.out.1).mono ?_
  rintro e w42 ⟨rfl, q42, hq42⟩
  rw [decide_eq_true HE42.out]
  have hb42 : Below w41.heap.size w41 w42 := by rw [hq42]; exact below_drewN (Below.refl w41.heap.size w41) q42
  clear hq42
  have hg42 := Goes.below hb42 (fun (b : Nat) (e : G41 b) => e)
  have HP42 := Lib.hid (HP41.out.later hS hb42)
  replace N_a := Lib.hid (N_a.out.goes hg42)
  replace N_b := Lib.hid (N_b.out.goes hg42)
  replace N_d := Lib.hid (N_d.out.goes hg42)
  replace N_one := Lib.hid (N_one.out.goes hg42)
  replace N_two := Lib.hid (N_two.out.goes hg42)
  replace N_three := Lib.hid (N_three.out.goes hg42)
  replace N_four := Lib.hid (N_four.out.goes hg42)
  replace N_five := Lib.hid (N_five.out.goes hg42)
  replace N_six := Lib.hid (N_six.out.goes hg42)
  replace N_seven := Lib.hid (N_seven.out.goes hg42)
  clear hb42 hg42
  have HE43 : Hid (lthree = lfour) := Lib.hid (by rw [V_three.out, V_four.out]; exact law_two HRA.out HRB.out HRD.out)
  go_wp2_with fail
  refine (r3Same_any w42 Athree Afour lthree.length lfour.length cthree cfour lthree lfour N_three.out.1 N_four.out.1).mono ?_
  rintro e w43 ⟨rfl, q43, hq43⟩
  rw [decide_eq_true HE43.out]
  have hb43 : Below w42.heap.size w42 w43 := by rw [hq43]; exact below_drewN (Below.refl w42.heap.size w42) q43
  clear hq43
  have hg43 := Goes.below hb43 (fun (b : Nat) (e : G41 b) => e)
  have HP43 := Lib.hid (HP42.out.later hS hb43)
  replace N_a := Lib.hid (N_a.out.goes hg43)
  replace N_b := Lib.hid (N_b.out.goes hg43)
  replace N_d := Lib.hid (N_d.out.goes hg43)
  replace N_one := Lib.hid (N_one.out.goes hg43)
  replace N_two := Lib.hid (N_two.out.goes hg43)
  replace N_three := Lib.hid (N_three.out.goes hg43)
  replace N_four := Lib.hid (N_four.out.goes hg43)
  replace N_five := Lib.hid (N_five.out.goes hg43)
  replace N_six := Lib.hid (N_six.out.goes hg43)
  replace N_seven := Lib.hid (N_seven.out.goes hg43)
  clear hb43 hg43
  have hc44 := HP43.out.list2 hS N_a.out hca (by omega)
  rw [L_a.out] at hc44
  have HC44 := Lib.hid hc44
  clear hc44
  go_wp2_with fail
  refine HC44.out.mono ?_
  rintro e w44 ⟨x22, rfl, hl44, hp44, hg44⟩
  clear HC44 HP43
  have HL44 := Lib.hid hl44
  have HP44 := Lib.hid hp44
  replace N_a := Lib.hid (N_a.out.goes hg44)
  replace N_b := Lib.hid (N_b.out.goes hg44)
  replace N_d := Lib.hid (N_d.out.goes hg44)
  replace N_one := Lib.hid (N_one.out.goes hg44)
  replace N_two := Lib.hid (N_two.out.goes hg44)
  replace N_three := Lib.hid (N_three.out.goes hg44)
  replace N_four := Lib.hid (N_four.out.goes hg44)
  replace N_five := Lib.hid (N_five.out.goes hg44)
  replace N_six := Lib.hid (N_six.out.goes hg44)
  replace N_seven := Lib.hid (N_seven.out.goes hg44)
  clear hl44 hp44 hg44
  have hq45 : Pool S W w44 G41 ([] ++ [x22]) := by simpa using HP44.out
  have hc45 := hq45.gather hS (by rw [HL44.out]; exact Nat.le_trans (Za.out) (by omega))
  rw [HL44.out] at hc45
  have HC45 := Lib.hid hc45
  clear hq45 hc45
  go_wp2_with fail
  refine HC45.out.mono ?_
  rintro e w45 ⟨Aeight, ceight, G45, rfl, -, hp45, hm45, hg45, -⟩
  clear HC45 HP44
  have HP45 := Lib.hid hp45
  replace N_a := Lib.hid (N_a.out.goes hg45)
  replace N_b := Lib.hid (N_b.out.goes hg45)
  replace N_d := Lib.hid (N_d.out.goes hg45)
  replace N_one := Lib.hid (N_one.out.goes hg45)
  replace N_two := Lib.hid (N_two.out.goes hg45)
  replace N_three := Lib.hid (N_three.out.goes hg45)
  replace N_four := Lib.hid (N_four.out.goes hg45)
  replace N_five := Lib.hid (N_five.out.goes hg45)
  replace N_six := Lib.hid (N_six.out.goes hg45)
  replace N_seven := Lib.hid (N_seven.out.goes hg45)
  have N_eight := Lib.hid hm45
  obtain ⟨leight, hl45⟩ : ∃ z, z = la := ⟨_, rfl⟩
  rw [← hl45] at N_eight ⊢
  have V_eight := Lib.hid hl45
  clear hp45 hm45 hg45 hl45
  have HE46 : Hid (lfive = leight) := Lib.hid (by rw [V_five.out, V_eight.out]; exact law_three HRA.out)
  go_wp2_with fail
  refine (r3Same_any w45 Afive Aeight lfive.length leight.length cfive ceight lfive leight N_five.out.1 N_eight.out.1).mono ?_
  rintro e w46 ⟨rfl, q46, hq46⟩
  rw [decide_eq_true HE46.out]
  have hb46 : Below w45.heap.size w45 w46 := by rw [hq46]; exact below_drewN (Below.refl w45.heap.size w45) q46
  clear hq46
  have hg46 := Goes.below hb46 (fun (b : Nat) (e : G45 b) => e)
  have HP46 := Lib.hid (HP45.out.later hS hb46)
  replace N_a := Lib.hid (N_a.out.goes hg46)
  replace N_b := Lib.hid (N_b.out.goes hg46)
  replace N_d := Lib.hid (N_d.out.goes hg46)
  replace N_one := Lib.hid (N_one.out.goes hg46)
  replace N_two := Lib.hid (N_two.out.goes hg46)
  replace N_three := Lib.hid (N_three.out.goes hg46)
  replace N_four := Lib.hid (N_four.out.goes hg46)
  replace N_five := Lib.hid (N_five.out.goes hg46)
  replace N_six := Lib.hid (N_six.out.goes hg46)
  replace N_seven := Lib.hid (N_seven.out.goes hg46)
  replace N_eight := Lib.hid (N_eight.out.goes hg46)
  clear hb46 hg46
  have HE47 : Hid (lsix = lseven) := Lib.hid (by rw [V_six.out, V_seven.out]; exact law_four HRA.out)
  go_wp2_with fail
  refine (r3Same_any w46 Asix Aseven lsix.length lseven.length csix cseven lsix lseven N_six.out.1 N_seven.out.1).mono ?_
  rintro e w47 ⟨rfl, q47, hq47⟩
  rw [decide_eq_true HE47.out]
  have hb47 : Below w46.heap.size w46 w47 := by rw [hq47]; exact below_drewN (Below.refl w46.heap.size w46) q47
  clear hq47
  have hg47 := Goes.below hb47 (fun (b : Nat) (e : G45 b) => e)
  have HP47 := Lib.hid (HP46.out.later hS hb47)
  replace N_a := Lib.hid (N_a.out.goes hg47)
  replace N_b := Lib.hid (N_b.out.goes hg47)
  replace N_d := Lib.hid (N_d.out.goes hg47)
  replace N_one := Lib.hid (N_one.out.goes hg47)
  replace N_two := Lib.hid (N_two.out.goes hg47)
  replace N_three := Lib.hid (N_three.out.goes hg47)
  replace N_four := Lib.hid (N_four.out.goes hg47)
  replace N_five := Lib.hid (N_five.out.goes hg47)
  replace N_six := Lib.hid (N_six.out.goes hg47)
  replace N_seven := Lib.hid (N_seven.out.goes hg47)
  replace N_eight := Lib.hid (N_eight.out.goes hg47)
  clear hb47 hg47
  go_wp2
  go_ret
  exact ⟨rfl, HP47.out.below⟩
end Go.Proofs.Ytkligdaademakaa
