/- LebTells, walked. -/
import Derived.Test.YtmncnbnloonenaaLLaws4
import Derived.Deep.RegionHeld3
import Derived.Deep.RegionLaw
import Derived.Lib.MinMax
namespace Go.Proofs.Ytmncnbnloonenaa
open Go.RowKit Go.Maps Go.WideMaps Go.Shelf

set_option linter.unusedSimpArgs false in
set_option maxHeartbeats 8000000 in
set_option maxRecDepth 100000 in
theorem lebTells_any (w : World) (n : Nat) (hn : n < 18446744073709551616) (A : Option Addr) (m c : Nat) (l : Nm) (hl : BytesIn w A m l) :
    Calls Try.prog 3 #[.int .u64 n, .slice A m c] w fun e w' => e = .returned (.bool true) ∧ Below w.heap.size w w' := by
  have HL := Lib.hid hl
  clear hl
  go_enter Try.func3, Try.ntmps3
  go_wp2_with fail
  refine (lebHead_any w).mono ?_
  rintro e w1 ⟨rfl, hb⟩
  have B1 := Lib.hid hb
  have L1 := Lib.hid (HL.out.below hb)
  clear hb
  by_cases hbig : 1000 < m
  · have hbz : (1000 : Int) < (m : Int) := by omega
    go_wp2
    go_ret
    exact ⟨rfl, B1.out⟩
  · have hbz : ¬ (1000 : Int) < (m : Int) := by omega
    obtain ⟨v, j, er, hg⟩ : ∃ v j e, getL l = (v, j, e) := ⟨_, _, _, rfl⟩
    have HG := Lib.hid hg
    obtain ⟨L, hL⟩ : ∃ L, putL n = L := ⟨_, rfl⟩
    obtain ⟨N, hN⟩ : ∃ N, L.length = N := ⟨_, rfl⟩
    have hNm : N ≤ maxLen := by have := putL_len n hn; rw [hL, hN] at this; unfold maxLen; omega
    have HLL := Lib.hid hL
    have HNN := Lib.hid hN
    have HNM := Lib.hid hNm
    have HN := Lib.hid hn
    clear hg hL hN hNm hn
    go_wp2_with fail
    refine (lGet_is w1 A m c l L1.out HG.out).mono ?_
    rintro e w2 ⟨rfl, hw⟩
    rw [hw]
    clear hw
    go_wp2_with fail
    refine (r3Get_is w1 A m c l L1.out HG.out).mono ?_
    rintro e w2 ⟨rfl, hw⟩
    rw [hw]
    clear hw
    go_wp2_with fail
    refine wp_region_held_drew (S := fun w' => Below w.heap.size w w') (by kernel_rfl) ?_ (fun hHeld => ?_)
    · exact B1.out.drew
    refine wpAnyH_take (i := 0) (oi := ?oi0) (v := ?v0) ?hi0 (by kernel_rfl) (by kernel_rfl) (by kernel_rfl) ?hQ0 (Or.inl ⟨?hw0, ?hy0⟩) (by assumption) ?rest0
    case hi0 => (first | (simp only [List.getElem?_toArray, List.getElem?_cons_zero, List.getElem?_cons_succ]; rfl) | rfl)
    case hQ0 => exact fun _ _ _ h => h
    case hw0 => rfl
    case hy0 => ((intro w hSw; go_simp); first | done | with_reducible rfl)
    try simp only [Act.put, List.setIfInBounds_toArray, List.set_cons_zero, List.set_cons_succ]
    refine wpAnyH_take (i := 1) (oi := ?oi1) (v := ?v1) ?hi1 (by kernel_rfl) (by kernel_rfl) (by kernel_rfl) ?hQ1 (Or.inl ⟨?hw1, ?hy1⟩) (by assumption) ?rest1
    case hi1 => (first | (simp only [List.getElem?_toArray, List.getElem?_cons_zero, List.getElem?_cons_succ]; rfl) | rfl)
    case hQ1 => exact fun _ _ _ h => h
    case hw1 => rfl
    case hy1 => ((intro w hSw; go_simp); first | done | with_reducible rfl)
    try simp only [Act.put, List.setIfInBounds_toArray, List.set_cons_zero, List.set_cons_succ]
    refine wpAnyH_take (i := 2) (oi := ?oi2) (v := ?v2) ?hi2 (by kernel_rfl) (by kernel_rfl) (by kernel_rfl) ?hQ2 (Or.inl ⟨?hw2, ?hy2⟩) (by assumption) ?rest2
    case hi2 => (first | (simp only [List.getElem?_toArray, List.getElem?_cons_zero, List.getElem?_cons_succ]; rfl) | rfl)
    case hQ2 => exact fun _ _ _ h => h
    case hw2 => rfl
    case hy2 => ((intro w hSw; go_simp); first | done | with_reducible rfl)
    try simp only [Act.put, List.setIfInBounds_toArray, List.set_cons_zero, List.set_cons_succ]
    refine wpAnyH_take (i := 5) (oi := ?oi5) (v := ?v5) ?hi5 (by kernel_rfl) (by kernel_rfl) (by kernel_rfl) ?hQ5 (Or.inl ⟨?hw5, ?hy5⟩) (by assumption) ?rest5
    case hi5 => (first | (simp only [List.getElem?_toArray, List.getElem?_cons_zero, List.getElem?_cons_succ]; rfl) | rfl)
    case hQ5 => exact fun _ _ _ h => h
    case hw5 => rfl
    case hy5 => ((intro w hSw; go_simp); first | done | with_reducible rfl)
    try simp only [Act.put, List.setIfInBounds_toArray, List.set_cons_zero, List.set_cons_succ]
    refine wpAnyH_ready (rs := [3]) (by kernel_rfl) (by simp) ?_
    refine AllReadyH.cons (o := ?o1) ?hc1 ?st1 AllReadyH.nil
    case hc1 => (simp only [List.getElem?_toArray, List.getElem?_cons_zero, List.getElem?_cons_succ]; rfl)
    intro K hK
    go_simp
    refine (lPut_is _ _ n HN.out L N HLL.out HNN.out ?_).mono ?_
    · exact rfl
    rintro e w5 ⟨Afa, cfa, rfl, hO, hb⟩
    obtain ⟨qfa, qfa2⟩ := str_own hO HNM.out
    have H5 := Lib.hid (below_then hHeld hb (Below.size hHeld))
    have H5b := Lib.hid hb
    clear hO
    go_wp2_with fail
    refine hK.out _ _ H5.out (fun _ => ?_)
    clear hK K
    refine held_more (S' := fun w' => Below w5.heap.size w5 w' ∧ Below w.heap.size w w') (fun w h => h.2) _ _ _ _ ?_
    have hHeld2 : (fun w' => Below w5.heap.size w5 w' ∧ Below w.heap.size w w') w5 := ⟨Below.refl _ _, H5.out⟩
    try simp only [Act.put, List.setIfInBounds_toArray, List.set_cons_zero, List.set_cons_succ]
    refine wpAnyH_take (i := 4) (oi := ?oia4) (v := ?va4) ?hia4 (by kernel_rfl) (by kernel_rfl) (by kernel_rfl) ?hQa4 (Or.inl ⟨?hwa4, ?hya4⟩) (by assumption) ?resta4
    case hia4 => (first | (simp only [List.getElem?_toArray, List.getElem?_cons_zero, List.getElem?_cons_succ]; rfl) | rfl)
    case hQa4 => exact fun _ _ _ h => h
    case hwa4 => rfl
    case hya4 => ((intro w hSw; go_simp); first | done | with_reducible rfl)
    try simp only [Act.put, List.setIfInBounds_toArray, List.set_cons_zero, List.set_cons_succ]
    refine wpAnyH_ready (rs := [6]) (by kernel_rfl) (by simp) ?_
    refine AllReadyH.cons (o := ?o2a) ?hc2a ?st2a AllReadyH.nil
    case hc2a => (simp only [List.getElem?_toArray, List.getElem?_cons_zero, List.getElem?_cons_succ]; rfl)
    intro K hK
    go_simp
    refine (r3Put_is _ _ n HN.out L N HLL.out HNN.out ?_).mono ?_
    · exact rfl
    rintro e w6 ⟨Asa, csa, rfl, hO, hb⟩
    obtain ⟨qsa, qsa2⟩ := str_own hO HNM.out
    have H6 := Lib.hid (below_then H5.out hb (Below.size H5.out))
    have H6b := Lib.hid hb
    clear hO
    go_wp2_with fail
    refine hK.out _ _ ⟨H6b.out, H6.out⟩ (fun _ => ?_)
    clear hK K
    refine held_more (S' := fun w' => Below w6.heap.size w6 w' ∧ Below w.heap.size w w') (fun w h => ⟨below_then H6b.out h.1 H6b.out.size, h.2⟩) _ _ _ _ ?_
    have hHeld3 : (fun w' => Below w6.heap.size w6 w' ∧ Below w.heap.size w w') w6 := ⟨Below.refl _ _, H6.out⟩
    try simp only [Act.put, List.setIfInBounds_toArray, List.set_cons_zero, List.set_cons_succ]
    refine wpAnyH_take (i := 7) (oi := ?oia7) (v := ?va7) ?hia7 (by kernel_rfl) (by kernel_rfl) (by kernel_rfl) ?hQa7 (Or.inl ⟨?hwa7, ?hya7⟩) (by assumption) ?resta7
    case hia7 => (first | (simp only [List.getElem?_toArray, List.getElem?_cons_zero, List.getElem?_cons_succ]; rfl) | rfl)
    case hQa7 => exact fun _ _ _ h => h
    case hwa7 => rfl
    case hya7 => ((intro w hSw; go_simp); first | done | with_reducible rfl)
    try simp only [Act.put, List.setIfInBounds_toArray, List.set_cons_zero, List.set_cons_succ]
    refine wpAnyH_take (i := 8) (oi := ?oia8) (v := ?va8) ?hia8 (by kernel_rfl) (by kernel_rfl) (by kernel_rfl) ?hQa8 (Or.inl ⟨?hwa8, ?hya8⟩) (by assumption) ?resta8
    case hia8 => (first | (simp only [List.getElem?_toArray, List.getElem?_cons_zero, List.getElem?_cons_succ]; rfl) | rfl)
    case hQa8 => exact fun _ _ _ h => h
    case hwa8 => rfl
    case hya8 => ((intro w hSw; go_simp); first | done | with_reducible rfl)
    try simp only [Act.put, List.setIfInBounds_toArray, List.set_cons_zero, List.set_cons_succ]
    refine wpAnyH_take (i := 9) (oi := ?oia9) (v := ?va9) ?hia9 (by kernel_rfl) (by kernel_rfl) (by kernel_rfl) ?hQa9 (Or.inl ⟨?hwa9, ?hya9⟩) (by assumption) ?resta9
    case hia9 => (first | (simp only [List.getElem?_toArray, List.getElem?_cons_zero, List.getElem?_cons_succ]; rfl) | rfl)
    case hQa9 => exact fun _ _ _ h => h
    case hwa9 => rfl
    case hya9 => ((intro w hSw; go_simp); first | done | with_reducible rfl)
    try simp only [Act.put, List.setIfInBounds_toArray, List.set_cons_zero, List.set_cons_succ]
    refine wpAnyH_take (i := 10) (oi := ?oia10) (v := ?va10) ?hia10 (by kernel_rfl) (by kernel_rfl) (by kernel_rfl) ?hQa10 (Or.inl ⟨?hwa10, ?hya10⟩) (by assumption) ?resta10
    case hia10 => (first | (simp only [List.getElem?_toArray, List.getElem?_cons_zero, List.getElem?_cons_succ]; rfl) | rfl)
    case hQa10 => exact fun _ _ _ h => h
    case hwa10 => rfl
    case hya10 => ((intro w hSw; go_simp); first | done | with_reducible rfl)
    try simp only [Act.put, List.setIfInBounds_toArray, List.set_cons_zero, List.set_cons_succ]
    refine wpAnyH_take (i := 11) (oi := ?oia11) (v := ?va11) ?hia11 (by kernel_rfl) (by kernel_rfl) (by kernel_rfl) ?hQa11 (Or.inl ⟨?hwa11, ?hya11⟩) (by assumption) ?resta11
    case hia11 => (first | (simp only [List.getElem?_toArray, List.getElem?_cons_zero, List.getElem?_cons_succ]; rfl) | rfl)
    case hQa11 => exact fun _ _ _ h => h
    case hwa11 => rfl
    case hya11 => ((intro w hSw; go_simp); first | done | with_reducible rfl)
    try simp only [Act.put, List.setIfInBounds_toArray, List.set_cons_zero, List.set_cons_succ]
    refine wpAnyH_take (i := 12) (oi := ?oia12) (v := ?va12) ?hia12 (by kernel_rfl) (by kernel_rfl) (by kernel_rfl) ?hQa12 (Or.inl ⟨?hwa12, ?hya12⟩) (by assumption) ?resta12
    case hia12 => (first | (simp only [List.getElem?_toArray, List.getElem?_cons_zero, List.getElem?_cons_succ]; rfl) | rfl)
    case hQa12 => exact fun _ _ _ h => h
    case hwa12 => rfl
    case hya12 => ((intro w hSw; go_simp); first | done | with_reducible rfl)
    try simp only [Act.put, List.setIfInBounds_toArray, List.set_cons_zero, List.set_cons_succ]
    refine wpAnyH_take (i := 13) (oi := ?oia13) (v := ?va13) ?hia13 (by kernel_rfl) (by kernel_rfl) (by kernel_rfl) ?hQa13 (Or.inl ⟨?hwa13, ?hya13⟩) (by assumption) ?resta13
    case hia13 => (first | (simp only [List.getElem?_toArray, List.getElem?_cons_zero, List.getElem?_cons_succ]; rfl) | rfl)
    case hQa13 => exact fun _ _ _ h => h
    case hwa13 => rfl
    case hya13 => ((intro w hSw; go_simp); first | done | with_reducible rfl)
    try simp only [Act.put, List.setIfInBounds_toArray, List.set_cons_zero, List.set_cons_succ]
    refine wpAnyH_take (i := 14) (oi := ?oia14) (v := ?va14) ?hia14 (by kernel_rfl) (by kernel_rfl) (by kernel_rfl) ?hQa14 (Or.inl ⟨?hwa14, ?hya14⟩) (by assumption) ?resta14
    case hia14 => (first | (simp only [List.getElem?_toArray, List.getElem?_cons_zero, List.getElem?_cons_succ]; rfl) | rfl)
    case hQa14 => exact fun _ _ _ h => h
    case hwa14 => rfl
    case hya14 => ((intro w hSw; go_simp); first | done | with_reducible rfl)
    try simp only [Act.put, List.setIfInBounds_toArray, List.set_cons_zero, List.set_cons_succ]
    refine wpAnyH_take (i := 15) (oi := ?oia15) (v := ?va15) ?hia15 (by kernel_rfl) (by kernel_rfl) (by kernel_rfl) ?hQa15 (Or.inl ⟨?hwa15, ?hya15⟩) (by assumption) ?resta15
    case hia15 => (first | (simp only [List.getElem?_toArray, List.getElem?_cons_zero, List.getElem?_cons_succ]; rfl) | rfl)
    case hQa15 => exact fun _ _ _ h => h
    case hwa15 => rfl
    case hya15 => ((intro w hSw; go_simp); first | done | with_reducible rfl)
    try simp only [Act.put, List.setIfInBounds_toArray, List.set_cons_zero, List.set_cons_succ]
    refine wpAnyH_take (i := 16) (oi := ?oia16) (v := ?va16) ?hia16 (by kernel_rfl) (by kernel_rfl) (by kernel_rfl) ?hQa16 (Or.inl ⟨?hwa16, ?hya16⟩) (by assumption) ?resta16
    case hia16 => (first | (simp only [List.getElem?_toArray, List.getElem?_cons_zero, List.getElem?_cons_succ]; rfl) | rfl)
    case hQa16 => exact fun _ _ _ h => h
    case hwa16 => rfl
    case hya16 => ((intro w hSw; go_simp); first | done | with_reducible rfl)
    try simp only [Act.put, List.setIfInBounds_toArray, List.set_cons_zero, List.set_cons_succ]
    refine wpAnyH_take (i := 17) (oi := ?oia17) (v := ?va17) ?hia17 (by kernel_rfl) (by kernel_rfl) (by kernel_rfl) ?hQa17 (Or.inl ⟨?hwa17, ?hya17⟩) (by assumption) ?resta17
    case hia17 => (first | (simp only [List.getElem?_toArray, List.getElem?_cons_zero, List.getElem?_cons_succ]; rfl) | rfl)
    case hQa17 => exact fun _ _ _ h => h
    case hwa17 => rfl
    case hya17 => ((intro w hSw; go_simp); first | done | with_reducible rfl)
    try simp only [Act.put, List.setIfInBounds_toArray, List.set_cons_zero, List.set_cons_succ]
    refine wpAnyH_take (i := 18) (oi := ?oia18) (v := ?va18) ?hia18 (by kernel_rfl) (by kernel_rfl) (by kernel_rfl) ?hQa18 (Or.inl ⟨?hwa18, ?hya18⟩) (by assumption) ?resta18
    case hia18 => (first | (simp only [List.getElem?_toArray, List.getElem?_cons_zero, List.getElem?_cons_succ]; rfl) | rfl)
    case hQa18 => exact fun _ _ _ h => h
    case hwa18 => rfl
    case hya18 => ((intro w hSw; go_simp); first | done | with_reducible rfl)
    try simp only [Act.put, List.setIfInBounds_toArray, List.set_cons_zero, List.set_cons_succ]
    refine wpAnyH_take (i := 19) (oi := ?oia19) (v := ?va19) ?hia19 (by kernel_rfl) (by kernel_rfl) (by kernel_rfl) ?hQa19 (Or.inl ⟨?hwa19, ?hya19⟩) (by assumption) ?resta19
    case hia19 => (first | (simp only [List.getElem?_toArray, List.getElem?_cons_zero, List.getElem?_cons_succ]; rfl) | rfl)
    case hQa19 => exact fun _ _ _ h => h
    case hwa19 => rfl
    case hya19 => ((intro w hSw; go_simp); first | done | with_reducible rfl)
    try simp only [Act.put, List.setIfInBounds_toArray, List.set_cons_zero, List.set_cons_succ]
    refine wpAnyH_take (i := 20) (oi := ?oia20) (v := ?va20) ?hia20 (by kernel_rfl) (by kernel_rfl) (by kernel_rfl) ?hQa20 (Or.inl ⟨?hwa20, ?hya20⟩) (by assumption) ?resta20
    case hia20 => (first | (simp only [List.getElem?_toArray, List.getElem?_cons_zero, List.getElem?_cons_succ]; rfl) | rfl)
    case hQa20 => exact fun _ _ _ h => h
    case hwa20 => rfl
    case hya20 => ((intro w hSw; go_simp); first | done | with_reducible rfl)
    try simp only [Act.put, List.setIfInBounds_toArray, List.set_cons_zero, List.set_cons_succ]
    refine wpAnyH_take (i := 21) (oi := ?oia21) (v := ?va21) ?hia21 (by kernel_rfl) (by kernel_rfl) (by kernel_rfl) ?hQa21 (Or.inl ⟨?hwa21, ?hya21⟩) (by assumption) ?resta21
    case hia21 => (first | (simp only [List.getElem?_toArray, List.getElem?_cons_zero, List.getElem?_cons_succ]; rfl) | rfl)
    case hQa21 => exact fun _ _ _ h => h
    case hwa21 => rfl
    case hya21 => ((intro w hSw; go_simp); first | done | with_reducible rfl)
    try simp only [Act.put, List.setIfInBounds_toArray, List.set_cons_zero, List.set_cons_succ]
    refine wpAnyH_take (i := 22) (oi := ?oia22) (v := ?va22) ?hia22 (by kernel_rfl) (by kernel_rfl) (by kernel_rfl) ?hQa22 (Or.inl ⟨?hwa22, ?hya22⟩) (by assumption) ?resta22
    case hia22 => (first | (simp only [List.getElem?_toArray, List.getElem?_cons_zero, List.getElem?_cons_succ]; rfl) | rfl)
    case hQa22 => exact fun _ _ _ h => h
    case hwa22 => rfl
    case hya22 => ((intro w hSw; go_simp); first | done | with_reducible rfl)
    try simp only [Act.put, List.setIfInBounds_toArray, List.set_cons_zero, List.set_cons_succ]
    refine wpAnyH_take (i := 23) (oi := ?oia23) (v := ?va23) ?hia23 (by kernel_rfl) (by kernel_rfl) (by kernel_rfl) ?hQa23 (Or.inl ⟨?hwa23, ?hya23⟩) (by assumption) ?resta23
    case hia23 => (first | (simp only [List.getElem?_toArray, List.getElem?_cons_zero, List.getElem?_cons_succ]; rfl) | rfl)
    case hQa23 => exact fun _ _ _ h => h
    case hwa23 => rfl
    case hya23 => ((intro w hSw; go_simp); first | done | with_reducible rfl)
    try simp only [Act.put, List.setIfInBounds_toArray, List.set_cons_zero, List.set_cons_succ]
    refine wpAnyH_take (i := 24) (oi := ?oia24) (v := ?va24) ?hia24 (by kernel_rfl) (by kernel_rfl) (by kernel_rfl) ?hQa24 (Or.inl ⟨?hwa24, ?hya24⟩) (by assumption) ?resta24
    case hia24 => (first | (simp only [List.getElem?_toArray, List.getElem?_cons_zero, List.getElem?_cons_succ]; rfl) | rfl)
    case hQa24 => exact fun _ _ _ h => h
    case hwa24 => rfl
    case hya24 => ((intro w hSw; go_simp); first | done | with_reducible rfl)
    try simp only [Act.put, List.setIfInBounds_toArray, List.set_cons_zero, List.set_cons_succ]
    refine wpAnyH_take (i := 25) (oi := ?oia25) (v := ?va25) ?hia25 (by kernel_rfl) (by kernel_rfl) (by kernel_rfl) ?hQa25 (Or.inl ⟨?hwa25, ?hya25⟩) (by assumption) ?resta25
    case hia25 => (first | (simp only [List.getElem?_toArray, List.getElem?_cons_zero, List.getElem?_cons_succ]; rfl) | rfl)
    case hQa25 => exact fun _ _ _ h => h
    case hwa25 => rfl
    case hya25 => ((intro w hSw; go_simp); first | done | with_reducible rfl)
    try simp only [Act.put, List.setIfInBounds_toArray, List.set_cons_zero, List.set_cons_succ]
    refine wpAnyH_done (by kernel_rfl) ?_ _
    go_wp2
    go_ret
    exact ⟨rfl, H6.out⟩
end Go.Proofs.Ytmncnbnloonenaa
