/- VocabBytes, walked. -/
import Derived.Test.YtecpihghlelefaaVRows2
import Derived.Test.YtecpihghlelefaaVLaws1
import Derived.Deep.DeepCutAuto
import Derived.Deep.RegionHeld3
namespace Go.Proofs.Ytecpihghlelefaa
open Go.RowKit Go.Maps Go.WideMaps
set_option linter.unusedSimpArgs false

set_option maxHeartbeats 16000000 in
set_option maxRecDepth 100000 in
theorem vocabBytes_any (w : World) (A : Option Addr) (n c : Nat) (l : List (Int × Int)) (hl : PairsIn w A n l) (p : Nat) (hp : p < 256) :
    Calls Try.prog 7 #[.slice A n c, .int .u8 p] w fun e w' => e = .returned (.bool true) ∧ Below w.heap.size w w' := by
  obtain ⟨i0, hi, hz0, hz1, hz2⟩ := info_parts rowInfo
  obtain ⟨j0, hj, hy0, hy1, hy2⟩ := info_parts mergeInfo
  have HL := Lib.hid hl
  have hn63 : n ≤ 9223372036854775807 := hl.fit
  obtain ⟨V, E, hB⟩ : ∃ V E, buildAll l = (V, E) := ⟨_, _, rfl⟩
  obtain ⟨k, hk⟩ : ∃ k, V.tok.length = k := ⟨_, rfl⟩
  obtain ⟨m, hm⟩ : ∃ m, V.mer.length = m := ⟨_, rfl⟩
  have HBA := Lib.hid hB
  have HK := Lib.hid hk
  have HM := Lib.hid hm
  clear hl hB hk hm
  go_enter Try.func7, Try.ntmps7
  go_wp2_with fail
  refine (vocabHead_any w).mono ?_
  rintro e w1 ⟨rfl, hb⟩
  have HB1 := Lib.hid hb
  have HL1 := Lib.hid (HL.out.below hb)
  clear hb
  by_cases hbig : 200 < n
  · have hbz : (200 : Int) < (n : Int) := by omega
    go_wp2
    go_ret
    exact ⟨rfl, HB1.out⟩
  have hbz : ¬ (200 : Int) < (n : Int) := by omega
  go_wp2_with fail
  refine (vBuild_is w1 A n c l HL1.out HBA.out HK.out HM.out).mono ?_
  rintro e w2 ⟨AT, BM, ca, cb, rfl, hsee, hb⟩
  have HB2 := Lib.hid (below_then HB1.out hb HB1.out.size)
  have hb3 := (Below.refl w2.heap.size w2).alloc (Nat.le_refl _) (.cells #[.slice AT k ca, .slice BM m cb] 33)
  obtain ⟨W, hW⟩ : ∃ W, W = w2.alloc (.cells #[.slice AT k ca, .slice BM m cb] 33) := ⟨_, rfl⟩
  have hv3 : Blk W w2.heap.size 33 #[.slice AT k ca, .slice BM m cb] := by rw [hW]; exact Blk.new _ _ _
  rw [← hW] at hb3
  have HS3 := Lib.hid (hsee.below hb3)
  have HB3 := Lib.hid (below_then HB2.out hb3 HB2.out.size)
  have HV3 := Lib.hid hv3
  have y0 := hv3.cell 0
  have y1 := hv3.cell 1
  simp only [List.getElem?_toArray, List.getElem?_cons_zero, List.getElem?_cons_succ] at y0 y1
  have tt0 := y0
  rw [hW] at y0 y1
  have HW := Lib.hid hW
  clear hsee hb hb3 hW hv3 HL HL1
  by_cases hE : E ≠ 0
  · have d1 : (E != 0) = true := by simpa using hE
    clear hE tt0
    go_wp2
    go_ret
    exact ⟨rfl, by have h := HB3.out; rw [HW.out] at h; exact h⟩
  have hE0 : E = 0 := by simpa using hE
  subst hE0
  have hOk : VOk V := by
    have h := build_ok l ⟨ones, []⟩ ones_ok (by show (buildAll l).2 = 0; rw [HBA.out])
    have e : buildV ⟨ones, []⟩ l = (V, 0) := HBA.out
    rw [e] at h
    exact h
  have hk256 : 256 ≤ k := by have h := hOk.long; rw [HK.out] at h; exact h
  have hk512 : k ≤ 512 := by have h := hOk.tl; rw [HK.out] at h; exact h
  have hm512 : m ≤ 512 := by have h := hOk.ml; rw [HM.out] at h; exact h
  have HOK := Lib.hid hOk
  clear hE hOk
  have d2 : decide ((k : Int) < 256) = false := by simp; omega
  by_cases hfull : 512 ≤ k
  · have d3 : decide ((512 : Int) ≤ (k : Int)) = true := by simp; omega
    clear tt0
    go_wp2
    go_ret
    exact ⟨rfl, by have h := HB3.out; rw [HW.out] at h; exact h⟩
  have d3 : decide ((512 : Int) ≤ (k : Int)) = false := by simp; omega
  have hpk : p + 1 ≤ k := by omega
  have hkc := HS3.out.capT
  -- the two parts
  obtain ⟨s1, h1⟩ := rows_vals (HS3.out.tok.upto p (by omega))
  have hfrom := HS3.out.tok.from_ hkc (p + 1) hpk
  have hsl2 : ∀ w, (Instr.slice 30 (.slice AT k ca) (some (.int .i64 ((p : Int) + 1))) none none).run Try.prog w = .ok (.slice (cutAddr AT (p + 1) ca) (k - (p + 1)) (ca - (p + 1))) w := fun w => by
    have h := rows_from w AT k ca (p + 1) hpk
    rw [Int.natCast_add] at h
    exact h
  obtain ⟨A7, hA7⟩ : ∃ A7, A7 = cutAddr AT (p + 1) ca := ⟨_, rfl⟩
  obtain ⟨r, hr⟩ : ∃ r, r = k - (p + 1) := ⟨_, rfl⟩
  obtain ⟨c7, hc7⟩ : ∃ c7, c7 = ca - (p + 1) := ⟨_, rfl⟩
  rw [← hA7, ← hr] at hfrom
  rw [← hA7, ← hr, ← hc7] at hsl2
  obtain ⟨s2, h2⟩ := rows_vals hfrom
  have hsl1 : ∀ w, (Instr.slice 30 (.slice AT k ca) none (some (.int .u8 p)) none).run Try.prog w = .ok (.slice AT p ca) w := fun w => rows_to8 w AT k ca p (by omega)
  have hrk : p + r ≤ 1024 := by omega
  have hw1 : IntKind.i64.wrap (p : Int) = (p : Int) := by rw [IntKind.wrap_i64]; omega
  have hw2 : IntKind.i64.wrap ((p : Int) + 1) = (p : Int) + 1 := by rw [IntKind.wrap_i64]; omega
  have hlc : (V.tok.take p ++ V.tok.drop (p + 1)).length = p + r := by rw [List.length_append, List.length_take, List.length_drop, HK.out]; omega
  have hval : ∀ (i : Nat) (sv : Value) (x : Nm), (s1 ++ s2)[i]? = some sv → (V.tok.take p ++ V.tok.drop (p + 1))[i]? = some x → Holds1 W sv x := fun i sv x hi hx => by
    have e1 : s1.length = p := by have := h1.src.len; omega
    have e2 := h1.len
    rcases Nat.lt_or_ge i p with hip | hip
    · rw [List.getElem?_append_left (by omega)] at hi hx
      exact h1.vals i sv x hi hx
    · rw [List.getElem?_append_right (by omega)] at hi hx
      rw [e1] at hi
      rw [e2] at hx
      exact h2.vals (i - p) sv x hi hx
  have H1 := Lib.hid h1
  have H2 := Lib.hid h2
  have HLC := Lib.hid hlc
  have HVAL := Lib.hid hval
  have HRK := Lib.hid hr
  clear h1 h2 hlc hval hfrom hA7 hc7 hr
  go_wp2_with fail
  rw [← HW.out]
  clear y0 y1
  go_cut [8] (fun pv wx => ∃ g A2 c2, pv = .pointer (some ⟨g, 0, none⟩) ∧ Below W.heap.size W wx ∧ Blk wx g 33 #[.slice A2 (p + r) c2, .slice none 0 0] ∧ RowsSee wx A2 (p + r) (V.tok.take p ++ V.tok.drop (p + 1)) ∧ p + r ≤ c2)
  case first =>
    refine wp_region_held_drew (S := fun w' => w'.cell? ⟨w2.heap.size, 0, none⟩ = some (.slice AT k ca)) (by kernel_rfl) ?_ (fun hHeld => ?_)
    · exact tt0
    obtain ⟨u0a, hu0⟩ : ∃ z, z = W.drew := ⟨_, rfl⟩
    rw [← hu0] at hHeld ⊢
    have HBWa : Hid (Below W.heap.size W u0a) := Lib.hid (by rw [hu0]; exact (Below.refl _ W).drew)
    clear hu0
    refine wpAnyH_take (i := 1) (oi := ?oia11) (v := ?va11) ?hia11 (by kernel_rfl) (by kernel_rfl) (by kernel_rfl) ?hQa11 (Or.inl ⟨?hwa11, ?hya11⟩) (by assumption) ?resta11
    case hia11 => (first | (simp only [List.getElem?_toArray, List.getElem?_cons_zero, List.getElem?_cons_succ]; rfl) | rfl)
    case hQa11 => exact fun _ _ _ h => h
    case hwa11 => rfl
    case hya11 => ((intro w hSw; go_simp); first | done | with_reducible rfl)
    try simp only [Act.put, List.setIfInBounds_toArray, List.set_cons_zero, List.set_cons_succ]
    refine wpAnyH_take (i := 3) (oi := ?oia23) (v := ?va23) ?hia23 (by kernel_rfl) (by kernel_rfl) (by kernel_rfl) ?hQa23 (Or.inl ⟨?hwa23, ?hya23⟩) (by assumption) ?resta23
    case hia23 => (first | (simp only [List.getElem?_toArray, List.getElem?_cons_zero, List.getElem?_cons_succ]; rfl) | rfl)
    case hQa23 => exact fun _ _ _ h => h
    case hwa23 => rfl
    case hya23 => ((intro w hSw; go_simp); first | done | with_reducible rfl)
    try simp only [Act.put, List.setIfInBounds_toArray, List.set_cons_zero, List.set_cons_succ]
    refine wpAnyH_take (i := 6) (oi := ?oia36) (v := ?va36) ?hia36 (by kernel_rfl) (by kernel_rfl) (by kernel_rfl) ?hQa36 (Or.inl ⟨?hwa36, ?hya36⟩) (by assumption) ?resta36
    case hia36 => (first | (simp only [List.getElem?_toArray, List.getElem?_cons_zero, List.getElem?_cons_succ]; rfl) | rfl)
    case hQa36 => exact fun _ _ _ h => h
    case hwa36 => rfl
    case hya36 => ((intro w hSw; go_simp); first | done | with_reducible rfl)
    try simp only [Act.put, List.setIfInBounds_toArray, List.set_cons_zero, List.set_cons_succ]
    refine wpAnyH_take (i := 8) (oi := ?oia48) (v := ?va48) ?hia48 (by kernel_rfl) (by kernel_rfl) (by kernel_rfl) ?hQa48 (Or.inl ⟨?hwa48, ?hya48⟩) (by assumption) ?resta48
    case hia48 => (first | (simp only [List.getElem?_toArray, List.getElem?_cons_zero, List.getElem?_cons_succ]; rfl) | rfl)
    case hQa48 => exact fun _ _ _ h => h
    case hwa48 => rfl
    case hya48 => ((intro w hSw; go_simp); first | done | with_reducible rfl)
    try simp only [Act.put, List.setIfInBounds_toArray, List.set_cons_zero, List.set_cons_succ]
    refine wpAnyH_take (i := 2) (oi := ?oia52) (v := ?va52) ?hia52 (by kernel_rfl) (by kernel_rfl) (by kernel_rfl) ?hQa52 (Or.inl ⟨?hwa52, ?hya52⟩) (by assumption) ?resta52
    case hia52 => (first | (simp only [List.getElem?_toArray, List.getElem?_cons_zero, List.getElem?_cons_succ]; rfl) | rfl)
    case hQa52 => exact fun _ _ _ h => h
    case hwa52 => rfl
    case hya52 => ((intro w hSw; go_simp); first | done | with_reducible rfl)
    try simp only [Act.put, List.setIfInBounds_toArray, List.set_cons_zero, List.set_cons_succ]
    refine wpAnyH_take (i := 7) (oi := ?oia67) (v := ?va67) ?hia67 (by kernel_rfl) (by kernel_rfl) (by kernel_rfl) ?hQa67 (Or.inl ⟨?hwa67, ?hya67⟩) (by assumption) ?resta67
    case hia67 => (first | (simp only [List.getElem?_toArray, List.getElem?_cons_zero, List.getElem?_cons_succ]; rfl) | rfl)
    case hQa67 => exact fun _ _ _ h => h
    case hwa67 => rfl
    case hya67 => ((intro w hSw; go_simp); first | done | with_reducible rfl)
    try simp only [Act.put, List.setIfInBounds_toArray, List.set_cons_zero, List.set_cons_succ]
    refine wpAnyH_take (i := 9) (oi := ?oia79) (v := ?va79) ?hia79 (by kernel_rfl) (by kernel_rfl) (by kernel_rfl) ?hQa79 (Or.inl ⟨?hwa79, ?hya79⟩) (by assumption) ?resta79
    case hia79 => (first | (simp only [List.getElem?_toArray, List.getElem?_cons_zero, List.getElem?_cons_succ]; rfl) | rfl)
    case hQa79 => exact fun _ _ _ h => h
    case hwa79 => rfl
    case hya79 => ((intro w hSw; go_simp); first | done | with_reducible rfl)
    try simp only [Act.put, List.setIfInBounds_toArray, List.set_cons_zero, List.set_cons_succ]
    refine wpAnyH_take (i := 4) (oi := ?oia84) (v := ?va84) ?hia84 (by kernel_rfl) (by kernel_rfl) (by kernel_rfl) ?hQa84 (Or.inl ⟨?hwa84, ?hya84⟩) (by assumption) ?resta84
    case hia84 => (first | (simp only [List.getElem?_toArray, List.getElem?_cons_zero, List.getElem?_cons_succ]; rfl) | rfl)
    case hQa84 => exact fun _ _ _ h => h
    case hwa84 => rfl
    case hya84 => ((intro w hSw; go_simp); first | done | with_reducible rfl)
    try simp only [Act.put, List.setIfInBounds_toArray, List.set_cons_zero, List.set_cons_succ]
    refine wpAnyH_take (i := 10) (oi := ?oia910) (v := ?va910) ?hia910 (by kernel_rfl) (by kernel_rfl) (by kernel_rfl) ?hQa910 (Or.inl ⟨?hwa910, ?hya910⟩) (by assumption) ?resta910
    case hia910 => (first | (simp only [List.getElem?_toArray, List.getElem?_cons_zero, List.getElem?_cons_succ]; rfl) | rfl)
    case hQa910 => exact fun _ _ _ h => h
    case hwa910 => rfl
    case hya910 => ((intro w hSw; go_simp); first | done | with_reducible rfl)
    try simp only [Act.put, List.setIfInBounds_toArray, List.set_cons_zero, List.set_cons_succ]
    refine wpAnyH_take (i := 11) (oi := ?oia1011) (v := ?va1011) ?hia1011 (by kernel_rfl) (by kernel_rfl) (by kernel_rfl) ?hQa1011 (Or.inl ⟨?hwa1011, ?hya1011⟩) (by assumption) ?resta1011
    case hia1011 => (first | (simp only [List.getElem?_toArray, List.getElem?_cons_zero, List.getElem?_cons_succ]; rfl) | rfl)
    case hQa1011 => exact fun _ _ _ h => h
    case hwa1011 => rfl
    case hya1011 => ((intro w hSw; go_simp); first | done | with_reducible rfl)
    try simp only [Act.put, List.setIfInBounds_toArray, List.set_cons_zero, List.set_cons_succ]
    refine wpAnyH_ready (rs := [0, 14]) (by kernel_rfl) (by simp) ?_
    refine AllReadyH.cons (o := ?oa11) ?ha11 ?sa11 (AllReadyH.cons (o := ?oa12) ?ha12 ?sa12 AllReadyH.nil)
    case ha11 => (simp only [List.getElem?_toArray, List.getElem?_cons_zero, List.getElem?_cons_succ]; rfl)
    case ha12 => (simp only [List.getElem?_toArray, List.getElem?_cons_zero, List.getElem?_cons_succ]; rfl)
    case sa11 =>
     intro K hK
     go_simp
     obtain ⟨ua1, hua2⟩ : ∃ z, z = u0a.alloc (.cells #[] 23) := ⟨_, rfl⟩
     rw [← hua2]
     have hba3 : Below u0a.heap.size u0a ua1 := by rw [hua2]; exact (Below.refl _ u0a).alloc (Nat.le_refl _) _
     have HBa4 := Lib.hid ((HBWa.out).trans ((hba3).mono (HBWa.out).size))
     have Oa5 := Lib.hid ((by rw [hua2]; exact World.ownsRow_made u0a #[] 0 (HBWa.out).size (Nat.zero_le _) rfl : World.ownsRow ua1 W.heap.size 23 1 (.slice (some ⟨u0a.heap.size, 0, none⟩) 0 0) 0 []))
     clear hua2 hba3
     refine hK.out _ _ (below_cells HBa4.out tt0) (fun ha13 => ?_)
     clear hK K
     try simp only [Act.put, List.setIfInBounds_toArray, List.set_cons_zero, List.set_cons_succ]
     refine wpAnyH_ready (rs := [5, 14]) (by kernel_rfl) (by simp) ?_
     refine AllReadyH.cons (o := ?oa14) ?ha14 ?sa14 (AllReadyH.cons (o := ?oa15) ?ha15 ?sa15 AllReadyH.nil)
     case ha14 => (simp only [List.getElem?_toArray, List.getElem?_cons_zero, List.getElem?_cons_succ]; rfl)
     case ha15 => (simp only [List.getElem?_toArray, List.getElem?_cons_zero, List.getElem?_cons_succ]; rfl)
     case sa14 =>
      intro K hK
      refine step_append_srcN _ rfl (.tmp 47) (.tmp 51) 30 rfl W.heap.size 23 i0 (.slice none 0 0) 1 24 Try.underlying30 hi hz0 hz1 hz2 rfl (by omega) _ 0 [] rfl Oa5.out AT p ca s1 rfl (H1.out.src.below HBa4.out) (H1.out.one) (by unfold maxLen; omega) (by omega) ((HBa4.out).size) ?_
      intro va13 ua7 hwa9 hga8 hla12
      obtain ⟨Aa10, ca11, rfl⟩ := own_slice hwa9
      rw [Nat.zero_add, List.nil_append] at hwa9
      rw [Nat.zero_add]
      have HBa14 := Lib.hid ((HBa4.out).grown hga8 ((HBa4.out).size) (fun k e => (Oa5.out.lt k e).1))
      have Oa15 := Lib.hid hwa9
      clear hga8 hwa9 hla12
      refine hK.out _ _ (below_cells HBa14.out tt0) (fun ha16 => ?_)
      clear hK K
      try simp only [Act.put, List.setIfInBounds_toArray, List.set_cons_zero, List.set_cons_succ]
      refine wpAnyH_ready (rs := [12, 14]) (by kernel_rfl) (by simp) ?_
      refine AllReadyH.cons (o := ?oa17) ?ha17 ?sa17 (AllReadyH.cons (o := ?oa18) ?ha18 ?sa18 AllReadyH.nil)
      case ha17 => (simp only [List.getElem?_toArray, List.getElem?_cons_zero, List.getElem?_cons_succ]; rfl)
      case ha18 => (simp only [List.getElem?_toArray, List.getElem?_cons_zero, List.getElem?_cons_succ]; rfl)
      case sa17 =>
       intro K hK
       refine step_append_srcN _ rfl (.tmp 52) (.tmp 58) 30 rfl W.heap.size 23 i0 (.slice none 0 0) 1 24 Try.underlying30 hi hz0 hz1 hz2 rfl (by omega) _ p s1 rfl Oa15.out A7 r c7 s2 rfl (H2.out.src.below HBa14.out) (H2.out.one) (by unfold maxLen; omega) (by omega) ((HBa14.out).size) ?_
       intro va23 ua17 hwa19 hga18 hla22
       obtain ⟨Aa20, ca21, rfl⟩ := own_slice hwa19

       have HBa24 := Lib.hid ((HBa14.out).grown hga18 ((HBa14.out).size) (fun k e => (Oa15.out.lt k e).1))
       have Oa25 := Lib.hid hwa19
       clear hga18 hwa19 hla22
       refine hK.out _ _ (below_cells HBa24.out tt0) (fun ha19 => ?_)
       clear hK K
       try simp only [Act.put, List.setIfInBounds_toArray, List.set_cons_zero, List.set_cons_succ]
       refine wpAnyH_take (i := 13) (oi := ?oia2013) (v := ?va2013) ?hia2013 (by kernel_rfl) (by kernel_rfl) (by kernel_rfl) ?hQa2013 (Or.inl ⟨?hwa2013, ?hya2013⟩) (by assumption) ?resta2013
       case hia2013 => (first | (simp only [List.getElem?_toArray, List.getElem?_cons_zero, List.getElem?_cons_succ]; rfl) | rfl)
       case hQa2013 => exact fun _ _ _ h => h
       case hwa2013 => rfl
       case hya2013 => ((intro w hSw; go_simp); first | done | with_reducible rfl)
       try simp only [Act.put, List.setIfInBounds_toArray, List.set_cons_zero, List.set_cons_succ]
       refine wpAnyH_ready (rs := [14]) (by kernel_rfl) (by simp) ?_
       refine AllReadyH.cons (o := ?oa21) ?ha21 ?sa21 AllReadyH.nil
       case ha21 => (simp only [List.getElem?_toArray, List.getElem?_cons_zero, List.getElem?_cons_succ]; rfl)
       case sa21 =>
        intro K hK
        go_simp
        obtain ⟨ua27, hua28⟩ : ∃ z, z = ua17.alloc (.cells #[.slice none 0 0, .slice none 0 0] 33) := ⟨_, rfl⟩
        rw [← hua28]
        have hba29 : Below ua17.heap.size ua17 ua27 := by rw [hua28]; exact (Below.refl _ ua17).alloc (Nat.le_refl _) _
        have HBa30 := Lib.hid ((HBa24.out).trans ((hba29).mono (HBa24.out).size))
        have Oa33 := Lib.hid (ownsRow_block (Oa25.out) (fun g hg => (hba29).block g ((Oa25.out).lt g hg).2))
        have Ga31 := Lib.hid ((by rw [hua28]; exact Blk.new ua17 _ _ : Blk ua27 ua17.heap.size 33 #[.slice none 0 0, .slice none 0 0]))
        clear hua28 hba29
        have GEa34 := Lib.hid ((HBa24.out).size)
        refine hK.out _ _ (below_cells HBa30.out tt0) (fun ha22 => ?_)
        clear hK K
        try simp only [Act.put, List.setIfInBounds_toArray, List.set_cons_zero, List.set_cons_succ]
        refine wpAnyH_ready (rs := [15]) (by kernel_rfl) (by simp) ?_
        refine AllReadyH.cons (o := ?oa23) ?ha23 ?sa23 AllReadyH.nil
        case ha23 => (simp only [List.getElem?_toArray, List.getElem?_cons_zero, List.getElem?_cons_succ]; rfl)
        case sa23 =>
         intro K hK
         have za350 := Ga31.out.cell 0
         have za351 := Ga31.out.cell 1
         have za352 := Ga31.out.frozen 0
         have za353 := Ga31.out.frozen 1
         simp only [List.getElem?_toArray, List.getElem?_cons_zero, List.getElem?_cons_succ] at za350 za351
         go_simp
         have hgea41 : W.heap.size ≤ ua17.heap.size := GEa34.out
         have kpa36 : Kept (fun i => i = ua17.heap.size) ua27 ((ua27.setCell ⟨ua17.heap.size, 0, none⟩ (.slice Aa20 (p + r) ca21)).setCell ⟨ua17.heap.size, 1, none⟩ (.slice none 0 0)) := ((Kept.refl (fun i => i = ua17.heap.size) ua27).setCell (p := ⟨ua17.heap.size, 0, none⟩) (.inl rfl) _).setCell (p := ⟨ua17.heap.size, 1, none⟩) (.inl rfl) _
         have HBa37 := Lib.hid (((HBa30.out).setCell (p := ⟨ua17.heap.size, 0, none⟩) hgea41 (.slice Aa20 (p + r) ca21)).setCell (p := ⟨ua17.heap.size, 1, none⟩) hgea41 (.slice none 0 0))
         have Ga38 := Lib.hid ((Ga31.out.set_ 0 (.slice Aa20 (p + r) ca21)).set_ 1 (.slice none 0 0))
         have Oa39 := Lib.hid (ownsRow_kept Oa33.out kpa36 (fun g hg e => own_blk_ne Oa33.out Ga31.out (by decide) (by rw [hg, e])))
         clear za350 za351 za352 za353 kpa36 hgea41
         refine hK.out _ _ (below_cells HBa37.out tt0) (fun ha24 => ?_)
         clear hK K
         try simp only [Act.put, List.setIfInBounds_toArray, List.set_cons_zero, List.set_cons_succ]
         refine wpAnyH_done (by kernel_rfl) ?_ _
         go_wp2_with fail
         go_meet
         case rel => exact ⟨_, Aa20, ca21, rfl, HBa37.out, by have h := Ga38.out; simpa [Blk] using h, ownRows_see Oa39.out HLC.out (by unfold maxLen; omega) (fun i sv x hi hx => (HVAL.out i sv x hi hx).below HBa37.out)⟩
      case sa18 =>
       intro K hK
       go_simp
       obtain ⟨ua42, hua43⟩ : ∃ z, z = ua7.alloc (.cells #[.slice none 0 0, .slice none 0 0] 33) := ⟨_, rfl⟩
       rw [← hua43]
       have hba44 : Below ua7.heap.size ua7 ua42 := by rw [hua43]; exact (Below.refl _ ua7).alloc (Nat.le_refl _) _
       have HBa45 := Lib.hid ((HBa14.out).trans ((hba44).mono (HBa14.out).size))
       have Oa48 := Lib.hid (ownsRow_block (Oa15.out) (fun g hg => (hba44).block g ((Oa15.out).lt g hg).2))
       have Ga46 := Lib.hid ((by rw [hua43]; exact Blk.new ua7 _ _ : Blk ua42 ua7.heap.size 33 #[.slice none 0 0, .slice none 0 0]))
       clear hua43 hba44
       have GEa49 := Lib.hid ((HBa14.out).size)
       refine hK.out _ _ (below_cells HBa45.out tt0) (fun ha25 => ?_)
       clear hK K
       try simp only [Act.put, List.setIfInBounds_toArray, List.set_cons_zero, List.set_cons_succ]
       refine wpAnyH_ready (rs := [12]) (by kernel_rfl) (by simp) ?_
       refine AllReadyH.cons (o := ?oa26) ?ha26 ?sa26 AllReadyH.nil
       case ha26 => (simp only [List.getElem?_toArray, List.getElem?_cons_zero, List.getElem?_cons_succ]; rfl)
       case sa26 =>
        intro K hK
        refine step_append_srcN _ rfl (.tmp 52) (.tmp 58) 30 rfl W.heap.size 23 i0 (.slice none 0 0) 1 24 Try.underlying30 hi hz0 hz1 hz2 rfl (by omega) _ p s1 rfl Oa48.out A7 r c7 s2 rfl (H2.out.src.below HBa45.out) (H2.out.one) (by unfold maxLen; omega) (by omega) ((HBa45.out).size) ?_
        intro va56 ua50 hwa52 hga51 hla55
        obtain ⟨Aa53, ca54, rfl⟩ := own_slice hwa52

        have HBa57 := Lib.hid ((HBa45.out).grown hga51 ((HBa45.out).size) (fun k e => (Oa48.out.lt k e).1))
        have Ga60 := Lib.hid ((Ga46.out).grown hga51 (fun e => own_blk_ne Oa48.out Ga46.out (by decide) e.symm))
        have Oa58 := Lib.hid hwa52
        clear hga51 hwa52 hla55
        refine hK.out _ _ (below_cells HBa57.out tt0) (fun ha27 => ?_)
        clear hK K
        try simp only [Act.put, List.setIfInBounds_toArray, List.set_cons_zero, List.set_cons_succ]
        refine wpAnyH_take (i := 13) (oi := ?oia2813) (v := ?va2813) ?hia2813 (by kernel_rfl) (by kernel_rfl) (by kernel_rfl) ?hQa2813 (Or.inl ⟨?hwa2813, ?hya2813⟩) (by assumption) ?resta2813
        case hia2813 => (first | (simp only [List.getElem?_toArray, List.getElem?_cons_zero, List.getElem?_cons_succ]; rfl) | rfl)
        case hQa2813 => exact fun _ _ _ h => h
        case hwa2813 => rfl
        case hya2813 => ((intro w hSw; go_simp); first | done | with_reducible rfl)
        try simp only [Act.put, List.setIfInBounds_toArray, List.set_cons_zero, List.set_cons_succ]
        refine wpAnyH_ready (rs := [15]) (by kernel_rfl) (by simp) ?_
        refine AllReadyH.cons (o := ?oa29) ?ha29 ?sa29 AllReadyH.nil
        case ha29 => (simp only [List.getElem?_toArray, List.getElem?_cons_zero, List.getElem?_cons_succ]; rfl)
        case sa29 =>
         intro K hK
         have za610 := Ga60.out.cell 0
         have za611 := Ga60.out.cell 1
         have za612 := Ga60.out.frozen 0
         have za613 := Ga60.out.frozen 1
         simp only [List.getElem?_toArray, List.getElem?_cons_zero, List.getElem?_cons_succ] at za610 za611
         go_simp
         have hgea67 : W.heap.size ≤ ua7.heap.size := GEa49.out
         have kpa62 : Kept (fun i => i = ua7.heap.size) ua50 ((ua50.setCell ⟨ua7.heap.size, 0, none⟩ (.slice Aa53 (p + r) ca54)).setCell ⟨ua7.heap.size, 1, none⟩ (.slice none 0 0)) := ((Kept.refl (fun i => i = ua7.heap.size) ua50).setCell (p := ⟨ua7.heap.size, 0, none⟩) (.inl rfl) _).setCell (p := ⟨ua7.heap.size, 1, none⟩) (.inl rfl) _
         have HBa63 := Lib.hid (((HBa57.out).setCell (p := ⟨ua7.heap.size, 0, none⟩) hgea67 (.slice Aa53 (p + r) ca54)).setCell (p := ⟨ua7.heap.size, 1, none⟩) hgea67 (.slice none 0 0))
         have Ga64 := Lib.hid ((Ga60.out.set_ 0 (.slice Aa53 (p + r) ca54)).set_ 1 (.slice none 0 0))
         have Oa65 := Lib.hid (ownsRow_kept Oa58.out kpa62 (fun g hg e => own_blk_ne Oa58.out Ga60.out (by decide) (by rw [hg, e])))
         clear za610 za611 za612 za613 kpa62 hgea67
         refine hK.out _ _ (below_cells HBa63.out tt0) (fun ha30 => ?_)
         clear hK K
         try simp only [Act.put, List.setIfInBounds_toArray, List.set_cons_zero, List.set_cons_succ]
         refine wpAnyH_done (by kernel_rfl) ?_ _
         go_wp2_with fail
         go_meet
         case rel => exact ⟨_, Aa53, ca54, rfl, HBa63.out, by have h := Ga64.out; simpa [Blk] using h, ownRows_see Oa65.out HLC.out (by unfold maxLen; omega) (fun i sv x hi hx => (HVAL.out i sv x hi hx).below HBa63.out)⟩
     case sa15 =>
      intro K hK
      go_simp
      obtain ⟨ua68, hua69⟩ : ∃ z, z = ua1.alloc (.cells #[.slice none 0 0, .slice none 0 0] 33) := ⟨_, rfl⟩
      rw [← hua69]
      have hba70 : Below ua1.heap.size ua1 ua68 := by rw [hua69]; exact (Below.refl _ ua1).alloc (Nat.le_refl _) _
      have HBa71 := Lib.hid ((HBa4.out).trans ((hba70).mono (HBa4.out).size))
      have Oa74 := Lib.hid (ownsRow_block (Oa5.out) (fun g hg => (hba70).block g ((Oa5.out).lt g hg).2))
      have Ga72 := Lib.hid ((by rw [hua69]; exact Blk.new ua1 _ _ : Blk ua68 ua1.heap.size 33 #[.slice none 0 0, .slice none 0 0]))
      clear hua69 hba70
      have GEa75 := Lib.hid ((HBa4.out).size)
      refine hK.out _ _ (below_cells HBa71.out tt0) (fun ha31 => ?_)
      clear hK K
      try simp only [Act.put, List.setIfInBounds_toArray, List.set_cons_zero, List.set_cons_succ]
      refine wpAnyH_ready (rs := [5]) (by kernel_rfl) (by simp) ?_
      refine AllReadyH.cons (o := ?oa32) ?ha32 ?sa32 AllReadyH.nil
      case ha32 => (simp only [List.getElem?_toArray, List.getElem?_cons_zero, List.getElem?_cons_succ]; rfl)
      case sa32 =>
       intro K hK
       refine step_append_srcN _ rfl (.tmp 47) (.tmp 51) 30 rfl W.heap.size 23 i0 (.slice none 0 0) 1 24 Try.underlying30 hi hz0 hz1 hz2 rfl (by omega) _ 0 [] rfl Oa74.out AT p ca s1 rfl (H1.out.src.below HBa71.out) (H1.out.one) (by unfold maxLen; omega) (by omega) ((HBa71.out).size) ?_
       intro va82 ua76 hwa78 hga77 hla81
       obtain ⟨Aa79, ca80, rfl⟩ := own_slice hwa78
       rw [Nat.zero_add, List.nil_append] at hwa78
       rw [Nat.zero_add]
       have HBa83 := Lib.hid ((HBa71.out).grown hga77 ((HBa71.out).size) (fun k e => (Oa74.out.lt k e).1))
       have Ga86 := Lib.hid ((Ga72.out).grown hga77 (fun e => own_blk_ne Oa74.out Ga72.out (by decide) e.symm))
       have Oa84 := Lib.hid hwa78
       clear hga77 hwa78 hla81
       refine hK.out _ _ (below_cells HBa83.out tt0) (fun ha33 => ?_)
       clear hK K
       try simp only [Act.put, List.setIfInBounds_toArray, List.set_cons_zero, List.set_cons_succ]
       refine wpAnyH_ready (rs := [12]) (by kernel_rfl) (by simp) ?_
       refine AllReadyH.cons (o := ?oa34) ?ha34 ?sa34 AllReadyH.nil
       case ha34 => (simp only [List.getElem?_toArray, List.getElem?_cons_zero, List.getElem?_cons_succ]; rfl)
       case sa34 =>
        intro K hK
        refine step_append_srcN _ rfl (.tmp 52) (.tmp 58) 30 rfl W.heap.size 23 i0 (.slice none 0 0) 1 24 Try.underlying30 hi hz0 hz1 hz2 rfl (by omega) _ p s1 rfl Oa84.out A7 r c7 s2 rfl (H2.out.src.below HBa83.out) (H2.out.one) (by unfold maxLen; omega) (by omega) ((HBa83.out).size) ?_
        intro va93 ua87 hwa89 hga88 hla92
        obtain ⟨Aa90, ca91, rfl⟩ := own_slice hwa89

        have HBa94 := Lib.hid ((HBa83.out).grown hga88 ((HBa83.out).size) (fun k e => (Oa84.out.lt k e).1))
        have Ga97 := Lib.hid ((Ga86.out).grown hga88 (fun e => own_blk_ne Oa84.out Ga86.out (by decide) e.symm))
        have Oa95 := Lib.hid hwa89
        clear hga88 hwa89 hla92
        refine hK.out _ _ (below_cells HBa94.out tt0) (fun ha35 => ?_)
        clear hK K
        try simp only [Act.put, List.setIfInBounds_toArray, List.set_cons_zero, List.set_cons_succ]
        refine wpAnyH_take (i := 13) (oi := ?oia3613) (v := ?va3613) ?hia3613 (by kernel_rfl) (by kernel_rfl) (by kernel_rfl) ?hQa3613 (Or.inl ⟨?hwa3613, ?hya3613⟩) (by assumption) ?resta3613
        case hia3613 => (first | (simp only [List.getElem?_toArray, List.getElem?_cons_zero, List.getElem?_cons_succ]; rfl) | rfl)
        case hQa3613 => exact fun _ _ _ h => h
        case hwa3613 => rfl
        case hya3613 => ((intro w hSw; go_simp); first | done | with_reducible rfl)
        try simp only [Act.put, List.setIfInBounds_toArray, List.set_cons_zero, List.set_cons_succ]
        refine wpAnyH_ready (rs := [15]) (by kernel_rfl) (by simp) ?_
        refine AllReadyH.cons (o := ?oa37) ?ha37 ?sa37 AllReadyH.nil
        case ha37 => (simp only [List.getElem?_toArray, List.getElem?_cons_zero, List.getElem?_cons_succ]; rfl)
        case sa37 =>
         intro K hK
         have za980 := Ga97.out.cell 0
         have za981 := Ga97.out.cell 1
         have za982 := Ga97.out.frozen 0
         have za983 := Ga97.out.frozen 1
         simp only [List.getElem?_toArray, List.getElem?_cons_zero, List.getElem?_cons_succ] at za980 za981
         go_simp
         have hgea104 : W.heap.size ≤ ua1.heap.size := GEa75.out
         have kpa99 : Kept (fun i => i = ua1.heap.size) ua87 ((ua87.setCell ⟨ua1.heap.size, 0, none⟩ (.slice Aa90 (p + r) ca91)).setCell ⟨ua1.heap.size, 1, none⟩ (.slice none 0 0)) := ((Kept.refl (fun i => i = ua1.heap.size) ua87).setCell (p := ⟨ua1.heap.size, 0, none⟩) (.inl rfl) _).setCell (p := ⟨ua1.heap.size, 1, none⟩) (.inl rfl) _
         have HBa100 := Lib.hid (((HBa94.out).setCell (p := ⟨ua1.heap.size, 0, none⟩) hgea104 (.slice Aa90 (p + r) ca91)).setCell (p := ⟨ua1.heap.size, 1, none⟩) hgea104 (.slice none 0 0))
         have Ga101 := Lib.hid ((Ga97.out.set_ 0 (.slice Aa90 (p + r) ca91)).set_ 1 (.slice none 0 0))
         have Oa102 := Lib.hid (ownsRow_kept Oa95.out kpa99 (fun g hg e => own_blk_ne Oa95.out Ga97.out (by decide) (by rw [hg, e])))
         clear za980 za981 za982 za983 kpa99 hgea104
         refine hK.out _ _ (below_cells HBa100.out tt0) (fun ha38 => ?_)
         clear hK K
         try simp only [Act.put, List.setIfInBounds_toArray, List.set_cons_zero, List.set_cons_succ]
         refine wpAnyH_done (by kernel_rfl) ?_ _
         go_wp2_with fail
         go_meet
         case rel => exact ⟨_, Aa90, ca91, rfl, HBa100.out, by have h := Ga101.out; simpa [Blk] using h, ownRows_see Oa102.out HLC.out (by unfold maxLen; omega) (fun i sv x hi hx => (HVAL.out i sv x hi hx).below HBa100.out)⟩
    case sa12 =>
     intro K hK
     go_simp
     obtain ⟨ua105, hua106⟩ : ∃ z, z = u0a.alloc (.cells #[.slice none 0 0, .slice none 0 0] 33) := ⟨_, rfl⟩
     rw [← hua106]
     have hba107 : Below u0a.heap.size u0a ua105 := by rw [hua106]; exact (Below.refl _ u0a).alloc (Nat.le_refl _) _
     have HBa108 := Lib.hid ((HBWa.out).trans ((hba107).mono (HBWa.out).size))
     have Ga109 := Lib.hid ((by rw [hua106]; exact Blk.new u0a _ _ : Blk ua105 u0a.heap.size 33 #[.slice none 0 0, .slice none 0 0]))
     clear hua106 hba107
     have GEa111 := Lib.hid ((HBWa.out).size)
     refine hK.out _ _ (below_cells HBa108.out tt0) (fun ha39 => ?_)
     clear hK K
     try simp only [Act.put, List.setIfInBounds_toArray, List.set_cons_zero, List.set_cons_succ]
     refine wpAnyH_ready (rs := [0]) (by kernel_rfl) (by simp) ?_
     refine AllReadyH.cons (o := ?oa40) ?ha40 ?sa40 AllReadyH.nil
     case ha40 => (simp only [List.getElem?_toArray, List.getElem?_cons_zero, List.getElem?_cons_succ]; rfl)
     case sa40 =>
      intro K hK
      go_simp
      obtain ⟨ua112, hua113⟩ : ∃ z, z = ua105.alloc (.cells #[] 23) := ⟨_, rfl⟩
      rw [← hua113]
      have hba114 : Below ua105.heap.size ua105 ua112 := by rw [hua113]; exact (Below.refl _ ua105).alloc (Nat.le_refl _) _
      have HBa115 := Lib.hid ((HBa108.out).trans ((hba114).mono (HBa108.out).size))
      have Ga118 := Lib.hid ((Ga109.out).below hba114 (Ga109.out).lt)
      have Oa116 := Lib.hid ((by rw [hua113]; exact World.ownsRow_made ua105 #[] 0 (HBa108.out).size (Nat.zero_le _) rfl : World.ownsRow ua112 W.heap.size 23 1 (.slice (some ⟨ua105.heap.size, 0, none⟩) 0 0) 0 []))
      clear hua113 hba114
      refine hK.out _ _ (below_cells HBa115.out tt0) (fun ha41 => ?_)
      clear hK K
      try simp only [Act.put, List.setIfInBounds_toArray, List.set_cons_zero, List.set_cons_succ]
      refine wpAnyH_ready (rs := [5]) (by kernel_rfl) (by simp) ?_
      refine AllReadyH.cons (o := ?oa42) ?ha42 ?sa42 AllReadyH.nil
      case ha42 => (simp only [List.getElem?_toArray, List.getElem?_cons_zero, List.getElem?_cons_succ]; rfl)
      case sa42 =>
       intro K hK
       refine step_append_srcN _ rfl (.tmp 47) (.tmp 51) 30 rfl W.heap.size 23 i0 (.slice none 0 0) 1 24 Try.underlying30 hi hz0 hz1 hz2 rfl (by omega) _ 0 [] rfl Oa116.out AT p ca s1 rfl (H1.out.src.below HBa115.out) (H1.out.one) (by unfold maxLen; omega) (by omega) ((HBa115.out).size) ?_
       intro va125 ua119 hwa121 hga120 hla124
       obtain ⟨Aa122, ca123, rfl⟩ := own_slice hwa121
       rw [Nat.zero_add, List.nil_append] at hwa121
       rw [Nat.zero_add]
       have HBa126 := Lib.hid ((HBa115.out).grown hga120 ((HBa115.out).size) (fun k e => (Oa116.out.lt k e).1))
       have Ga129 := Lib.hid ((Ga118.out).grown hga120 (fun e => own_blk_ne Oa116.out Ga118.out (by decide) e.symm))
       have Oa127 := Lib.hid hwa121
       clear hga120 hwa121 hla124
       refine hK.out _ _ (below_cells HBa126.out tt0) (fun ha43 => ?_)
       clear hK K
       try simp only [Act.put, List.setIfInBounds_toArray, List.set_cons_zero, List.set_cons_succ]
       refine wpAnyH_ready (rs := [12]) (by kernel_rfl) (by simp) ?_
       refine AllReadyH.cons (o := ?oa44) ?ha44 ?sa44 AllReadyH.nil
       case ha44 => (simp only [List.getElem?_toArray, List.getElem?_cons_zero, List.getElem?_cons_succ]; rfl)
       case sa44 =>
        intro K hK
        refine step_append_srcN _ rfl (.tmp 52) (.tmp 58) 30 rfl W.heap.size 23 i0 (.slice none 0 0) 1 24 Try.underlying30 hi hz0 hz1 hz2 rfl (by omega) _ p s1 rfl Oa127.out A7 r c7 s2 rfl (H2.out.src.below HBa126.out) (H2.out.one) (by unfold maxLen; omega) (by omega) ((HBa126.out).size) ?_
        intro va136 ua130 hwa132 hga131 hla135
        obtain ⟨Aa133, ca134, rfl⟩ := own_slice hwa132

        have HBa137 := Lib.hid ((HBa126.out).grown hga131 ((HBa126.out).size) (fun k e => (Oa127.out.lt k e).1))
        have Ga140 := Lib.hid ((Ga129.out).grown hga131 (fun e => own_blk_ne Oa127.out Ga129.out (by decide) e.symm))
        have Oa138 := Lib.hid hwa132
        clear hga131 hwa132 hla135
        refine hK.out _ _ (below_cells HBa137.out tt0) (fun ha45 => ?_)
        clear hK K
        try simp only [Act.put, List.setIfInBounds_toArray, List.set_cons_zero, List.set_cons_succ]
        refine wpAnyH_take (i := 13) (oi := ?oia4613) (v := ?va4613) ?hia4613 (by kernel_rfl) (by kernel_rfl) (by kernel_rfl) ?hQa4613 (Or.inl ⟨?hwa4613, ?hya4613⟩) (by assumption) ?resta4613
        case hia4613 => (first | (simp only [List.getElem?_toArray, List.getElem?_cons_zero, List.getElem?_cons_succ]; rfl) | rfl)
        case hQa4613 => exact fun _ _ _ h => h
        case hwa4613 => rfl
        case hya4613 => ((intro w hSw; go_simp); first | done | with_reducible rfl)
        try simp only [Act.put, List.setIfInBounds_toArray, List.set_cons_zero, List.set_cons_succ]
        refine wpAnyH_ready (rs := [15]) (by kernel_rfl) (by simp) ?_
        refine AllReadyH.cons (o := ?oa47) ?ha47 ?sa47 AllReadyH.nil
        case ha47 => (simp only [List.getElem?_toArray, List.getElem?_cons_zero, List.getElem?_cons_succ]; rfl)
        case sa47 =>
         intro K hK
         have za1410 := Ga140.out.cell 0
         have za1411 := Ga140.out.cell 1
         have za1412 := Ga140.out.frozen 0
         have za1413 := Ga140.out.frozen 1
         simp only [List.getElem?_toArray, List.getElem?_cons_zero, List.getElem?_cons_succ] at za1410 za1411
         go_simp
         have hgea147 : W.heap.size ≤ u0a.heap.size := GEa111.out
         have kpa142 : Kept (fun i => i = u0a.heap.size) ua130 ((ua130.setCell ⟨u0a.heap.size, 0, none⟩ (.slice Aa133 (p + r) ca134)).setCell ⟨u0a.heap.size, 1, none⟩ (.slice none 0 0)) := ((Kept.refl (fun i => i = u0a.heap.size) ua130).setCell (p := ⟨u0a.heap.size, 0, none⟩) (.inl rfl) _).setCell (p := ⟨u0a.heap.size, 1, none⟩) (.inl rfl) _
         have HBa143 := Lib.hid (((HBa137.out).setCell (p := ⟨u0a.heap.size, 0, none⟩) hgea147 (.slice Aa133 (p + r) ca134)).setCell (p := ⟨u0a.heap.size, 1, none⟩) hgea147 (.slice none 0 0))
         have Ga144 := Lib.hid ((Ga140.out.set_ 0 (.slice Aa133 (p + r) ca134)).set_ 1 (.slice none 0 0))
         have Oa145 := Lib.hid (ownsRow_kept Oa138.out kpa142 (fun g hg e => own_blk_ne Oa138.out Ga140.out (by decide) (by rw [hg, e])))
         clear za1410 za1411 za1412 za1413 kpa142 hgea147
         refine hK.out _ _ (below_cells HBa143.out tt0) (fun ha48 => ?_)
         clear hK K
         try simp only [Act.put, List.setIfInBounds_toArray, List.set_cons_zero, List.set_cons_succ]
         refine wpAnyH_done (by kernel_rfl) ?_ _
         go_wp2_with fail
         go_meet
         case rel => exact ⟨_, Aa133, ca134, rfl, HBa143.out, by have h := Ga144.out; simpa [Blk] using h, ownRows_see Oa145.out HLC.out (by unfold maxLen; omega) (fun i sv x hi hx => (HVAL.out i sv x hi hx).below HBa143.out)⟩
  case rest =>
    obtain ⟨g8, A8, c8, rfl, hbW, hv8, hs8, hc8⟩ := hcut
    have HBF := Lib.hid (below_then HB3.out hbW HB3.out.size)
    have HV8 := Lib.hid hv8
    have HS8 := Lib.hid hs8
    have HC8 := Lib.hid hc8
    have HS4 := Lib.hid (HS3.out.below hbW)
    have HV4 := Lib.hid (HV3.out.below hbW HV3.out.lt)
    obtain ⟨x, hx⟩ : ∃ x, V.tok[p]? = some x := ⟨_, List.getElem?_eq_getElem (by rw [HK.out]; omega)⟩
    obtain ⟨ad, C, cx, rfl, tt1, hcx, hA⟩ := HS4.out.tok.at_ p x hx
    obtain ⟨s3, h3⟩ := rows_vals HS4.out.tok
    have hval3 : ∀ (i : Nat) (sv : Value) (y : Nm), (s3 ++ [.slice C x.length cx])[i]? = some sv → (V.tok ++ [x])[i]? = some y → Holds1 wc sv y := fun i sv y hi hy => by
      have e1 : s3.length = k := by have := h3.src.len; omega
      have e2 := h3.len
      rcases Nat.lt_or_ge i k with hik | hik
      · rw [List.getElem?_append_left (by omega)] at hi hy
        exact h3.vals i sv y hi hy
      · have hl := (List.getElem?_eq_some_iff.1 hy).1
        rw [List.length_append, List.length_singleton] at hl
        obtain rfl : i = k := by omega
        rw [List.getElem?_append_right (by omega), e1, Nat.sub_self] at hi
        rw [List.getElem?_append_right (by omega), e2, Nat.sub_self] at hy
        cases hi
        cases hy
        exact ⟨C, cx, rfl, hcx, hA⟩
    have H3 := Lib.hid h3
    have HVAL3 := Lib.hid hval3
    have HLT := Lib.hid (show (V.tok ++ [x]).length = k + 1 by rw [List.length_append, List.length_singleton, HK.out])
    have HX := Lib.hid hx
    have tt0' := HV4.out.cell 0
    simp only [List.getElem?_toArray, List.getElem?_cons_zero] at tt0'
    have hpz : (p : Int) < (k : Int) := by omega
    clear tt0 hbW hv8 hs8 hc8 h3 hval3 hx hcx hA hsl1 hsl2 H1 H2 HVAL
    have tt0 := tt0'
    clear tt0'
    go_wp2_with fail
    go_cut [9] (fun pv wx => ∃ g A2 c2, pv = .pointer (some ⟨g, 0, none⟩) ∧ Below wc.heap.size wc wx ∧ Blk wx g 33 #[.slice A2 (k + 1) c2, .slice none 0 0] ∧ RowsSee wx A2 (k + 1) (V.tok ++ [x]) ∧ k + 1 ≤ c2)
    case first =>
      refine wp_region_held_drew (S := fun w' => w'.cell? ⟨w2.heap.size, 0, none⟩ = some (.slice (some ad) k ca) ∧ w'.cell? (ad.add p) = some (.slice C x.length cx)) (by kernel_rfl) ?_ (fun hHeld => ?_)
      · exact ⟨tt0, tt1⟩
      obtain ⟨u0b, hu0⟩ : ∃ z, z = wc.drew := ⟨_, rfl⟩
      rw [← hu0] at hHeld ⊢
      have HBWb : Hid (Below wc.heap.size wc u0b) := Lib.hid (by rw [hu0]; exact (Below.refl _ wc).drew)
      clear hu0
      refine wpAnyH_take (i := 1) (oi := ?oib11) (v := ?vb11) ?hib11 (by kernel_rfl) (by kernel_rfl) (by kernel_rfl) ?hQb11 (Or.inl ⟨?hwb11, ?hyb11⟩) (by assumption) ?restb11
      case hib11 => (first | (simp only [List.getElem?_toArray, List.getElem?_cons_zero, List.getElem?_cons_succ]; rfl) | rfl)
      case hQb11 => exact fun _ _ _ h => h
      case hwb11 => rfl
      case hyb11 => ((intro w hSw; go_simp); first | done | with_reducible rfl)
      try simp only [Act.put, List.setIfInBounds_toArray, List.set_cons_zero, List.set_cons_succ]
      refine wpAnyH_take (i := 4) (oi := ?oib24) (v := ?vb24) ?hib24 (by kernel_rfl) (by kernel_rfl) (by kernel_rfl) ?hQb24 (Or.inl ⟨?hwb24, ?hyb24⟩) (by assumption) ?restb24
      case hib24 => (first | (simp only [List.getElem?_toArray, List.getElem?_cons_zero, List.getElem?_cons_succ]; rfl) | rfl)
      case hQb24 => exact fun _ _ _ h => h
      case hwb24 => rfl
      case hyb24 => ((intro w hSw; go_simp); first | done | with_reducible rfl)
      try simp only [Act.put, List.setIfInBounds_toArray, List.set_cons_zero, List.set_cons_succ]
      refine wpAnyH_take (i := 6) (oi := ?oib36) (v := ?vb36) ?hib36 (by kernel_rfl) (by kernel_rfl) (by kernel_rfl) ?hQb36 (Or.inl ⟨?hwb36, ?hyb36⟩) (by assumption) ?restb36
      case hib36 => (first | (simp only [List.getElem?_toArray, List.getElem?_cons_zero, List.getElem?_cons_succ]; rfl) | rfl)
      case hQb36 => exact fun _ _ _ h => h
      case hwb36 => rfl
      case hyb36 => ((intro w hSw; go_simp); first | done | with_reducible rfl)
      try simp only [Act.put, List.setIfInBounds_toArray, List.set_cons_zero, List.set_cons_succ]
      refine wpAnyH_take (i := 2) (oi := ?oib42) (v := ?vb42) ?hib42 (by kernel_rfl) (by kernel_rfl) (by kernel_rfl) ?hQb42 (Or.inl ⟨?hwb42, ?hyb42⟩) (by assumption) ?restb42
      case hib42 => (first | (simp only [List.getElem?_toArray, List.getElem?_cons_zero, List.getElem?_cons_succ]; rfl) | rfl)
      case hQb42 => exact fun _ _ _ h => h
      case hwb42 => rfl
      case hyb42 => ((intro w hSw; go_simp); first | done | with_reducible rfl)
      try simp only [Act.put, List.setIfInBounds_toArray, List.set_cons_zero, List.set_cons_succ]
      refine wpAnyH_take (i := 5) (oi := ?oib55) (v := ?vb55) ?hib55 (by kernel_rfl) (by kernel_rfl) (by kernel_rfl) ?hQb55 (Or.inl ⟨?hwb55, ?hyb55⟩) (by assumption) ?restb55
      case hib55 => (first | (simp only [List.getElem?_toArray, List.getElem?_cons_zero, List.getElem?_cons_succ]; rfl) | rfl)
      case hQb55 => exact fun _ _ _ h => h
      case hwb55 => rfl
      case hyb55 => ((intro w hSw; go_simp); first | done | with_reducible rfl)
      try simp only [Act.put, List.setIfInBounds_toArray, List.set_cons_zero, List.set_cons_succ]
      refine wpAnyH_take (i := 7) (oi := ?oib67) (v := ?vb67) ?hib67 (by kernel_rfl) (by kernel_rfl) (by kernel_rfl) ?hQb67 (Or.inl ⟨?hwb67, ?hyb67⟩) (by assumption) ?restb67
      case hib67 => (first | (simp only [List.getElem?_toArray, List.getElem?_cons_zero, List.getElem?_cons_succ]; rfl) | rfl)
      case hQb67 => exact fun _ _ _ h => h
      case hwb67 => rfl
      case hyb67 => ((intro w hSw; go_simp); first | done | with_reducible rfl)
      try simp only [Act.put, List.setIfInBounds_toArray, List.set_cons_zero, List.set_cons_succ]
      refine wpAnyH_take (i := 8) (oi := ?oib78) (v := ?vb78) ?hib78 (by kernel_rfl) (by kernel_rfl) (by kernel_rfl) ?hQb78 (Or.inl ⟨?hwb78, ?hyb78⟩) (by assumption) ?restb78
      case hib78 => (first | (simp only [List.getElem?_toArray, List.getElem?_cons_zero, List.getElem?_cons_succ]; rfl) | rfl)
      case hQb78 => exact fun _ _ _ h => h
      case hwb78 => rfl
      case hyb78 => ((intro w hSw; go_simp); first | done | with_reducible rfl)
      try simp only [Act.put, List.setIfInBounds_toArray, List.set_cons_zero, List.set_cons_succ]
      refine wpAnyH_ready (rs := [0, 9, 12]) (by kernel_rfl) (by simp) ?_
      refine AllReadyH.cons (o := ?ob8) ?hb8 ?sb8 (AllReadyH.cons (o := ?ob9) ?hb9 ?sb9 (AllReadyH.cons (o := ?ob10) ?hb10 ?sb10 AllReadyH.nil))
      case hb8 => (simp only [List.getElem?_toArray, List.getElem?_cons_zero, List.getElem?_cons_succ]; rfl)
      case hb9 => (simp only [List.getElem?_toArray, List.getElem?_cons_zero, List.getElem?_cons_succ]; rfl)
      case hb10 => (simp only [List.getElem?_toArray, List.getElem?_cons_zero, List.getElem?_cons_succ]; rfl)
      case sb8 =>
       intro K hK
       go_simp
       obtain ⟨ub1, hub2⟩ : ∃ z, z = u0b.alloc (.cells #[] 23) := ⟨_, rfl⟩
       rw [← hub2]
       have hbb3 : Below u0b.heap.size u0b ub1 := by rw [hub2]; exact (Below.refl _ u0b).alloc (Nat.le_refl _) _
       have HBb4 := Lib.hid ((HBWb.out).trans ((hbb3).mono (HBWb.out).size))
       have Ob5 := Lib.hid ((by rw [hub2]; exact World.ownsRow_made u0b #[] 0 (HBWb.out).size (Nat.zero_le _) rfl : World.ownsRow ub1 wc.heap.size 23 1 (.slice (some ⟨u0b.heap.size, 0, none⟩) 0 0) 0 []))
       clear hub2 hbb3
       refine hK.out _ _ (⟨below_cells HBb4.out tt0, below_cells HBb4.out tt1⟩) (fun hb11 => ?_)
       clear hK K
       try simp only [Act.put, List.setIfInBounds_toArray, List.set_cons_zero, List.set_cons_succ]
       refine wpAnyH_ready (rs := [3, 9, 12]) (by kernel_rfl) (by simp) ?_
       refine AllReadyH.cons (o := ?ob12) ?hb12 ?sb12 (AllReadyH.cons (o := ?ob13) ?hb13 ?sb13 (AllReadyH.cons (o := ?ob14) ?hb14 ?sb14 AllReadyH.nil))
       case hb12 => (simp only [List.getElem?_toArray, List.getElem?_cons_zero, List.getElem?_cons_succ]; rfl)
       case hb13 => (simp only [List.getElem?_toArray, List.getElem?_cons_zero, List.getElem?_cons_succ]; rfl)
       case hb14 => (simp only [List.getElem?_toArray, List.getElem?_cons_zero, List.getElem?_cons_succ]; rfl)
       case sb12 =>
        intro K hK
        refine step_append_srcN _ rfl (.tmp 61) (.tmp 63) 30 rfl wc.heap.size 23 i0 (.slice none 0 0) 1 24 Try.underlying30 hi hz0 hz1 hz2 rfl (by omega) _ 0 [] rfl Ob5.out (some ad) k ca s3 rfl (H3.out.src.below HBb4.out) (H3.out.one) (by unfold maxLen; omega) (by omega) ((HBb4.out).size) ?_
        intro vb13 ub7 hwb9 hgb8 hlb12
        obtain ⟨Ab10, cb11, rfl⟩ := own_slice hwb9
        rw [Nat.zero_add, List.nil_append] at hwb9
        rw [Nat.zero_add]
        have HBb14 := Lib.hid ((HBb4.out).grown hgb8 ((HBb4.out).size) (fun k e => (Ob5.out.lt k e).1))
        have Ob15 := Lib.hid hwb9
        clear hgb8 hwb9 hlb12
        refine hK.out _ _ (⟨below_cells HBb14.out tt0, below_cells HBb14.out tt1⟩) (fun hb15 => ?_)
        clear hK K
        try simp only [Act.put, List.setIfInBounds_toArray, List.set_cons_zero, List.set_cons_succ]
        refine wpAnyH_ready (rs := [9, 12]) (by kernel_rfl) (by simp) ?_
        refine AllReadyH.cons (o := ?ob16) ?hb16 ?sb16 (AllReadyH.cons (o := ?ob17) ?hb17 ?sb17 AllReadyH.nil)
        case hb16 => (simp only [List.getElem?_toArray, List.getElem?_cons_zero, List.getElem?_cons_succ]; rfl)
        case hb17 => (simp only [List.getElem?_toArray, List.getElem?_cons_zero, List.getElem?_cons_succ]; rfl)
        case sb16 =>
         intro K hK
         go_simp
         obtain ⟨ub17, hub18⟩ : ∃ z, z = ub7.alloc (.cells #[.slice C x.length cx] 23) := ⟨_, rfl⟩
         rw [← hub18]
         have hbb19 : Below ub7.heap.size ub7 ub17 := by rw [hub18]; exact (Below.refl _ ub7).alloc (Nat.le_refl _) _
         have HBb20 := Lib.hid ((HBb14.out).trans ((hbb19).mono (HBb14.out).size))
         have Ob23 := Lib.hid (ownsRow_block (Ob15.out) (fun g hg => (hbb19).block g ((Ob15.out).lt g hg).2))
         have Kb21 := Lib.hid ((by rw [hub18]; exact Blk.new ub7 _ _ : Blk ub17 ub7.heap.size 23 #[.slice C x.length cx]))
         clear hub18 hbb19
         refine hK.out _ _ (⟨below_cells HBb20.out tt0, below_cells HBb20.out tt1⟩) (fun hb18 => ?_)
         clear hK K
         try simp only [Act.put, List.setIfInBounds_toArray, List.set_cons_zero, List.set_cons_succ]
         refine wpAnyH_ready (rs := [10, 12]) (by kernel_rfl) (by simp) ?_
         refine AllReadyH.cons (o := ?ob19) ?hb19 ?sb19 (AllReadyH.cons (o := ?ob20) ?hb20 ?sb20 AllReadyH.nil)
         case hb19 => (simp only [List.getElem?_toArray, List.getElem?_cons_zero, List.getElem?_cons_succ]; rfl)
         case hb20 => (simp only [List.getElem?_toArray, List.getElem?_cons_zero, List.getElem?_cons_succ]; rfl)
         case sb19 =>
          intro K hK
          refine step_append_srcN _ rfl (.tmp 64) (.tmp 70) 30 rfl wc.heap.size 23 i0 (.slice none 0 0) 1 24 Try.underlying30 hi hz0 hz1 hz2 rfl (by omega) _ k s3 rfl Ob23.out (some ⟨ub7.heap.size, 0, none⟩) 1 1 [.slice C x.length cx] rfl (⟨rfl, fun ad e j u hu => by cases e; rw [addr_add, Kb21.out.cell]; simpa using hu, fun e => by cases e⟩ : SrcN _ (some ⟨ub7.heap.size, 0, none⟩) 1 1 [.slice C x.length cx]) (by simp [Value.oneCell']) (by unfold maxLen; omega) (by omega) ((HBb20.out).size) ?_
          intro vb30 ub24 hwb26 hgb25 hlb29
          obtain ⟨Ab27, cb28, rfl⟩ := own_slice hwb26

          have HBb31 := Lib.hid ((HBb20.out).grown hgb25 ((HBb20.out).size) (fun k e => (Ob23.out.lt k e).1))
          have Ob32 := Lib.hid hwb26
          clear hgb25 hwb26 hlb29
          refine hK.out _ _ (⟨below_cells HBb31.out tt0, below_cells HBb31.out tt1⟩) (fun hb21 => ?_)
          clear hK K
          try simp only [Act.put, List.setIfInBounds_toArray, List.set_cons_zero, List.set_cons_succ]
          refine wpAnyH_take (i := 11) (oi := ?oib2211) (v := ?vb2211) ?hib2211 (by kernel_rfl) (by kernel_rfl) (by kernel_rfl) ?hQb2211 (Or.inl ⟨?hwb2211, ?hyb2211⟩) (by assumption) ?restb2211
          case hib2211 => (first | (simp only [List.getElem?_toArray, List.getElem?_cons_zero, List.getElem?_cons_succ]; rfl) | rfl)
          case hQb2211 => exact fun _ _ _ h => h
          case hwb2211 => rfl
          case hyb2211 => ((intro w hSw; go_simp); first | done | with_reducible rfl)
          try simp only [Act.put, List.setIfInBounds_toArray, List.set_cons_zero, List.set_cons_succ]
          refine wpAnyH_ready (rs := [12]) (by kernel_rfl) (by simp) ?_
          refine AllReadyH.cons (o := ?ob23) ?hb23 ?sb23 AllReadyH.nil
          case hb23 => (simp only [List.getElem?_toArray, List.getElem?_cons_zero, List.getElem?_cons_succ]; rfl)
          case sb23 =>
           intro K hK
           go_simp
           obtain ⟨ub34, hub35⟩ : ∃ z, z = ub24.alloc (.cells #[.slice none 0 0, .slice none 0 0] 33) := ⟨_, rfl⟩
           rw [← hub35]
           have hbb36 : Below ub24.heap.size ub24 ub34 := by rw [hub35]; exact (Below.refl _ ub24).alloc (Nat.le_refl _) _
           have HBb37 := Lib.hid ((HBb31.out).trans ((hbb36).mono (HBb31.out).size))
           have Ob40 := Lib.hid (ownsRow_block (Ob32.out) (fun g hg => (hbb36).block g ((Ob32.out).lt g hg).2))
           have Gb38 := Lib.hid ((by rw [hub35]; exact Blk.new ub24 _ _ : Blk ub34 ub24.heap.size 33 #[.slice none 0 0, .slice none 0 0]))
           clear hub35 hbb36
           have GEb41 := Lib.hid ((HBb31.out).size)
           refine hK.out _ _ (⟨below_cells HBb37.out tt0, below_cells HBb37.out tt1⟩) (fun hb24 => ?_)
           clear hK K
           try simp only [Act.put, List.setIfInBounds_toArray, List.set_cons_zero, List.set_cons_succ]
           refine wpAnyH_ready (rs := [13]) (by kernel_rfl) (by simp) ?_
           refine AllReadyH.cons (o := ?ob25) ?hb25 ?sb25 AllReadyH.nil
           case hb25 => (simp only [List.getElem?_toArray, List.getElem?_cons_zero, List.getElem?_cons_succ]; rfl)
           case sb25 =>
            intro K hK
            have zb420 := Gb38.out.cell 0
            have zb421 := Gb38.out.cell 1
            have zb422 := Gb38.out.frozen 0
            have zb423 := Gb38.out.frozen 1
            simp only [List.getElem?_toArray, List.getElem?_cons_zero, List.getElem?_cons_succ] at zb420 zb421
            go_simp
            have hgeb48 : wc.heap.size ≤ ub24.heap.size := GEb41.out
            have kpb43 : Kept (fun i => i = ub24.heap.size) ub34 ((ub34.setCell ⟨ub24.heap.size, 0, none⟩ (.slice Ab27 (k + 1) cb28)).setCell ⟨ub24.heap.size, 1, none⟩ (.slice none 0 0)) := ((Kept.refl (fun i => i = ub24.heap.size) ub34).setCell (p := ⟨ub24.heap.size, 0, none⟩) (.inl rfl) _).setCell (p := ⟨ub24.heap.size, 1, none⟩) (.inl rfl) _
            have HBb44 := Lib.hid (((HBb37.out).setCell (p := ⟨ub24.heap.size, 0, none⟩) hgeb48 (.slice Ab27 (k + 1) cb28)).setCell (p := ⟨ub24.heap.size, 1, none⟩) hgeb48 (.slice none 0 0))
            have Gb45 := Lib.hid ((Gb38.out.set_ 0 (.slice Ab27 (k + 1) cb28)).set_ 1 (.slice none 0 0))
            have Ob46 := Lib.hid (ownsRow_kept Ob40.out kpb43 (fun g hg e => own_blk_ne Ob40.out Gb38.out (by decide) (by rw [hg, e])))
            clear zb420 zb421 zb422 zb423 kpb43 hgeb48
            refine hK.out _ _ (⟨below_cells HBb44.out tt0, below_cells HBb44.out tt1⟩) (fun hb26 => ?_)
            clear hK K
            try simp only [Act.put, List.setIfInBounds_toArray, List.set_cons_zero, List.set_cons_succ]
            refine wpAnyH_done (by kernel_rfl) ?_ _
            go_wp2_with fail
            go_meet
            case rel => exact ⟨_, Ab27, cb28, rfl, HBb44.out, by have h := Gb45.out; simpa [Blk] using h, ownRows_see Ob46.out HLT.out (by unfold maxLen; omega) (fun i sv x hi hx => (HVAL3.out i sv x hi hx).below HBb44.out)⟩
         case sb20 =>
          intro K hK
          go_simp
          obtain ⟨ub49, hub50⟩ : ∃ z, z = ub17.alloc (.cells #[.slice none 0 0, .slice none 0 0] 33) := ⟨_, rfl⟩
          rw [← hub50]
          have hbb51 : Below ub17.heap.size ub17 ub49 := by rw [hub50]; exact (Below.refl _ ub17).alloc (Nat.le_refl _) _
          have HBb52 := Lib.hid ((HBb20.out).trans ((hbb51).mono (HBb20.out).size))
          have Ob55 := Lib.hid (ownsRow_block (Ob23.out) (fun g hg => (hbb51).block g ((Ob23.out).lt g hg).2))
          have Kb56 := Lib.hid ((Kb21.out).below hbb51 (Kb21.out).lt)
          have Gb53 := Lib.hid ((by rw [hub50]; exact Blk.new ub17 _ _ : Blk ub49 ub17.heap.size 33 #[.slice none 0 0, .slice none 0 0]))
          clear hub50 hbb51
          have GEb57 := Lib.hid ((HBb20.out).size)
          refine hK.out _ _ (⟨below_cells HBb52.out tt0, below_cells HBb52.out tt1⟩) (fun hb27 => ?_)
          clear hK K
          try simp only [Act.put, List.setIfInBounds_toArray, List.set_cons_zero, List.set_cons_succ]
          refine wpAnyH_ready (rs := [10]) (by kernel_rfl) (by simp) ?_
          refine AllReadyH.cons (o := ?ob28) ?hb28 ?sb28 AllReadyH.nil
          case hb28 => (simp only [List.getElem?_toArray, List.getElem?_cons_zero, List.getElem?_cons_succ]; rfl)
          case sb28 =>
           intro K hK
           refine step_append_srcN _ rfl (.tmp 64) (.tmp 70) 30 rfl wc.heap.size 23 i0 (.slice none 0 0) 1 24 Try.underlying30 hi hz0 hz1 hz2 rfl (by omega) _ k s3 rfl Ob55.out (some ⟨ub7.heap.size, 0, none⟩) 1 1 [.slice C x.length cx] rfl (⟨rfl, fun ad e j u hu => by cases e; rw [addr_add, Kb56.out.cell]; simpa using hu, fun e => by cases e⟩ : SrcN _ (some ⟨ub7.heap.size, 0, none⟩) 1 1 [.slice C x.length cx]) (by simp [Value.oneCell']) (by unfold maxLen; omega) (by omega) ((HBb52.out).size) ?_
           intro vb64 ub58 hwb60 hgb59 hlb63
           obtain ⟨Ab61, cb62, rfl⟩ := own_slice hwb60

           have HBb65 := Lib.hid ((HBb52.out).grown hgb59 ((HBb52.out).size) (fun k e => (Ob55.out.lt k e).1))
           have Gb68 := Lib.hid ((Gb53.out).grown hgb59 (fun e => own_blk_ne Ob55.out Gb53.out (by decide) e.symm))
           have Ob66 := Lib.hid hwb60
           clear hgb59 hwb60 hlb63
           refine hK.out _ _ (⟨below_cells HBb65.out tt0, below_cells HBb65.out tt1⟩) (fun hb29 => ?_)
           clear hK K
           try simp only [Act.put, List.setIfInBounds_toArray, List.set_cons_zero, List.set_cons_succ]
           refine wpAnyH_take (i := 11) (oi := ?oib3011) (v := ?vb3011) ?hib3011 (by kernel_rfl) (by kernel_rfl) (by kernel_rfl) ?hQb3011 (Or.inl ⟨?hwb3011, ?hyb3011⟩) (by assumption) ?restb3011
           case hib3011 => (first | (simp only [List.getElem?_toArray, List.getElem?_cons_zero, List.getElem?_cons_succ]; rfl) | rfl)
           case hQb3011 => exact fun _ _ _ h => h
           case hwb3011 => rfl
           case hyb3011 => ((intro w hSw; go_simp); first | done | with_reducible rfl)
           try simp only [Act.put, List.setIfInBounds_toArray, List.set_cons_zero, List.set_cons_succ]
           refine wpAnyH_ready (rs := [13]) (by kernel_rfl) (by simp) ?_
           refine AllReadyH.cons (o := ?ob31) ?hb31 ?sb31 AllReadyH.nil
           case hb31 => (simp only [List.getElem?_toArray, List.getElem?_cons_zero, List.getElem?_cons_succ]; rfl)
           case sb31 =>
            intro K hK
            have zb690 := Gb68.out.cell 0
            have zb691 := Gb68.out.cell 1
            have zb692 := Gb68.out.frozen 0
            have zb693 := Gb68.out.frozen 1
            simp only [List.getElem?_toArray, List.getElem?_cons_zero, List.getElem?_cons_succ] at zb690 zb691
            go_simp
            have hgeb75 : wc.heap.size ≤ ub17.heap.size := GEb57.out
            have kpb70 : Kept (fun i => i = ub17.heap.size) ub58 ((ub58.setCell ⟨ub17.heap.size, 0, none⟩ (.slice Ab61 (k + 1) cb62)).setCell ⟨ub17.heap.size, 1, none⟩ (.slice none 0 0)) := ((Kept.refl (fun i => i = ub17.heap.size) ub58).setCell (p := ⟨ub17.heap.size, 0, none⟩) (.inl rfl) _).setCell (p := ⟨ub17.heap.size, 1, none⟩) (.inl rfl) _
            have HBb71 := Lib.hid (((HBb65.out).setCell (p := ⟨ub17.heap.size, 0, none⟩) hgeb75 (.slice Ab61 (k + 1) cb62)).setCell (p := ⟨ub17.heap.size, 1, none⟩) hgeb75 (.slice none 0 0))
            have Gb72 := Lib.hid ((Gb68.out.set_ 0 (.slice Ab61 (k + 1) cb62)).set_ 1 (.slice none 0 0))
            have Ob73 := Lib.hid (ownsRow_kept Ob66.out kpb70 (fun g hg e => own_blk_ne Ob66.out Gb68.out (by decide) (by rw [hg, e])))
            clear zb690 zb691 zb692 zb693 kpb70 hgeb75
            refine hK.out _ _ (⟨below_cells HBb71.out tt0, below_cells HBb71.out tt1⟩) (fun hb32 => ?_)
            clear hK K
            try simp only [Act.put, List.setIfInBounds_toArray, List.set_cons_zero, List.set_cons_succ]
            refine wpAnyH_done (by kernel_rfl) ?_ _
            go_wp2_with fail
            go_meet
            case rel => exact ⟨_, Ab61, cb62, rfl, HBb71.out, by have h := Gb72.out; simpa [Blk] using h, ownRows_see Ob73.out HLT.out (by unfold maxLen; omega) (fun i sv x hi hx => (HVAL3.out i sv x hi hx).below HBb71.out)⟩
        case sb17 =>
         intro K hK
         go_simp
         obtain ⟨ub76, hub77⟩ : ∃ z, z = ub7.alloc (.cells #[.slice none 0 0, .slice none 0 0] 33) := ⟨_, rfl⟩
         rw [← hub77]
         have hbb78 : Below ub7.heap.size ub7 ub76 := by rw [hub77]; exact (Below.refl _ ub7).alloc (Nat.le_refl _) _
         have HBb79 := Lib.hid ((HBb14.out).trans ((hbb78).mono (HBb14.out).size))
         have Ob82 := Lib.hid (ownsRow_block (Ob15.out) (fun g hg => (hbb78).block g ((Ob15.out).lt g hg).2))
         have Gb80 := Lib.hid ((by rw [hub77]; exact Blk.new ub7 _ _ : Blk ub76 ub7.heap.size 33 #[.slice none 0 0, .slice none 0 0]))
         clear hub77 hbb78
         have GEb83 := Lib.hid ((HBb14.out).size)
         refine hK.out _ _ (⟨below_cells HBb79.out tt0, below_cells HBb79.out tt1⟩) (fun hb33 => ?_)
         clear hK K
         try simp only [Act.put, List.setIfInBounds_toArray, List.set_cons_zero, List.set_cons_succ]
         refine wpAnyH_ready (rs := [9]) (by kernel_rfl) (by simp) ?_
         refine AllReadyH.cons (o := ?ob34) ?hb34 ?sb34 AllReadyH.nil
         case hb34 => (simp only [List.getElem?_toArray, List.getElem?_cons_zero, List.getElem?_cons_succ]; rfl)
         case sb34 =>
          intro K hK
          go_simp
          obtain ⟨ub84, hub85⟩ : ∃ z, z = ub76.alloc (.cells #[.slice C x.length cx] 23) := ⟨_, rfl⟩
          rw [← hub85]
          have hbb86 : Below ub76.heap.size ub76 ub84 := by rw [hub85]; exact (Below.refl _ ub76).alloc (Nat.le_refl _) _
          have HBb87 := Lib.hid ((HBb79.out).trans ((hbb86).mono (HBb79.out).size))
          have Ob90 := Lib.hid (ownsRow_block (Ob82.out) (fun g hg => (hbb86).block g ((Ob82.out).lt g hg).2))
          have Gb91 := Lib.hid ((Gb80.out).below hbb86 (Gb80.out).lt)
          have Kb88 := Lib.hid ((by rw [hub85]; exact Blk.new ub76 _ _ : Blk ub84 ub76.heap.size 23 #[.slice C x.length cx]))
          clear hub85 hbb86
          refine hK.out _ _ (⟨below_cells HBb87.out tt0, below_cells HBb87.out tt1⟩) (fun hb35 => ?_)
          clear hK K
          try simp only [Act.put, List.setIfInBounds_toArray, List.set_cons_zero, List.set_cons_succ]
          refine wpAnyH_ready (rs := [10]) (by kernel_rfl) (by simp) ?_
          refine AllReadyH.cons (o := ?ob36) ?hb36 ?sb36 AllReadyH.nil
          case hb36 => (simp only [List.getElem?_toArray, List.getElem?_cons_zero, List.getElem?_cons_succ]; rfl)
          case sb36 =>
           intro K hK
           refine step_append_srcN _ rfl (.tmp 64) (.tmp 70) 30 rfl wc.heap.size 23 i0 (.slice none 0 0) 1 24 Try.underlying30 hi hz0 hz1 hz2 rfl (by omega) _ k s3 rfl Ob90.out (some ⟨ub76.heap.size, 0, none⟩) 1 1 [.slice C x.length cx] rfl (⟨rfl, fun ad e j u hu => by cases e; rw [addr_add, Kb88.out.cell]; simpa using hu, fun e => by cases e⟩ : SrcN _ (some ⟨ub76.heap.size, 0, none⟩) 1 1 [.slice C x.length cx]) (by simp [Value.oneCell']) (by unfold maxLen; omega) (by omega) ((HBb87.out).size) ?_
           intro vb98 ub92 hwb94 hgb93 hlb97
           obtain ⟨Ab95, cb96, rfl⟩ := own_slice hwb94

           have HBb99 := Lib.hid ((HBb87.out).grown hgb93 ((HBb87.out).size) (fun k e => (Ob90.out.lt k e).1))
           have Gb102 := Lib.hid ((Gb91.out).grown hgb93 (fun e => own_blk_ne Ob90.out Gb91.out (by decide) e.symm))
           have Ob100 := Lib.hid hwb94
           clear hgb93 hwb94 hlb97
           refine hK.out _ _ (⟨below_cells HBb99.out tt0, below_cells HBb99.out tt1⟩) (fun hb37 => ?_)
           clear hK K
           try simp only [Act.put, List.setIfInBounds_toArray, List.set_cons_zero, List.set_cons_succ]
           refine wpAnyH_take (i := 11) (oi := ?oib3811) (v := ?vb3811) ?hib3811 (by kernel_rfl) (by kernel_rfl) (by kernel_rfl) ?hQb3811 (Or.inl ⟨?hwb3811, ?hyb3811⟩) (by assumption) ?restb3811
           case hib3811 => (first | (simp only [List.getElem?_toArray, List.getElem?_cons_zero, List.getElem?_cons_succ]; rfl) | rfl)
           case hQb3811 => exact fun _ _ _ h => h
           case hwb3811 => rfl
           case hyb3811 => ((intro w hSw; go_simp); first | done | with_reducible rfl)
           try simp only [Act.put, List.setIfInBounds_toArray, List.set_cons_zero, List.set_cons_succ]
           refine wpAnyH_ready (rs := [13]) (by kernel_rfl) (by simp) ?_
           refine AllReadyH.cons (o := ?ob39) ?hb39 ?sb39 AllReadyH.nil
           case hb39 => (simp only [List.getElem?_toArray, List.getElem?_cons_zero, List.getElem?_cons_succ]; rfl)
           case sb39 =>
            intro K hK
            have zb1030 := Gb102.out.cell 0
            have zb1031 := Gb102.out.cell 1
            have zb1032 := Gb102.out.frozen 0
            have zb1033 := Gb102.out.frozen 1
            simp only [List.getElem?_toArray, List.getElem?_cons_zero, List.getElem?_cons_succ] at zb1030 zb1031
            go_simp
            have hgeb109 : wc.heap.size ≤ ub7.heap.size := GEb83.out
            have kpb104 : Kept (fun i => i = ub7.heap.size) ub92 ((ub92.setCell ⟨ub7.heap.size, 0, none⟩ (.slice Ab95 (k + 1) cb96)).setCell ⟨ub7.heap.size, 1, none⟩ (.slice none 0 0)) := ((Kept.refl (fun i => i = ub7.heap.size) ub92).setCell (p := ⟨ub7.heap.size, 0, none⟩) (.inl rfl) _).setCell (p := ⟨ub7.heap.size, 1, none⟩) (.inl rfl) _
            have HBb105 := Lib.hid (((HBb99.out).setCell (p := ⟨ub7.heap.size, 0, none⟩) hgeb109 (.slice Ab95 (k + 1) cb96)).setCell (p := ⟨ub7.heap.size, 1, none⟩) hgeb109 (.slice none 0 0))
            have Gb106 := Lib.hid ((Gb102.out.set_ 0 (.slice Ab95 (k + 1) cb96)).set_ 1 (.slice none 0 0))
            have Ob107 := Lib.hid (ownsRow_kept Ob100.out kpb104 (fun g hg e => own_blk_ne Ob100.out Gb102.out (by decide) (by rw [hg, e])))
            clear zb1030 zb1031 zb1032 zb1033 kpb104 hgeb109
            refine hK.out _ _ (⟨below_cells HBb105.out tt0, below_cells HBb105.out tt1⟩) (fun hb40 => ?_)
            clear hK K
            try simp only [Act.put, List.setIfInBounds_toArray, List.set_cons_zero, List.set_cons_succ]
            refine wpAnyH_done (by kernel_rfl) ?_ _
            go_wp2_with fail
            go_meet
            case rel => exact ⟨_, Ab95, cb96, rfl, HBb105.out, by have h := Gb106.out; simpa [Blk] using h, ownRows_see Ob107.out HLT.out (by unfold maxLen; omega) (fun i sv x hi hx => (HVAL3.out i sv x hi hx).below HBb105.out)⟩
       case sb13 =>
        intro K hK
        go_simp
        obtain ⟨ub110, hub111⟩ : ∃ z, z = ub1.alloc (.cells #[.slice C x.length cx] 23) := ⟨_, rfl⟩
        rw [← hub111]
        have hbb112 : Below ub1.heap.size ub1 ub110 := by rw [hub111]; exact (Below.refl _ ub1).alloc (Nat.le_refl _) _
        have HBb113 := Lib.hid ((HBb4.out).trans ((hbb112).mono (HBb4.out).size))
        have Ob116 := Lib.hid (ownsRow_block (Ob5.out) (fun g hg => (hbb112).block g ((Ob5.out).lt g hg).2))
        have Kb114 := Lib.hid ((by rw [hub111]; exact Blk.new ub1 _ _ : Blk ub110 ub1.heap.size 23 #[.slice C x.length cx]))
        clear hub111 hbb112
        have ORb117 : Hid (u0b.heap.size < ub1.heap.size) := Lib.hid ((Ob5.out.lt _ rfl).2)
        refine hK.out _ _ (⟨below_cells HBb113.out tt0, below_cells HBb113.out tt1⟩) (fun hb41 => ?_)
        clear hK K
        try simp only [Act.put, List.setIfInBounds_toArray, List.set_cons_zero, List.set_cons_succ]
        refine wpAnyH_ready (rs := [3, 12]) (by kernel_rfl) (by simp) ?_
        refine AllReadyH.cons (o := ?ob42) ?hb42 ?sb42 (AllReadyH.cons (o := ?ob43) ?hb43 ?sb43 AllReadyH.nil)
        case hb42 => (simp only [List.getElem?_toArray, List.getElem?_cons_zero, List.getElem?_cons_succ]; rfl)
        case hb43 => (simp only [List.getElem?_toArray, List.getElem?_cons_zero, List.getElem?_cons_succ]; rfl)
        case sb42 =>
         intro K hK
         have NEKb114 := Lib.hid (show Value.ownBlock (.slice (some ⟨u0b.heap.size, 0, none⟩) 0 0) ≠ some ub1.heap.size from fun e => by have h1 : u0b.heap.size = ub1.heap.size := Option.some.inj e; have := ORb117.out; omega)
         refine step_append_srcN _ rfl (.tmp 61) (.tmp 63) 30 rfl wc.heap.size 23 i0 (.slice none 0 0) 1 24 Try.underlying30 hi hz0 hz1 hz2 rfl (by omega) _ 0 [] rfl Ob116.out (some ad) k ca s3 rfl (H3.out.src.below HBb113.out) (H3.out.one) (by unfold maxLen; omega) (by omega) ((HBb113.out).size) ?_
         intro vb124 ub118 hwb120 hgb119 hlb123
         obtain ⟨Ab121, cb122, rfl⟩ := own_slice hwb120
         rw [Nat.zero_add, List.nil_append] at hwb120
         rw [Nat.zero_add]
         have HBb125 := Lib.hid ((HBb113.out).grown hgb119 ((HBb113.out).size) (fun k e => (Ob116.out.lt k e).1))
         have Kb128 := Lib.hid ((Kb114.out).grown hgb119 (fun e => NEKb114.out e.symm))
         have Ob126 := Lib.hid hwb120
         clear hgb119 hwb120 hlb123
         refine hK.out _ _ (⟨below_cells HBb125.out tt0, below_cells HBb125.out tt1⟩) (fun hb44 => ?_)
         clear hK K
         try simp only [Act.put, List.setIfInBounds_toArray, List.set_cons_zero, List.set_cons_succ]
         refine wpAnyH_ready (rs := [10, 12]) (by kernel_rfl) (by simp) ?_
         refine AllReadyH.cons (o := ?ob45) ?hb45 ?sb45 (AllReadyH.cons (o := ?ob46) ?hb46 ?sb46 AllReadyH.nil)
         case hb45 => (simp only [List.getElem?_toArray, List.getElem?_cons_zero, List.getElem?_cons_succ]; rfl)
         case hb46 => (simp only [List.getElem?_toArray, List.getElem?_cons_zero, List.getElem?_cons_succ]; rfl)
         case sb45 =>
          intro K hK
          refine step_append_srcN _ rfl (.tmp 64) (.tmp 70) 30 rfl wc.heap.size 23 i0 (.slice none 0 0) 1 24 Try.underlying30 hi hz0 hz1 hz2 rfl (by omega) _ k s3 rfl Ob126.out (some ⟨ub1.heap.size, 0, none⟩) 1 1 [.slice C x.length cx] rfl (⟨rfl, fun ad e j u hu => by cases e; rw [addr_add, Kb128.out.cell]; simpa using hu, fun e => by cases e⟩ : SrcN _ (some ⟨ub1.heap.size, 0, none⟩) 1 1 [.slice C x.length cx]) (by simp [Value.oneCell']) (by unfold maxLen; omega) (by omega) ((HBb125.out).size) ?_
          intro vb135 ub129 hwb131 hgb130 hlb134
          obtain ⟨Ab132, cb133, rfl⟩ := own_slice hwb131

          have HBb136 := Lib.hid ((HBb125.out).grown hgb130 ((HBb125.out).size) (fun k e => (Ob126.out.lt k e).1))
          have Ob137 := Lib.hid hwb131
          clear hgb130 hwb131 hlb134
          refine hK.out _ _ (⟨below_cells HBb136.out tt0, below_cells HBb136.out tt1⟩) (fun hb47 => ?_)
          clear hK K
          try simp only [Act.put, List.setIfInBounds_toArray, List.set_cons_zero, List.set_cons_succ]
          refine wpAnyH_take (i := 11) (oi := ?oib4811) (v := ?vb4811) ?hib4811 (by kernel_rfl) (by kernel_rfl) (by kernel_rfl) ?hQb4811 (Or.inl ⟨?hwb4811, ?hyb4811⟩) (by assumption) ?restb4811
          case hib4811 => (first | (simp only [List.getElem?_toArray, List.getElem?_cons_zero, List.getElem?_cons_succ]; rfl) | rfl)
          case hQb4811 => exact fun _ _ _ h => h
          case hwb4811 => rfl
          case hyb4811 => ((intro w hSw; go_simp); first | done | with_reducible rfl)
          try simp only [Act.put, List.setIfInBounds_toArray, List.set_cons_zero, List.set_cons_succ]
          refine wpAnyH_ready (rs := [12]) (by kernel_rfl) (by simp) ?_
          refine AllReadyH.cons (o := ?ob49) ?hb49 ?sb49 AllReadyH.nil
          case hb49 => (simp only [List.getElem?_toArray, List.getElem?_cons_zero, List.getElem?_cons_succ]; rfl)
          case sb49 =>
           intro K hK
           go_simp
           obtain ⟨ub139, hub140⟩ : ∃ z, z = ub129.alloc (.cells #[.slice none 0 0, .slice none 0 0] 33) := ⟨_, rfl⟩
           rw [← hub140]
           have hbb141 : Below ub129.heap.size ub129 ub139 := by rw [hub140]; exact (Below.refl _ ub129).alloc (Nat.le_refl _) _
           have HBb142 := Lib.hid ((HBb136.out).trans ((hbb141).mono (HBb136.out).size))
           have Ob145 := Lib.hid (ownsRow_block (Ob137.out) (fun g hg => (hbb141).block g ((Ob137.out).lt g hg).2))
           have Gb143 := Lib.hid ((by rw [hub140]; exact Blk.new ub129 _ _ : Blk ub139 ub129.heap.size 33 #[.slice none 0 0, .slice none 0 0]))
           clear hub140 hbb141
           have GEb146 := Lib.hid ((HBb136.out).size)
           refine hK.out _ _ (⟨below_cells HBb142.out tt0, below_cells HBb142.out tt1⟩) (fun hb50 => ?_)
           clear hK K
           try simp only [Act.put, List.setIfInBounds_toArray, List.set_cons_zero, List.set_cons_succ]
           refine wpAnyH_ready (rs := [13]) (by kernel_rfl) (by simp) ?_
           refine AllReadyH.cons (o := ?ob51) ?hb51 ?sb51 AllReadyH.nil
           case hb51 => (simp only [List.getElem?_toArray, List.getElem?_cons_zero, List.getElem?_cons_succ]; rfl)
           case sb51 =>
            intro K hK
            have zb1470 := Gb143.out.cell 0
            have zb1471 := Gb143.out.cell 1
            have zb1472 := Gb143.out.frozen 0
            have zb1473 := Gb143.out.frozen 1
            simp only [List.getElem?_toArray, List.getElem?_cons_zero, List.getElem?_cons_succ] at zb1470 zb1471
            go_simp
            have hgeb153 : wc.heap.size ≤ ub129.heap.size := GEb146.out
            have kpb148 : Kept (fun i => i = ub129.heap.size) ub139 ((ub139.setCell ⟨ub129.heap.size, 0, none⟩ (.slice Ab132 (k + 1) cb133)).setCell ⟨ub129.heap.size, 1, none⟩ (.slice none 0 0)) := ((Kept.refl (fun i => i = ub129.heap.size) ub139).setCell (p := ⟨ub129.heap.size, 0, none⟩) (.inl rfl) _).setCell (p := ⟨ub129.heap.size, 1, none⟩) (.inl rfl) _
            have HBb149 := Lib.hid (((HBb142.out).setCell (p := ⟨ub129.heap.size, 0, none⟩) hgeb153 (.slice Ab132 (k + 1) cb133)).setCell (p := ⟨ub129.heap.size, 1, none⟩) hgeb153 (.slice none 0 0))
            have Gb150 := Lib.hid ((Gb143.out.set_ 0 (.slice Ab132 (k + 1) cb133)).set_ 1 (.slice none 0 0))
            have Ob151 := Lib.hid (ownsRow_kept Ob145.out kpb148 (fun g hg e => own_blk_ne Ob145.out Gb143.out (by decide) (by rw [hg, e])))
            clear zb1470 zb1471 zb1472 zb1473 kpb148 hgeb153
            refine hK.out _ _ (⟨below_cells HBb149.out tt0, below_cells HBb149.out tt1⟩) (fun hb52 => ?_)
            clear hK K
            try simp only [Act.put, List.setIfInBounds_toArray, List.set_cons_zero, List.set_cons_succ]
            refine wpAnyH_done (by kernel_rfl) ?_ _
            go_wp2_with fail
            go_meet
            case rel => exact ⟨_, Ab132, cb133, rfl, HBb149.out, by have h := Gb150.out; simpa [Blk] using h, ownRows_see Ob151.out HLT.out (by unfold maxLen; omega) (fun i sv x hi hx => (HVAL3.out i sv x hi hx).below HBb149.out)⟩
         case sb46 =>
          intro K hK
          go_simp
          obtain ⟨ub154, hub155⟩ : ∃ z, z = ub118.alloc (.cells #[.slice none 0 0, .slice none 0 0] 33) := ⟨_, rfl⟩
          rw [← hub155]
          have hbb156 : Below ub118.heap.size ub118 ub154 := by rw [hub155]; exact (Below.refl _ ub118).alloc (Nat.le_refl _) _
          have HBb157 := Lib.hid ((HBb125.out).trans ((hbb156).mono (HBb125.out).size))
          have Kb160 := Lib.hid ((Kb128.out).below hbb156 (Kb128.out).lt)
          have Ob161 := Lib.hid (ownsRow_block (Ob126.out) (fun g hg => (hbb156).block g ((Ob126.out).lt g hg).2))
          have Gb158 := Lib.hid ((by rw [hub155]; exact Blk.new ub118 _ _ : Blk ub154 ub118.heap.size 33 #[.slice none 0 0, .slice none 0 0]))
          clear hub155 hbb156
          have GEb162 := Lib.hid ((HBb125.out).size)
          refine hK.out _ _ (⟨below_cells HBb157.out tt0, below_cells HBb157.out tt1⟩) (fun hb53 => ?_)
          clear hK K
          try simp only [Act.put, List.setIfInBounds_toArray, List.set_cons_zero, List.set_cons_succ]
          refine wpAnyH_ready (rs := [10]) (by kernel_rfl) (by simp) ?_
          refine AllReadyH.cons (o := ?ob54) ?hb54 ?sb54 AllReadyH.nil
          case hb54 => (simp only [List.getElem?_toArray, List.getElem?_cons_zero, List.getElem?_cons_succ]; rfl)
          case sb54 =>
           intro K hK
           refine step_append_srcN _ rfl (.tmp 64) (.tmp 70) 30 rfl wc.heap.size 23 i0 (.slice none 0 0) 1 24 Try.underlying30 hi hz0 hz1 hz2 rfl (by omega) _ k s3 rfl Ob161.out (some ⟨ub1.heap.size, 0, none⟩) 1 1 [.slice C x.length cx] rfl (⟨rfl, fun ad e j u hu => by cases e; rw [addr_add, Kb160.out.cell]; simpa using hu, fun e => by cases e⟩ : SrcN _ (some ⟨ub1.heap.size, 0, none⟩) 1 1 [.slice C x.length cx]) (by simp [Value.oneCell']) (by unfold maxLen; omega) (by omega) ((HBb157.out).size) ?_
           intro vb169 ub163 hwb165 hgb164 hlb168
           obtain ⟨Ab166, cb167, rfl⟩ := own_slice hwb165

           have HBb170 := Lib.hid ((HBb157.out).grown hgb164 ((HBb157.out).size) (fun k e => (Ob161.out.lt k e).1))
           have Gb173 := Lib.hid ((Gb158.out).grown hgb164 (fun e => own_blk_ne Ob161.out Gb158.out (by decide) e.symm))
           have Ob171 := Lib.hid hwb165
           clear hgb164 hwb165 hlb168
           refine hK.out _ _ (⟨below_cells HBb170.out tt0, below_cells HBb170.out tt1⟩) (fun hb55 => ?_)
           clear hK K
           try simp only [Act.put, List.setIfInBounds_toArray, List.set_cons_zero, List.set_cons_succ]
           refine wpAnyH_take (i := 11) (oi := ?oib5611) (v := ?vb5611) ?hib5611 (by kernel_rfl) (by kernel_rfl) (by kernel_rfl) ?hQb5611 (Or.inl ⟨?hwb5611, ?hyb5611⟩) (by assumption) ?restb5611
           case hib5611 => (first | (simp only [List.getElem?_toArray, List.getElem?_cons_zero, List.getElem?_cons_succ]; rfl) | rfl)
           case hQb5611 => exact fun _ _ _ h => h
           case hwb5611 => rfl
           case hyb5611 => ((intro w hSw; go_simp); first | done | with_reducible rfl)
           try simp only [Act.put, List.setIfInBounds_toArray, List.set_cons_zero, List.set_cons_succ]
           refine wpAnyH_ready (rs := [13]) (by kernel_rfl) (by simp) ?_
           refine AllReadyH.cons (o := ?ob57) ?hb57 ?sb57 AllReadyH.nil
           case hb57 => (simp only [List.getElem?_toArray, List.getElem?_cons_zero, List.getElem?_cons_succ]; rfl)
           case sb57 =>
            intro K hK
            have zb1740 := Gb173.out.cell 0
            have zb1741 := Gb173.out.cell 1
            have zb1742 := Gb173.out.frozen 0
            have zb1743 := Gb173.out.frozen 1
            simp only [List.getElem?_toArray, List.getElem?_cons_zero, List.getElem?_cons_succ] at zb1740 zb1741
            go_simp
            have hgeb180 : wc.heap.size ≤ ub118.heap.size := GEb162.out
            have kpb175 : Kept (fun i => i = ub118.heap.size) ub163 ((ub163.setCell ⟨ub118.heap.size, 0, none⟩ (.slice Ab166 (k + 1) cb167)).setCell ⟨ub118.heap.size, 1, none⟩ (.slice none 0 0)) := ((Kept.refl (fun i => i = ub118.heap.size) ub163).setCell (p := ⟨ub118.heap.size, 0, none⟩) (.inl rfl) _).setCell (p := ⟨ub118.heap.size, 1, none⟩) (.inl rfl) _
            have HBb176 := Lib.hid (((HBb170.out).setCell (p := ⟨ub118.heap.size, 0, none⟩) hgeb180 (.slice Ab166 (k + 1) cb167)).setCell (p := ⟨ub118.heap.size, 1, none⟩) hgeb180 (.slice none 0 0))
            have Gb177 := Lib.hid ((Gb173.out.set_ 0 (.slice Ab166 (k + 1) cb167)).set_ 1 (.slice none 0 0))
            have Ob178 := Lib.hid (ownsRow_kept Ob171.out kpb175 (fun g hg e => own_blk_ne Ob171.out Gb173.out (by decide) (by rw [hg, e])))
            clear zb1740 zb1741 zb1742 zb1743 kpb175 hgeb180
            refine hK.out _ _ (⟨below_cells HBb176.out tt0, below_cells HBb176.out tt1⟩) (fun hb58 => ?_)
            clear hK K
            try simp only [Act.put, List.setIfInBounds_toArray, List.set_cons_zero, List.set_cons_succ]
            refine wpAnyH_done (by kernel_rfl) ?_ _
            go_wp2_with fail
            go_meet
            case rel => exact ⟨_, Ab166, cb167, rfl, HBb176.out, by have h := Gb177.out; simpa [Blk] using h, ownRows_see Ob178.out HLT.out (by unfold maxLen; omega) (fun i sv x hi hx => (HVAL3.out i sv x hi hx).below HBb176.out)⟩
        case sb43 =>
         intro K hK
         go_simp
         obtain ⟨ub181, hub182⟩ : ∃ z, z = ub110.alloc (.cells #[.slice none 0 0, .slice none 0 0] 33) := ⟨_, rfl⟩
         rw [← hub182]
         have hbb183 : Below ub110.heap.size ub110 ub181 := by rw [hub182]; exact (Below.refl _ ub110).alloc (Nat.le_refl _) _
         have HBb184 := Lib.hid ((HBb113.out).trans ((hbb183).mono (HBb113.out).size))
         have Ob187 := Lib.hid (ownsRow_block (Ob116.out) (fun g hg => (hbb183).block g ((Ob116.out).lt g hg).2))
         have Kb188 := Lib.hid ((Kb114.out).below hbb183 (Kb114.out).lt)
         have Gb185 := Lib.hid ((by rw [hub182]; exact Blk.new ub110 _ _ : Blk ub181 ub110.heap.size 33 #[.slice none 0 0, .slice none 0 0]))
         clear hub182 hbb183
         have GEb189 := Lib.hid ((HBb113.out).size)
         refine hK.out _ _ (⟨below_cells HBb184.out tt0, below_cells HBb184.out tt1⟩) (fun hb59 => ?_)
         clear hK K
         try simp only [Act.put, List.setIfInBounds_toArray, List.set_cons_zero, List.set_cons_succ]
         refine wpAnyH_ready (rs := [3]) (by kernel_rfl) (by simp) ?_
         refine AllReadyH.cons (o := ?ob60) ?hb60 ?sb60 AllReadyH.nil
         case hb60 => (simp only [List.getElem?_toArray, List.getElem?_cons_zero, List.getElem?_cons_succ]; rfl)
         case sb60 =>
          intro K hK
          have NEKb188 := Lib.hid (show Value.ownBlock (.slice (some ⟨u0b.heap.size, 0, none⟩) 0 0) ≠ some ub1.heap.size from fun e => by have h1 : u0b.heap.size = ub1.heap.size := Option.some.inj e; have := ORb117.out; omega)
          refine step_append_srcN _ rfl (.tmp 61) (.tmp 63) 30 rfl wc.heap.size 23 i0 (.slice none 0 0) 1 24 Try.underlying30 hi hz0 hz1 hz2 rfl (by omega) _ 0 [] rfl Ob187.out (some ad) k ca s3 rfl (H3.out.src.below HBb184.out) (H3.out.one) (by unfold maxLen; omega) (by omega) ((HBb184.out).size) ?_
          intro vb196 ub190 hwb192 hgb191 hlb195
          obtain ⟨Ab193, cb194, rfl⟩ := own_slice hwb192
          rw [Nat.zero_add, List.nil_append] at hwb192
          rw [Nat.zero_add]
          have HBb197 := Lib.hid ((HBb184.out).grown hgb191 ((HBb184.out).size) (fun k e => (Ob187.out.lt k e).1))
          have Kb200 := Lib.hid ((Kb188.out).grown hgb191 (fun e => NEKb188.out e.symm))
          have Gb201 := Lib.hid ((Gb185.out).grown hgb191 (fun e => own_blk_ne Ob187.out Gb185.out (by decide) e.symm))
          have Ob198 := Lib.hid hwb192
          clear hgb191 hwb192 hlb195
          refine hK.out _ _ (⟨below_cells HBb197.out tt0, below_cells HBb197.out tt1⟩) (fun hb61 => ?_)
          clear hK K
          try simp only [Act.put, List.setIfInBounds_toArray, List.set_cons_zero, List.set_cons_succ]
          refine wpAnyH_ready (rs := [10]) (by kernel_rfl) (by simp) ?_
          refine AllReadyH.cons (o := ?ob62) ?hb62 ?sb62 AllReadyH.nil
          case hb62 => (simp only [List.getElem?_toArray, List.getElem?_cons_zero, List.getElem?_cons_succ]; rfl)
          case sb62 =>
           intro K hK
           refine step_append_srcN _ rfl (.tmp 64) (.tmp 70) 30 rfl wc.heap.size 23 i0 (.slice none 0 0) 1 24 Try.underlying30 hi hz0 hz1 hz2 rfl (by omega) _ k s3 rfl Ob198.out (some ⟨ub1.heap.size, 0, none⟩) 1 1 [.slice C x.length cx] rfl (⟨rfl, fun ad e j u hu => by cases e; rw [addr_add, Kb200.out.cell]; simpa using hu, fun e => by cases e⟩ : SrcN _ (some ⟨ub1.heap.size, 0, none⟩) 1 1 [.slice C x.length cx]) (by simp [Value.oneCell']) (by unfold maxLen; omega) (by omega) ((HBb197.out).size) ?_
           intro vb208 ub202 hwb204 hgb203 hlb207
           obtain ⟨Ab205, cb206, rfl⟩ := own_slice hwb204

           have HBb209 := Lib.hid ((HBb197.out).grown hgb203 ((HBb197.out).size) (fun k e => (Ob198.out.lt k e).1))
           have Gb212 := Lib.hid ((Gb201.out).grown hgb203 (fun e => own_blk_ne Ob198.out Gb201.out (by decide) e.symm))
           have Ob210 := Lib.hid hwb204
           clear hgb203 hwb204 hlb207
           refine hK.out _ _ (⟨below_cells HBb209.out tt0, below_cells HBb209.out tt1⟩) (fun hb63 => ?_)
           clear hK K
           try simp only [Act.put, List.setIfInBounds_toArray, List.set_cons_zero, List.set_cons_succ]
           refine wpAnyH_take (i := 11) (oi := ?oib6411) (v := ?vb6411) ?hib6411 (by kernel_rfl) (by kernel_rfl) (by kernel_rfl) ?hQb6411 (Or.inl ⟨?hwb6411, ?hyb6411⟩) (by assumption) ?restb6411
           case hib6411 => (first | (simp only [List.getElem?_toArray, List.getElem?_cons_zero, List.getElem?_cons_succ]; rfl) | rfl)
           case hQb6411 => exact fun _ _ _ h => h
           case hwb6411 => rfl
           case hyb6411 => ((intro w hSw; go_simp); first | done | with_reducible rfl)
           try simp only [Act.put, List.setIfInBounds_toArray, List.set_cons_zero, List.set_cons_succ]
           refine wpAnyH_ready (rs := [13]) (by kernel_rfl) (by simp) ?_
           refine AllReadyH.cons (o := ?ob65) ?hb65 ?sb65 AllReadyH.nil
           case hb65 => (simp only [List.getElem?_toArray, List.getElem?_cons_zero, List.getElem?_cons_succ]; rfl)
           case sb65 =>
            intro K hK
            have zb2130 := Gb212.out.cell 0
            have zb2131 := Gb212.out.cell 1
            have zb2132 := Gb212.out.frozen 0
            have zb2133 := Gb212.out.frozen 1
            simp only [List.getElem?_toArray, List.getElem?_cons_zero, List.getElem?_cons_succ] at zb2130 zb2131
            go_simp
            have hgeb219 : wc.heap.size ≤ ub110.heap.size := GEb189.out
            have kpb214 : Kept (fun i => i = ub110.heap.size) ub202 ((ub202.setCell ⟨ub110.heap.size, 0, none⟩ (.slice Ab205 (k + 1) cb206)).setCell ⟨ub110.heap.size, 1, none⟩ (.slice none 0 0)) := ((Kept.refl (fun i => i = ub110.heap.size) ub202).setCell (p := ⟨ub110.heap.size, 0, none⟩) (.inl rfl) _).setCell (p := ⟨ub110.heap.size, 1, none⟩) (.inl rfl) _
            have HBb215 := Lib.hid (((HBb209.out).setCell (p := ⟨ub110.heap.size, 0, none⟩) hgeb219 (.slice Ab205 (k + 1) cb206)).setCell (p := ⟨ub110.heap.size, 1, none⟩) hgeb219 (.slice none 0 0))
            have Gb216 := Lib.hid ((Gb212.out.set_ 0 (.slice Ab205 (k + 1) cb206)).set_ 1 (.slice none 0 0))
            have Ob217 := Lib.hid (ownsRow_kept Ob210.out kpb214 (fun g hg e => own_blk_ne Ob210.out Gb212.out (by decide) (by rw [hg, e])))
            clear zb2130 zb2131 zb2132 zb2133 kpb214 hgeb219
            refine hK.out _ _ (⟨below_cells HBb215.out tt0, below_cells HBb215.out tt1⟩) (fun hb66 => ?_)
            clear hK K
            try simp only [Act.put, List.setIfInBounds_toArray, List.set_cons_zero, List.set_cons_succ]
            refine wpAnyH_done (by kernel_rfl) ?_ _
            go_wp2_with fail
            go_meet
            case rel => exact ⟨_, Ab205, cb206, rfl, HBb215.out, by have h := Gb216.out; simpa [Blk] using h, ownRows_see Ob217.out HLT.out (by unfold maxLen; omega) (fun i sv x hi hx => (HVAL3.out i sv x hi hx).below HBb215.out)⟩
       case sb14 =>
        intro K hK
        go_simp
        obtain ⟨ub220, hub221⟩ : ∃ z, z = ub1.alloc (.cells #[.slice none 0 0, .slice none 0 0] 33) := ⟨_, rfl⟩
        rw [← hub221]
        have hbb222 : Below ub1.heap.size ub1 ub220 := by rw [hub221]; exact (Below.refl _ ub1).alloc (Nat.le_refl _) _
        have HBb223 := Lib.hid ((HBb4.out).trans ((hbb222).mono (HBb4.out).size))
        have Ob226 := Lib.hid (ownsRow_block (Ob5.out) (fun g hg => (hbb222).block g ((Ob5.out).lt g hg).2))
        have Gb224 := Lib.hid ((by rw [hub221]; exact Blk.new ub1 _ _ : Blk ub220 ub1.heap.size 33 #[.slice none 0 0, .slice none 0 0]))
        clear hub221 hbb222
        have GEb227 := Lib.hid ((HBb4.out).size)
        refine hK.out _ _ (⟨below_cells HBb223.out tt0, below_cells HBb223.out tt1⟩) (fun hb67 => ?_)
        clear hK K
        try simp only [Act.put, List.setIfInBounds_toArray, List.set_cons_zero, List.set_cons_succ]
        refine wpAnyH_ready (rs := [3, 9]) (by kernel_rfl) (by simp) ?_
        refine AllReadyH.cons (o := ?ob68) ?hb68 ?sb68 (AllReadyH.cons (o := ?ob69) ?hb69 ?sb69 AllReadyH.nil)
        case hb68 => (simp only [List.getElem?_toArray, List.getElem?_cons_zero, List.getElem?_cons_succ]; rfl)
        case hb69 => (simp only [List.getElem?_toArray, List.getElem?_cons_zero, List.getElem?_cons_succ]; rfl)
        case sb68 =>
         intro K hK
         refine step_append_srcN _ rfl (.tmp 61) (.tmp 63) 30 rfl wc.heap.size 23 i0 (.slice none 0 0) 1 24 Try.underlying30 hi hz0 hz1 hz2 rfl (by omega) _ 0 [] rfl Ob226.out (some ad) k ca s3 rfl (H3.out.src.below HBb223.out) (H3.out.one) (by unfold maxLen; omega) (by omega) ((HBb223.out).size) ?_
         intro vb234 ub228 hwb230 hgb229 hlb233
         obtain ⟨Ab231, cb232, rfl⟩ := own_slice hwb230
         rw [Nat.zero_add, List.nil_append] at hwb230
         rw [Nat.zero_add]
         have HBb235 := Lib.hid ((HBb223.out).grown hgb229 ((HBb223.out).size) (fun k e => (Ob226.out.lt k e).1))
         have Gb238 := Lib.hid ((Gb224.out).grown hgb229 (fun e => own_blk_ne Ob226.out Gb224.out (by decide) e.symm))
         have Ob236 := Lib.hid hwb230
         clear hgb229 hwb230 hlb233
         refine hK.out _ _ (⟨below_cells HBb235.out tt0, below_cells HBb235.out tt1⟩) (fun hb70 => ?_)
         clear hK K
         try simp only [Act.put, List.setIfInBounds_toArray, List.set_cons_zero, List.set_cons_succ]
         refine wpAnyH_ready (rs := [9]) (by kernel_rfl) (by simp) ?_
         refine AllReadyH.cons (o := ?ob71) ?hb71 ?sb71 AllReadyH.nil
         case hb71 => (simp only [List.getElem?_toArray, List.getElem?_cons_zero, List.getElem?_cons_succ]; rfl)
         case sb71 =>
          intro K hK
          go_simp
          obtain ⟨ub239, hub240⟩ : ∃ z, z = ub228.alloc (.cells #[.slice C x.length cx] 23) := ⟨_, rfl⟩
          rw [← hub240]
          have hbb241 : Below ub228.heap.size ub228 ub239 := by rw [hub240]; exact (Below.refl _ ub228).alloc (Nat.le_refl _) _
          have HBb242 := Lib.hid ((HBb235.out).trans ((hbb241).mono (HBb235.out).size))
          have Gb245 := Lib.hid ((Gb238.out).below hbb241 (Gb238.out).lt)
          have Ob246 := Lib.hid (ownsRow_block (Ob236.out) (fun g hg => (hbb241).block g ((Ob236.out).lt g hg).2))
          have Kb243 := Lib.hid ((by rw [hub240]; exact Blk.new ub228 _ _ : Blk ub239 ub228.heap.size 23 #[.slice C x.length cx]))
          clear hub240 hbb241
          refine hK.out _ _ (⟨below_cells HBb242.out tt0, below_cells HBb242.out tt1⟩) (fun hb72 => ?_)
          clear hK K
          try simp only [Act.put, List.setIfInBounds_toArray, List.set_cons_zero, List.set_cons_succ]
          refine wpAnyH_ready (rs := [10]) (by kernel_rfl) (by simp) ?_
          refine AllReadyH.cons (o := ?ob73) ?hb73 ?sb73 AllReadyH.nil
          case hb73 => (simp only [List.getElem?_toArray, List.getElem?_cons_zero, List.getElem?_cons_succ]; rfl)
          case sb73 =>
           intro K hK
           refine step_append_srcN _ rfl (.tmp 64) (.tmp 70) 30 rfl wc.heap.size 23 i0 (.slice none 0 0) 1 24 Try.underlying30 hi hz0 hz1 hz2 rfl (by omega) _ k s3 rfl Ob246.out (some ⟨ub228.heap.size, 0, none⟩) 1 1 [.slice C x.length cx] rfl (⟨rfl, fun ad e j u hu => by cases e; rw [addr_add, Kb243.out.cell]; simpa using hu, fun e => by cases e⟩ : SrcN _ (some ⟨ub228.heap.size, 0, none⟩) 1 1 [.slice C x.length cx]) (by simp [Value.oneCell']) (by unfold maxLen; omega) (by omega) ((HBb242.out).size) ?_
           intro vb253 ub247 hwb249 hgb248 hlb252
           obtain ⟨Ab250, cb251, rfl⟩ := own_slice hwb249

           have HBb254 := Lib.hid ((HBb242.out).grown hgb248 ((HBb242.out).size) (fun k e => (Ob246.out.lt k e).1))
           have Gb257 := Lib.hid ((Gb245.out).grown hgb248 (fun e => own_blk_ne Ob246.out Gb245.out (by decide) e.symm))
           have Ob255 := Lib.hid hwb249
           clear hgb248 hwb249 hlb252
           refine hK.out _ _ (⟨below_cells HBb254.out tt0, below_cells HBb254.out tt1⟩) (fun hb74 => ?_)
           clear hK K
           try simp only [Act.put, List.setIfInBounds_toArray, List.set_cons_zero, List.set_cons_succ]
           refine wpAnyH_take (i := 11) (oi := ?oib7511) (v := ?vb7511) ?hib7511 (by kernel_rfl) (by kernel_rfl) (by kernel_rfl) ?hQb7511 (Or.inl ⟨?hwb7511, ?hyb7511⟩) (by assumption) ?restb7511
           case hib7511 => (first | (simp only [List.getElem?_toArray, List.getElem?_cons_zero, List.getElem?_cons_succ]; rfl) | rfl)
           case hQb7511 => exact fun _ _ _ h => h
           case hwb7511 => rfl
           case hyb7511 => ((intro w hSw; go_simp); first | done | with_reducible rfl)
           try simp only [Act.put, List.setIfInBounds_toArray, List.set_cons_zero, List.set_cons_succ]
           refine wpAnyH_ready (rs := [13]) (by kernel_rfl) (by simp) ?_
           refine AllReadyH.cons (o := ?ob76) ?hb76 ?sb76 AllReadyH.nil
           case hb76 => (simp only [List.getElem?_toArray, List.getElem?_cons_zero, List.getElem?_cons_succ]; rfl)
           case sb76 =>
            intro K hK
            have zb2580 := Gb257.out.cell 0
            have zb2581 := Gb257.out.cell 1
            have zb2582 := Gb257.out.frozen 0
            have zb2583 := Gb257.out.frozen 1
            simp only [List.getElem?_toArray, List.getElem?_cons_zero, List.getElem?_cons_succ] at zb2580 zb2581
            go_simp
            have hgeb264 : wc.heap.size ≤ ub1.heap.size := GEb227.out
            have kpb259 : Kept (fun i => i = ub1.heap.size) ub247 ((ub247.setCell ⟨ub1.heap.size, 0, none⟩ (.slice Ab250 (k + 1) cb251)).setCell ⟨ub1.heap.size, 1, none⟩ (.slice none 0 0)) := ((Kept.refl (fun i => i = ub1.heap.size) ub247).setCell (p := ⟨ub1.heap.size, 0, none⟩) (.inl rfl) _).setCell (p := ⟨ub1.heap.size, 1, none⟩) (.inl rfl) _
            have HBb260 := Lib.hid (((HBb254.out).setCell (p := ⟨ub1.heap.size, 0, none⟩) hgeb264 (.slice Ab250 (k + 1) cb251)).setCell (p := ⟨ub1.heap.size, 1, none⟩) hgeb264 (.slice none 0 0))
            have Gb261 := Lib.hid ((Gb257.out.set_ 0 (.slice Ab250 (k + 1) cb251)).set_ 1 (.slice none 0 0))
            have Ob262 := Lib.hid (ownsRow_kept Ob255.out kpb259 (fun g hg e => own_blk_ne Ob255.out Gb257.out (by decide) (by rw [hg, e])))
            clear zb2580 zb2581 zb2582 zb2583 kpb259 hgeb264
            refine hK.out _ _ (⟨below_cells HBb260.out tt0, below_cells HBb260.out tt1⟩) (fun hb77 => ?_)
            clear hK K
            try simp only [Act.put, List.setIfInBounds_toArray, List.set_cons_zero, List.set_cons_succ]
            refine wpAnyH_done (by kernel_rfl) ?_ _
            go_wp2_with fail
            go_meet
            case rel => exact ⟨_, Ab250, cb251, rfl, HBb260.out, by have h := Gb261.out; simpa [Blk] using h, ownRows_see Ob262.out HLT.out (by unfold maxLen; omega) (fun i sv x hi hx => (HVAL3.out i sv x hi hx).below HBb260.out)⟩
        case sb69 =>
         intro K hK
         go_simp
         obtain ⟨ub265, hub266⟩ : ∃ z, z = ub220.alloc (.cells #[.slice C x.length cx] 23) := ⟨_, rfl⟩
         rw [← hub266]
         have hbb267 : Below ub220.heap.size ub220 ub265 := by rw [hub266]; exact (Below.refl _ ub220).alloc (Nat.le_refl _) _
         have HBb268 := Lib.hid ((HBb223.out).trans ((hbb267).mono (HBb223.out).size))
         have Ob271 := Lib.hid (ownsRow_block (Ob226.out) (fun g hg => (hbb267).block g ((Ob226.out).lt g hg).2))
         have Gb272 := Lib.hid ((Gb224.out).below hbb267 (Gb224.out).lt)
         have Kb269 := Lib.hid ((by rw [hub266]; exact Blk.new ub220 _ _ : Blk ub265 ub220.heap.size 23 #[.slice C x.length cx]))
         clear hub266 hbb267
         have ORb273 : Hid (u0b.heap.size < ub220.heap.size) := Lib.hid ((Ob226.out.lt _ rfl).2)
         refine hK.out _ _ (⟨below_cells HBb268.out tt0, below_cells HBb268.out tt1⟩) (fun hb78 => ?_)
         clear hK K
         try simp only [Act.put, List.setIfInBounds_toArray, List.set_cons_zero, List.set_cons_succ]
         refine wpAnyH_ready (rs := [3]) (by kernel_rfl) (by simp) ?_
         refine AllReadyH.cons (o := ?ob79) ?hb79 ?sb79 AllReadyH.nil
         case hb79 => (simp only [List.getElem?_toArray, List.getElem?_cons_zero, List.getElem?_cons_succ]; rfl)
         case sb79 =>
          intro K hK
          have NEKb269 := Lib.hid (show Value.ownBlock (.slice (some ⟨u0b.heap.size, 0, none⟩) 0 0) ≠ some ub220.heap.size from fun e => by have h1 : u0b.heap.size = ub220.heap.size := Option.some.inj e; have := ORb273.out; omega)
          refine step_append_srcN _ rfl (.tmp 61) (.tmp 63) 30 rfl wc.heap.size 23 i0 (.slice none 0 0) 1 24 Try.underlying30 hi hz0 hz1 hz2 rfl (by omega) _ 0 [] rfl Ob271.out (some ad) k ca s3 rfl (H3.out.src.below HBb268.out) (H3.out.one) (by unfold maxLen; omega) (by omega) ((HBb268.out).size) ?_
          intro vb280 ub274 hwb276 hgb275 hlb279
          obtain ⟨Ab277, cb278, rfl⟩ := own_slice hwb276
          rw [Nat.zero_add, List.nil_append] at hwb276
          rw [Nat.zero_add]
          have HBb281 := Lib.hid ((HBb268.out).grown hgb275 ((HBb268.out).size) (fun k e => (Ob271.out.lt k e).1))
          have Kb284 := Lib.hid ((Kb269.out).grown hgb275 (fun e => NEKb269.out e.symm))
          have Gb285 := Lib.hid ((Gb272.out).grown hgb275 (fun e => own_blk_ne Ob271.out Gb272.out (by decide) e.symm))
          have Ob282 := Lib.hid hwb276
          clear hgb275 hwb276 hlb279
          refine hK.out _ _ (⟨below_cells HBb281.out tt0, below_cells HBb281.out tt1⟩) (fun hb80 => ?_)
          clear hK K
          try simp only [Act.put, List.setIfInBounds_toArray, List.set_cons_zero, List.set_cons_succ]
          refine wpAnyH_ready (rs := [10]) (by kernel_rfl) (by simp) ?_
          refine AllReadyH.cons (o := ?ob81) ?hb81 ?sb81 AllReadyH.nil
          case hb81 => (simp only [List.getElem?_toArray, List.getElem?_cons_zero, List.getElem?_cons_succ]; rfl)
          case sb81 =>
           intro K hK
           refine step_append_srcN _ rfl (.tmp 64) (.tmp 70) 30 rfl wc.heap.size 23 i0 (.slice none 0 0) 1 24 Try.underlying30 hi hz0 hz1 hz2 rfl (by omega) _ k s3 rfl Ob282.out (some ⟨ub220.heap.size, 0, none⟩) 1 1 [.slice C x.length cx] rfl (⟨rfl, fun ad e j u hu => by cases e; rw [addr_add, Kb284.out.cell]; simpa using hu, fun e => by cases e⟩ : SrcN _ (some ⟨ub220.heap.size, 0, none⟩) 1 1 [.slice C x.length cx]) (by simp [Value.oneCell']) (by unfold maxLen; omega) (by omega) ((HBb281.out).size) ?_
           intro vb292 ub286 hwb288 hgb287 hlb291
           obtain ⟨Ab289, cb290, rfl⟩ := own_slice hwb288

           have HBb293 := Lib.hid ((HBb281.out).grown hgb287 ((HBb281.out).size) (fun k e => (Ob282.out.lt k e).1))
           have Gb296 := Lib.hid ((Gb285.out).grown hgb287 (fun e => own_blk_ne Ob282.out Gb285.out (by decide) e.symm))
           have Ob294 := Lib.hid hwb288
           clear hgb287 hwb288 hlb291
           refine hK.out _ _ (⟨below_cells HBb293.out tt0, below_cells HBb293.out tt1⟩) (fun hb82 => ?_)
           clear hK K
           try simp only [Act.put, List.setIfInBounds_toArray, List.set_cons_zero, List.set_cons_succ]
           refine wpAnyH_take (i := 11) (oi := ?oib8311) (v := ?vb8311) ?hib8311 (by kernel_rfl) (by kernel_rfl) (by kernel_rfl) ?hQb8311 (Or.inl ⟨?hwb8311, ?hyb8311⟩) (by assumption) ?restb8311
           case hib8311 => (first | (simp only [List.getElem?_toArray, List.getElem?_cons_zero, List.getElem?_cons_succ]; rfl) | rfl)
           case hQb8311 => exact fun _ _ _ h => h
           case hwb8311 => rfl
           case hyb8311 => ((intro w hSw; go_simp); first | done | with_reducible rfl)
           try simp only [Act.put, List.setIfInBounds_toArray, List.set_cons_zero, List.set_cons_succ]
           refine wpAnyH_ready (rs := [13]) (by kernel_rfl) (by simp) ?_
           refine AllReadyH.cons (o := ?ob84) ?hb84 ?sb84 AllReadyH.nil
           case hb84 => (simp only [List.getElem?_toArray, List.getElem?_cons_zero, List.getElem?_cons_succ]; rfl)
           case sb84 =>
            intro K hK
            have zb2970 := Gb296.out.cell 0
            have zb2971 := Gb296.out.cell 1
            have zb2972 := Gb296.out.frozen 0
            have zb2973 := Gb296.out.frozen 1
            simp only [List.getElem?_toArray, List.getElem?_cons_zero, List.getElem?_cons_succ] at zb2970 zb2971
            go_simp
            have hgeb303 : wc.heap.size ≤ ub1.heap.size := GEb227.out
            have kpb298 : Kept (fun i => i = ub1.heap.size) ub286 ((ub286.setCell ⟨ub1.heap.size, 0, none⟩ (.slice Ab289 (k + 1) cb290)).setCell ⟨ub1.heap.size, 1, none⟩ (.slice none 0 0)) := ((Kept.refl (fun i => i = ub1.heap.size) ub286).setCell (p := ⟨ub1.heap.size, 0, none⟩) (.inl rfl) _).setCell (p := ⟨ub1.heap.size, 1, none⟩) (.inl rfl) _
            have HBb299 := Lib.hid (((HBb293.out).setCell (p := ⟨ub1.heap.size, 0, none⟩) hgeb303 (.slice Ab289 (k + 1) cb290)).setCell (p := ⟨ub1.heap.size, 1, none⟩) hgeb303 (.slice none 0 0))
            have Gb300 := Lib.hid ((Gb296.out.set_ 0 (.slice Ab289 (k + 1) cb290)).set_ 1 (.slice none 0 0))
            have Ob301 := Lib.hid (ownsRow_kept Ob294.out kpb298 (fun g hg e => own_blk_ne Ob294.out Gb296.out (by decide) (by rw [hg, e])))
            clear zb2970 zb2971 zb2972 zb2973 kpb298 hgeb303
            refine hK.out _ _ (⟨below_cells HBb299.out tt0, below_cells HBb299.out tt1⟩) (fun hb85 => ?_)
            clear hK K
            try simp only [Act.put, List.setIfInBounds_toArray, List.set_cons_zero, List.set_cons_succ]
            refine wpAnyH_done (by kernel_rfl) ?_ _
            go_wp2_with fail
            go_meet
            case rel => exact ⟨_, Ab289, cb290, rfl, HBb299.out, by have h := Gb300.out; simpa [Blk] using h, ownRows_see Ob301.out HLT.out (by unfold maxLen; omega) (fun i sv x hi hx => (HVAL3.out i sv x hi hx).below HBb299.out)⟩
      case sb9 =>
       intro K hK
       go_simp
       obtain ⟨ub304, hub305⟩ : ∃ z, z = u0b.alloc (.cells #[.slice C x.length cx] 23) := ⟨_, rfl⟩
       rw [← hub305]
       have hbb306 : Below u0b.heap.size u0b ub304 := by rw [hub305]; exact (Below.refl _ u0b).alloc (Nat.le_refl _) _
       have HBb307 := Lib.hid ((HBWb.out).trans ((hbb306).mono (HBWb.out).size))
       have Kb308 := Lib.hid ((by rw [hub305]; exact Blk.new u0b _ _ : Blk ub304 u0b.heap.size 23 #[.slice C x.length cx]))
       clear hub305 hbb306
       refine hK.out _ _ (⟨below_cells HBb307.out tt0, below_cells HBb307.out tt1⟩) (fun hb86 => ?_)
       clear hK K
       try simp only [Act.put, List.setIfInBounds_toArray, List.set_cons_zero, List.set_cons_succ]
       refine wpAnyH_ready (rs := [0, 12]) (by kernel_rfl) (by simp) ?_
       refine AllReadyH.cons (o := ?ob87) ?hb87 ?sb87 (AllReadyH.cons (o := ?ob88) ?hb88 ?sb88 AllReadyH.nil)
       case hb87 => (simp only [List.getElem?_toArray, List.getElem?_cons_zero, List.getElem?_cons_succ]; rfl)
       case hb88 => (simp only [List.getElem?_toArray, List.getElem?_cons_zero, List.getElem?_cons_succ]; rfl)
       case sb87 =>
        intro K hK
        go_simp
        obtain ⟨ub310, hub311⟩ : ∃ z, z = ub304.alloc (.cells #[] 23) := ⟨_, rfl⟩
        rw [← hub311]
        have hbb312 : Below ub304.heap.size ub304 ub310 := by rw [hub311]; exact (Below.refl _ ub304).alloc (Nat.le_refl _) _
        have HBb313 := Lib.hid ((HBb307.out).trans ((hbb312).mono (HBb307.out).size))
        have Kb316 := Lib.hid ((Kb308.out).below hbb312 (Kb308.out).lt)
        have Ob314 := Lib.hid ((by rw [hub311]; exact World.ownsRow_made ub304 #[] 0 (HBb307.out).size (Nat.zero_le _) rfl : World.ownsRow ub310 wc.heap.size 23 1 (.slice (some ⟨ub304.heap.size, 0, none⟩) 0 0) 0 []))
        clear hub311 hbb312
        have ORb317 : Hid (u0b.heap.size < ub304.heap.size) := Lib.hid (Kb308.out.lt)
        refine hK.out _ _ (⟨below_cells HBb313.out tt0, below_cells HBb313.out tt1⟩) (fun hb89 => ?_)
        clear hK K
        try simp only [Act.put, List.setIfInBounds_toArray, List.set_cons_zero, List.set_cons_succ]
        refine wpAnyH_ready (rs := [3, 12]) (by kernel_rfl) (by simp) ?_
        refine AllReadyH.cons (o := ?ob90) ?hb90 ?sb90 (AllReadyH.cons (o := ?ob91) ?hb91 ?sb91 AllReadyH.nil)
        case hb90 => (simp only [List.getElem?_toArray, List.getElem?_cons_zero, List.getElem?_cons_succ]; rfl)
        case hb91 => (simp only [List.getElem?_toArray, List.getElem?_cons_zero, List.getElem?_cons_succ]; rfl)
        case sb90 =>
         intro K hK
         have NEKb316 := Lib.hid (show Value.ownBlock (.slice (some ⟨ub304.heap.size, 0, none⟩) 0 0) ≠ some u0b.heap.size from fun e => by have h1 : ub304.heap.size = u0b.heap.size := Option.some.inj e; have := ORb317.out; omega)
         refine step_append_srcN _ rfl (.tmp 61) (.tmp 63) 30 rfl wc.heap.size 23 i0 (.slice none 0 0) 1 24 Try.underlying30 hi hz0 hz1 hz2 rfl (by omega) _ 0 [] rfl Ob314.out (some ad) k ca s3 rfl (H3.out.src.below HBb313.out) (H3.out.one) (by unfold maxLen; omega) (by omega) ((HBb313.out).size) ?_
         intro vb324 ub318 hwb320 hgb319 hlb323
         obtain ⟨Ab321, cb322, rfl⟩ := own_slice hwb320
         rw [Nat.zero_add, List.nil_append] at hwb320
         rw [Nat.zero_add]
         have HBb325 := Lib.hid ((HBb313.out).grown hgb319 ((HBb313.out).size) (fun k e => (Ob314.out.lt k e).1))
         have Kb328 := Lib.hid ((Kb316.out).grown hgb319 (fun e => NEKb316.out e.symm))
         have Ob326 := Lib.hid hwb320
         clear hgb319 hwb320 hlb323
         refine hK.out _ _ (⟨below_cells HBb325.out tt0, below_cells HBb325.out tt1⟩) (fun hb92 => ?_)
         clear hK K
         try simp only [Act.put, List.setIfInBounds_toArray, List.set_cons_zero, List.set_cons_succ]
         refine wpAnyH_ready (rs := [10, 12]) (by kernel_rfl) (by simp) ?_
         refine AllReadyH.cons (o := ?ob93) ?hb93 ?sb93 (AllReadyH.cons (o := ?ob94) ?hb94 ?sb94 AllReadyH.nil)
         case hb93 => (simp only [List.getElem?_toArray, List.getElem?_cons_zero, List.getElem?_cons_succ]; rfl)
         case hb94 => (simp only [List.getElem?_toArray, List.getElem?_cons_zero, List.getElem?_cons_succ]; rfl)
         case sb93 =>
          intro K hK
          refine step_append_srcN _ rfl (.tmp 64) (.tmp 70) 30 rfl wc.heap.size 23 i0 (.slice none 0 0) 1 24 Try.underlying30 hi hz0 hz1 hz2 rfl (by omega) _ k s3 rfl Ob326.out (some ⟨u0b.heap.size, 0, none⟩) 1 1 [.slice C x.length cx] rfl (⟨rfl, fun ad e j u hu => by cases e; rw [addr_add, Kb328.out.cell]; simpa using hu, fun e => by cases e⟩ : SrcN _ (some ⟨u0b.heap.size, 0, none⟩) 1 1 [.slice C x.length cx]) (by simp [Value.oneCell']) (by unfold maxLen; omega) (by omega) ((HBb325.out).size) ?_
          intro vb335 ub329 hwb331 hgb330 hlb334
          obtain ⟨Ab332, cb333, rfl⟩ := own_slice hwb331

          have HBb336 := Lib.hid ((HBb325.out).grown hgb330 ((HBb325.out).size) (fun k e => (Ob326.out.lt k e).1))
          have Ob337 := Lib.hid hwb331
          clear hgb330 hwb331 hlb334
          refine hK.out _ _ (⟨below_cells HBb336.out tt0, below_cells HBb336.out tt1⟩) (fun hb95 => ?_)
          clear hK K
          try simp only [Act.put, List.setIfInBounds_toArray, List.set_cons_zero, List.set_cons_succ]
          refine wpAnyH_take (i := 11) (oi := ?oib9611) (v := ?vb9611) ?hib9611 (by kernel_rfl) (by kernel_rfl) (by kernel_rfl) ?hQb9611 (Or.inl ⟨?hwb9611, ?hyb9611⟩) (by assumption) ?restb9611
          case hib9611 => (first | (simp only [List.getElem?_toArray, List.getElem?_cons_zero, List.getElem?_cons_succ]; rfl) | rfl)
          case hQb9611 => exact fun _ _ _ h => h
          case hwb9611 => rfl
          case hyb9611 => ((intro w hSw; go_simp); first | done | with_reducible rfl)
          try simp only [Act.put, List.setIfInBounds_toArray, List.set_cons_zero, List.set_cons_succ]
          refine wpAnyH_ready (rs := [12]) (by kernel_rfl) (by simp) ?_
          refine AllReadyH.cons (o := ?ob97) ?hb97 ?sb97 AllReadyH.nil
          case hb97 => (simp only [List.getElem?_toArray, List.getElem?_cons_zero, List.getElem?_cons_succ]; rfl)
          case sb97 =>
           intro K hK
           go_simp
           obtain ⟨ub339, hub340⟩ : ∃ z, z = ub329.alloc (.cells #[.slice none 0 0, .slice none 0 0] 33) := ⟨_, rfl⟩
           rw [← hub340]
           have hbb341 : Below ub329.heap.size ub329 ub339 := by rw [hub340]; exact (Below.refl _ ub329).alloc (Nat.le_refl _) _
           have HBb342 := Lib.hid ((HBb336.out).trans ((hbb341).mono (HBb336.out).size))
           have Ob345 := Lib.hid (ownsRow_block (Ob337.out) (fun g hg => (hbb341).block g ((Ob337.out).lt g hg).2))
           have Gb343 := Lib.hid ((by rw [hub340]; exact Blk.new ub329 _ _ : Blk ub339 ub329.heap.size 33 #[.slice none 0 0, .slice none 0 0]))
           clear hub340 hbb341
           have GEb346 := Lib.hid ((HBb336.out).size)
           refine hK.out _ _ (⟨below_cells HBb342.out tt0, below_cells HBb342.out tt1⟩) (fun hb98 => ?_)
           clear hK K
           try simp only [Act.put, List.setIfInBounds_toArray, List.set_cons_zero, List.set_cons_succ]
           refine wpAnyH_ready (rs := [13]) (by kernel_rfl) (by simp) ?_
           refine AllReadyH.cons (o := ?ob99) ?hb99 ?sb99 AllReadyH.nil
           case hb99 => (simp only [List.getElem?_toArray, List.getElem?_cons_zero, List.getElem?_cons_succ]; rfl)
           case sb99 =>
            intro K hK
            have zb3470 := Gb343.out.cell 0
            have zb3471 := Gb343.out.cell 1
            have zb3472 := Gb343.out.frozen 0
            have zb3473 := Gb343.out.frozen 1
            simp only [List.getElem?_toArray, List.getElem?_cons_zero, List.getElem?_cons_succ] at zb3470 zb3471
            go_simp
            have hgeb353 : wc.heap.size ≤ ub329.heap.size := GEb346.out
            have kpb348 : Kept (fun i => i = ub329.heap.size) ub339 ((ub339.setCell ⟨ub329.heap.size, 0, none⟩ (.slice Ab332 (k + 1) cb333)).setCell ⟨ub329.heap.size, 1, none⟩ (.slice none 0 0)) := ((Kept.refl (fun i => i = ub329.heap.size) ub339).setCell (p := ⟨ub329.heap.size, 0, none⟩) (.inl rfl) _).setCell (p := ⟨ub329.heap.size, 1, none⟩) (.inl rfl) _
            have HBb349 := Lib.hid (((HBb342.out).setCell (p := ⟨ub329.heap.size, 0, none⟩) hgeb353 (.slice Ab332 (k + 1) cb333)).setCell (p := ⟨ub329.heap.size, 1, none⟩) hgeb353 (.slice none 0 0))
            have Gb350 := Lib.hid ((Gb343.out.set_ 0 (.slice Ab332 (k + 1) cb333)).set_ 1 (.slice none 0 0))
            have Ob351 := Lib.hid (ownsRow_kept Ob345.out kpb348 (fun g hg e => own_blk_ne Ob345.out Gb343.out (by decide) (by rw [hg, e])))
            clear zb3470 zb3471 zb3472 zb3473 kpb348 hgeb353
            refine hK.out _ _ (⟨below_cells HBb349.out tt0, below_cells HBb349.out tt1⟩) (fun hb100 => ?_)
            clear hK K
            try simp only [Act.put, List.setIfInBounds_toArray, List.set_cons_zero, List.set_cons_succ]
            refine wpAnyH_done (by kernel_rfl) ?_ _
            go_wp2_with fail
            go_meet
            case rel => exact ⟨_, Ab332, cb333, rfl, HBb349.out, by have h := Gb350.out; simpa [Blk] using h, ownRows_see Ob351.out HLT.out (by unfold maxLen; omega) (fun i sv x hi hx => (HVAL3.out i sv x hi hx).below HBb349.out)⟩
         case sb94 =>
          intro K hK
          go_simp
          obtain ⟨ub354, hub355⟩ : ∃ z, z = ub318.alloc (.cells #[.slice none 0 0, .slice none 0 0] 33) := ⟨_, rfl⟩
          rw [← hub355]
          have hbb356 : Below ub318.heap.size ub318 ub354 := by rw [hub355]; exact (Below.refl _ ub318).alloc (Nat.le_refl _) _
          have HBb357 := Lib.hid ((HBb325.out).trans ((hbb356).mono (HBb325.out).size))
          have Kb360 := Lib.hid ((Kb328.out).below hbb356 (Kb328.out).lt)
          have Ob361 := Lib.hid (ownsRow_block (Ob326.out) (fun g hg => (hbb356).block g ((Ob326.out).lt g hg).2))
          have Gb358 := Lib.hid ((by rw [hub355]; exact Blk.new ub318 _ _ : Blk ub354 ub318.heap.size 33 #[.slice none 0 0, .slice none 0 0]))
          clear hub355 hbb356
          have GEb362 := Lib.hid ((HBb325.out).size)
          refine hK.out _ _ (⟨below_cells HBb357.out tt0, below_cells HBb357.out tt1⟩) (fun hb101 => ?_)
          clear hK K
          try simp only [Act.put, List.setIfInBounds_toArray, List.set_cons_zero, List.set_cons_succ]
          refine wpAnyH_ready (rs := [10]) (by kernel_rfl) (by simp) ?_
          refine AllReadyH.cons (o := ?ob102) ?hb102 ?sb102 AllReadyH.nil
          case hb102 => (simp only [List.getElem?_toArray, List.getElem?_cons_zero, List.getElem?_cons_succ]; rfl)
          case sb102 =>
           intro K hK
           refine step_append_srcN _ rfl (.tmp 64) (.tmp 70) 30 rfl wc.heap.size 23 i0 (.slice none 0 0) 1 24 Try.underlying30 hi hz0 hz1 hz2 rfl (by omega) _ k s3 rfl Ob361.out (some ⟨u0b.heap.size, 0, none⟩) 1 1 [.slice C x.length cx] rfl (⟨rfl, fun ad e j u hu => by cases e; rw [addr_add, Kb360.out.cell]; simpa using hu, fun e => by cases e⟩ : SrcN _ (some ⟨u0b.heap.size, 0, none⟩) 1 1 [.slice C x.length cx]) (by simp [Value.oneCell']) (by unfold maxLen; omega) (by omega) ((HBb357.out).size) ?_
           intro vb369 ub363 hwb365 hgb364 hlb368
           obtain ⟨Ab366, cb367, rfl⟩ := own_slice hwb365

           have HBb370 := Lib.hid ((HBb357.out).grown hgb364 ((HBb357.out).size) (fun k e => (Ob361.out.lt k e).1))
           have Gb373 := Lib.hid ((Gb358.out).grown hgb364 (fun e => own_blk_ne Ob361.out Gb358.out (by decide) e.symm))
           have Ob371 := Lib.hid hwb365
           clear hgb364 hwb365 hlb368
           refine hK.out _ _ (⟨below_cells HBb370.out tt0, below_cells HBb370.out tt1⟩) (fun hb103 => ?_)
           clear hK K
           try simp only [Act.put, List.setIfInBounds_toArray, List.set_cons_zero, List.set_cons_succ]
           refine wpAnyH_take (i := 11) (oi := ?oib10411) (v := ?vb10411) ?hib10411 (by kernel_rfl) (by kernel_rfl) (by kernel_rfl) ?hQb10411 (Or.inl ⟨?hwb10411, ?hyb10411⟩) (by assumption) ?restb10411
           case hib10411 => (first | (simp only [List.getElem?_toArray, List.getElem?_cons_zero, List.getElem?_cons_succ]; rfl) | rfl)
           case hQb10411 => exact fun _ _ _ h => h
           case hwb10411 => rfl
           case hyb10411 => ((intro w hSw; go_simp); first | done | with_reducible rfl)
           try simp only [Act.put, List.setIfInBounds_toArray, List.set_cons_zero, List.set_cons_succ]
           refine wpAnyH_ready (rs := [13]) (by kernel_rfl) (by simp) ?_
           refine AllReadyH.cons (o := ?ob105) ?hb105 ?sb105 AllReadyH.nil
           case hb105 => (simp only [List.getElem?_toArray, List.getElem?_cons_zero, List.getElem?_cons_succ]; rfl)
           case sb105 =>
            intro K hK
            have zb3740 := Gb373.out.cell 0
            have zb3741 := Gb373.out.cell 1
            have zb3742 := Gb373.out.frozen 0
            have zb3743 := Gb373.out.frozen 1
            simp only [List.getElem?_toArray, List.getElem?_cons_zero, List.getElem?_cons_succ] at zb3740 zb3741
            go_simp
            have hgeb380 : wc.heap.size ≤ ub318.heap.size := GEb362.out
            have kpb375 : Kept (fun i => i = ub318.heap.size) ub363 ((ub363.setCell ⟨ub318.heap.size, 0, none⟩ (.slice Ab366 (k + 1) cb367)).setCell ⟨ub318.heap.size, 1, none⟩ (.slice none 0 0)) := ((Kept.refl (fun i => i = ub318.heap.size) ub363).setCell (p := ⟨ub318.heap.size, 0, none⟩) (.inl rfl) _).setCell (p := ⟨ub318.heap.size, 1, none⟩) (.inl rfl) _
            have HBb376 := Lib.hid (((HBb370.out).setCell (p := ⟨ub318.heap.size, 0, none⟩) hgeb380 (.slice Ab366 (k + 1) cb367)).setCell (p := ⟨ub318.heap.size, 1, none⟩) hgeb380 (.slice none 0 0))
            have Gb377 := Lib.hid ((Gb373.out.set_ 0 (.slice Ab366 (k + 1) cb367)).set_ 1 (.slice none 0 0))
            have Ob378 := Lib.hid (ownsRow_kept Ob371.out kpb375 (fun g hg e => own_blk_ne Ob371.out Gb373.out (by decide) (by rw [hg, e])))
            clear zb3740 zb3741 zb3742 zb3743 kpb375 hgeb380
            refine hK.out _ _ (⟨below_cells HBb376.out tt0, below_cells HBb376.out tt1⟩) (fun hb106 => ?_)
            clear hK K
            try simp only [Act.put, List.setIfInBounds_toArray, List.set_cons_zero, List.set_cons_succ]
            refine wpAnyH_done (by kernel_rfl) ?_ _
            go_wp2_with fail
            go_meet
            case rel => exact ⟨_, Ab366, cb367, rfl, HBb376.out, by have h := Gb377.out; simpa [Blk] using h, ownRows_see Ob378.out HLT.out (by unfold maxLen; omega) (fun i sv x hi hx => (HVAL3.out i sv x hi hx).below HBb376.out)⟩
        case sb91 =>
         intro K hK
         go_simp
         obtain ⟨ub381, hub382⟩ : ∃ z, z = ub310.alloc (.cells #[.slice none 0 0, .slice none 0 0] 33) := ⟨_, rfl⟩
         rw [← hub382]
         have hbb383 : Below ub310.heap.size ub310 ub381 := by rw [hub382]; exact (Below.refl _ ub310).alloc (Nat.le_refl _) _
         have HBb384 := Lib.hid ((HBb313.out).trans ((hbb383).mono (HBb313.out).size))
         have Kb387 := Lib.hid ((Kb316.out).below hbb383 (Kb316.out).lt)
         have Ob388 := Lib.hid (ownsRow_block (Ob314.out) (fun g hg => (hbb383).block g ((Ob314.out).lt g hg).2))
         have Gb385 := Lib.hid ((by rw [hub382]; exact Blk.new ub310 _ _ : Blk ub381 ub310.heap.size 33 #[.slice none 0 0, .slice none 0 0]))
         clear hub382 hbb383
         have GEb389 := Lib.hid ((HBb313.out).size)
         refine hK.out _ _ (⟨below_cells HBb384.out tt0, below_cells HBb384.out tt1⟩) (fun hb107 => ?_)
         clear hK K
         try simp only [Act.put, List.setIfInBounds_toArray, List.set_cons_zero, List.set_cons_succ]
         refine wpAnyH_ready (rs := [3]) (by kernel_rfl) (by simp) ?_
         refine AllReadyH.cons (o := ?ob108) ?hb108 ?sb108 AllReadyH.nil
         case hb108 => (simp only [List.getElem?_toArray, List.getElem?_cons_zero, List.getElem?_cons_succ]; rfl)
         case sb108 =>
          intro K hK
          have NEKb387 := Lib.hid (show Value.ownBlock (.slice (some ⟨ub304.heap.size, 0, none⟩) 0 0) ≠ some u0b.heap.size from fun e => by have h1 : ub304.heap.size = u0b.heap.size := Option.some.inj e; have := ORb317.out; omega)
          refine step_append_srcN _ rfl (.tmp 61) (.tmp 63) 30 rfl wc.heap.size 23 i0 (.slice none 0 0) 1 24 Try.underlying30 hi hz0 hz1 hz2 rfl (by omega) _ 0 [] rfl Ob388.out (some ad) k ca s3 rfl (H3.out.src.below HBb384.out) (H3.out.one) (by unfold maxLen; omega) (by omega) ((HBb384.out).size) ?_
          intro vb396 ub390 hwb392 hgb391 hlb395
          obtain ⟨Ab393, cb394, rfl⟩ := own_slice hwb392
          rw [Nat.zero_add, List.nil_append] at hwb392
          rw [Nat.zero_add]
          have HBb397 := Lib.hid ((HBb384.out).grown hgb391 ((HBb384.out).size) (fun k e => (Ob388.out.lt k e).1))
          have Kb400 := Lib.hid ((Kb387.out).grown hgb391 (fun e => NEKb387.out e.symm))
          have Gb401 := Lib.hid ((Gb385.out).grown hgb391 (fun e => own_blk_ne Ob388.out Gb385.out (by decide) e.symm))
          have Ob398 := Lib.hid hwb392
          clear hgb391 hwb392 hlb395
          refine hK.out _ _ (⟨below_cells HBb397.out tt0, below_cells HBb397.out tt1⟩) (fun hb109 => ?_)
          clear hK K
          try simp only [Act.put, List.setIfInBounds_toArray, List.set_cons_zero, List.set_cons_succ]
          refine wpAnyH_ready (rs := [10]) (by kernel_rfl) (by simp) ?_
          refine AllReadyH.cons (o := ?ob110) ?hb110 ?sb110 AllReadyH.nil
          case hb110 => (simp only [List.getElem?_toArray, List.getElem?_cons_zero, List.getElem?_cons_succ]; rfl)
          case sb110 =>
           intro K hK
           refine step_append_srcN _ rfl (.tmp 64) (.tmp 70) 30 rfl wc.heap.size 23 i0 (.slice none 0 0) 1 24 Try.underlying30 hi hz0 hz1 hz2 rfl (by omega) _ k s3 rfl Ob398.out (some ⟨u0b.heap.size, 0, none⟩) 1 1 [.slice C x.length cx] rfl (⟨rfl, fun ad e j u hu => by cases e; rw [addr_add, Kb400.out.cell]; simpa using hu, fun e => by cases e⟩ : SrcN _ (some ⟨u0b.heap.size, 0, none⟩) 1 1 [.slice C x.length cx]) (by simp [Value.oneCell']) (by unfold maxLen; omega) (by omega) ((HBb397.out).size) ?_
           intro vb408 ub402 hwb404 hgb403 hlb407
           obtain ⟨Ab405, cb406, rfl⟩ := own_slice hwb404

           have HBb409 := Lib.hid ((HBb397.out).grown hgb403 ((HBb397.out).size) (fun k e => (Ob398.out.lt k e).1))
           have Gb412 := Lib.hid ((Gb401.out).grown hgb403 (fun e => own_blk_ne Ob398.out Gb401.out (by decide) e.symm))
           have Ob410 := Lib.hid hwb404
           clear hgb403 hwb404 hlb407
           refine hK.out _ _ (⟨below_cells HBb409.out tt0, below_cells HBb409.out tt1⟩) (fun hb111 => ?_)
           clear hK K
           try simp only [Act.put, List.setIfInBounds_toArray, List.set_cons_zero, List.set_cons_succ]
           refine wpAnyH_take (i := 11) (oi := ?oib11211) (v := ?vb11211) ?hib11211 (by kernel_rfl) (by kernel_rfl) (by kernel_rfl) ?hQb11211 (Or.inl ⟨?hwb11211, ?hyb11211⟩) (by assumption) ?restb11211
           case hib11211 => (first | (simp only [List.getElem?_toArray, List.getElem?_cons_zero, List.getElem?_cons_succ]; rfl) | rfl)
           case hQb11211 => exact fun _ _ _ h => h
           case hwb11211 => rfl
           case hyb11211 => ((intro w hSw; go_simp); first | done | with_reducible rfl)
           try simp only [Act.put, List.setIfInBounds_toArray, List.set_cons_zero, List.set_cons_succ]
           refine wpAnyH_ready (rs := [13]) (by kernel_rfl) (by simp) ?_
           refine AllReadyH.cons (o := ?ob113) ?hb113 ?sb113 AllReadyH.nil
           case hb113 => (simp only [List.getElem?_toArray, List.getElem?_cons_zero, List.getElem?_cons_succ]; rfl)
           case sb113 =>
            intro K hK
            have zb4130 := Gb412.out.cell 0
            have zb4131 := Gb412.out.cell 1
            have zb4132 := Gb412.out.frozen 0
            have zb4133 := Gb412.out.frozen 1
            simp only [List.getElem?_toArray, List.getElem?_cons_zero, List.getElem?_cons_succ] at zb4130 zb4131
            go_simp
            have hgeb419 : wc.heap.size ≤ ub310.heap.size := GEb389.out
            have kpb414 : Kept (fun i => i = ub310.heap.size) ub402 ((ub402.setCell ⟨ub310.heap.size, 0, none⟩ (.slice Ab405 (k + 1) cb406)).setCell ⟨ub310.heap.size, 1, none⟩ (.slice none 0 0)) := ((Kept.refl (fun i => i = ub310.heap.size) ub402).setCell (p := ⟨ub310.heap.size, 0, none⟩) (.inl rfl) _).setCell (p := ⟨ub310.heap.size, 1, none⟩) (.inl rfl) _
            have HBb415 := Lib.hid (((HBb409.out).setCell (p := ⟨ub310.heap.size, 0, none⟩) hgeb419 (.slice Ab405 (k + 1) cb406)).setCell (p := ⟨ub310.heap.size, 1, none⟩) hgeb419 (.slice none 0 0))
            have Gb416 := Lib.hid ((Gb412.out.set_ 0 (.slice Ab405 (k + 1) cb406)).set_ 1 (.slice none 0 0))
            have Ob417 := Lib.hid (ownsRow_kept Ob410.out kpb414 (fun g hg e => own_blk_ne Ob410.out Gb412.out (by decide) (by rw [hg, e])))
            clear zb4130 zb4131 zb4132 zb4133 kpb414 hgeb419
            refine hK.out _ _ (⟨below_cells HBb415.out tt0, below_cells HBb415.out tt1⟩) (fun hb114 => ?_)
            clear hK K
            try simp only [Act.put, List.setIfInBounds_toArray, List.set_cons_zero, List.set_cons_succ]
            refine wpAnyH_done (by kernel_rfl) ?_ _
            go_wp2_with fail
            go_meet
            case rel => exact ⟨_, Ab405, cb406, rfl, HBb415.out, by have h := Gb416.out; simpa [Blk] using h, ownRows_see Ob417.out HLT.out (by unfold maxLen; omega) (fun i sv x hi hx => (HVAL3.out i sv x hi hx).below HBb415.out)⟩
       case sb88 =>
        intro K hK
        go_simp
        obtain ⟨ub420, hub421⟩ : ∃ z, z = ub304.alloc (.cells #[.slice none 0 0, .slice none 0 0] 33) := ⟨_, rfl⟩
        rw [← hub421]
        have hbb422 : Below ub304.heap.size ub304 ub420 := by rw [hub421]; exact (Below.refl _ ub304).alloc (Nat.le_refl _) _
        have HBb423 := Lib.hid ((HBb307.out).trans ((hbb422).mono (HBb307.out).size))
        have Kb426 := Lib.hid ((Kb308.out).below hbb422 (Kb308.out).lt)
        have Gb424 := Lib.hid ((by rw [hub421]; exact Blk.new ub304 _ _ : Blk ub420 ub304.heap.size 33 #[.slice none 0 0, .slice none 0 0]))
        clear hub421 hbb422
        have GEb427 := Lib.hid ((HBb307.out).size)
        refine hK.out _ _ (⟨below_cells HBb423.out tt0, below_cells HBb423.out tt1⟩) (fun hb115 => ?_)
        clear hK K
        try simp only [Act.put, List.setIfInBounds_toArray, List.set_cons_zero, List.set_cons_succ]
        refine wpAnyH_ready (rs := [0]) (by kernel_rfl) (by simp) ?_
        refine AllReadyH.cons (o := ?ob116) ?hb116 ?sb116 AllReadyH.nil
        case hb116 => (simp only [List.getElem?_toArray, List.getElem?_cons_zero, List.getElem?_cons_succ]; rfl)
        case sb116 =>
         intro K hK
         go_simp
         obtain ⟨ub428, hub429⟩ : ∃ z, z = ub420.alloc (.cells #[] 23) := ⟨_, rfl⟩
         rw [← hub429]
         have hbb430 : Below ub420.heap.size ub420 ub428 := by rw [hub429]; exact (Below.refl _ ub420).alloc (Nat.le_refl _) _
         have HBb431 := Lib.hid ((HBb423.out).trans ((hbb430).mono (HBb423.out).size))
         have Kb434 := Lib.hid ((Kb426.out).below hbb430 (Kb426.out).lt)
         have Gb435 := Lib.hid ((Gb424.out).below hbb430 (Gb424.out).lt)
         have Ob432 := Lib.hid ((by rw [hub429]; exact World.ownsRow_made ub420 #[] 0 (HBb423.out).size (Nat.zero_le _) rfl : World.ownsRow ub428 wc.heap.size 23 1 (.slice (some ⟨ub420.heap.size, 0, none⟩) 0 0) 0 []))
         clear hub429 hbb430
         have ORb436 : Hid (u0b.heap.size < ub420.heap.size) := Lib.hid (Kb426.out.lt)
         refine hK.out _ _ (⟨below_cells HBb431.out tt0, below_cells HBb431.out tt1⟩) (fun hb117 => ?_)
         clear hK K
         try simp only [Act.put, List.setIfInBounds_toArray, List.set_cons_zero, List.set_cons_succ]
         refine wpAnyH_ready (rs := [3]) (by kernel_rfl) (by simp) ?_
         refine AllReadyH.cons (o := ?ob118) ?hb118 ?sb118 AllReadyH.nil
         case hb118 => (simp only [List.getElem?_toArray, List.getElem?_cons_zero, List.getElem?_cons_succ]; rfl)
         case sb118 =>
          intro K hK
          have NEKb434 := Lib.hid (show Value.ownBlock (.slice (some ⟨ub420.heap.size, 0, none⟩) 0 0) ≠ some u0b.heap.size from fun e => by have h1 : ub420.heap.size = u0b.heap.size := Option.some.inj e; have := ORb436.out; omega)
          refine step_append_srcN _ rfl (.tmp 61) (.tmp 63) 30 rfl wc.heap.size 23 i0 (.slice none 0 0) 1 24 Try.underlying30 hi hz0 hz1 hz2 rfl (by omega) _ 0 [] rfl Ob432.out (some ad) k ca s3 rfl (H3.out.src.below HBb431.out) (H3.out.one) (by unfold maxLen; omega) (by omega) ((HBb431.out).size) ?_
          intro vb443 ub437 hwb439 hgb438 hlb442
          obtain ⟨Ab440, cb441, rfl⟩ := own_slice hwb439
          rw [Nat.zero_add, List.nil_append] at hwb439
          rw [Nat.zero_add]
          have HBb444 := Lib.hid ((HBb431.out).grown hgb438 ((HBb431.out).size) (fun k e => (Ob432.out.lt k e).1))
          have Kb447 := Lib.hid ((Kb434.out).grown hgb438 (fun e => NEKb434.out e.symm))
          have Gb448 := Lib.hid ((Gb435.out).grown hgb438 (fun e => own_blk_ne Ob432.out Gb435.out (by decide) e.symm))
          have Ob445 := Lib.hid hwb439
          clear hgb438 hwb439 hlb442
          refine hK.out _ _ (⟨below_cells HBb444.out tt0, below_cells HBb444.out tt1⟩) (fun hb119 => ?_)
          clear hK K
          try simp only [Act.put, List.setIfInBounds_toArray, List.set_cons_zero, List.set_cons_succ]
          refine wpAnyH_ready (rs := [10]) (by kernel_rfl) (by simp) ?_
          refine AllReadyH.cons (o := ?ob120) ?hb120 ?sb120 AllReadyH.nil
          case hb120 => (simp only [List.getElem?_toArray, List.getElem?_cons_zero, List.getElem?_cons_succ]; rfl)
          case sb120 =>
           intro K hK
           refine step_append_srcN _ rfl (.tmp 64) (.tmp 70) 30 rfl wc.heap.size 23 i0 (.slice none 0 0) 1 24 Try.underlying30 hi hz0 hz1 hz2 rfl (by omega) _ k s3 rfl Ob445.out (some ⟨u0b.heap.size, 0, none⟩) 1 1 [.slice C x.length cx] rfl (⟨rfl, fun ad e j u hu => by cases e; rw [addr_add, Kb447.out.cell]; simpa using hu, fun e => by cases e⟩ : SrcN _ (some ⟨u0b.heap.size, 0, none⟩) 1 1 [.slice C x.length cx]) (by simp [Value.oneCell']) (by unfold maxLen; omega) (by omega) ((HBb444.out).size) ?_
           intro vb455 ub449 hwb451 hgb450 hlb454
           obtain ⟨Ab452, cb453, rfl⟩ := own_slice hwb451

           have HBb456 := Lib.hid ((HBb444.out).grown hgb450 ((HBb444.out).size) (fun k e => (Ob445.out.lt k e).1))
           have Gb459 := Lib.hid ((Gb448.out).grown hgb450 (fun e => own_blk_ne Ob445.out Gb448.out (by decide) e.symm))
           have Ob457 := Lib.hid hwb451
           clear hgb450 hwb451 hlb454
           refine hK.out _ _ (⟨below_cells HBb456.out tt0, below_cells HBb456.out tt1⟩) (fun hb121 => ?_)
           clear hK K
           try simp only [Act.put, List.setIfInBounds_toArray, List.set_cons_zero, List.set_cons_succ]
           refine wpAnyH_take (i := 11) (oi := ?oib12211) (v := ?vb12211) ?hib12211 (by kernel_rfl) (by kernel_rfl) (by kernel_rfl) ?hQb12211 (Or.inl ⟨?hwb12211, ?hyb12211⟩) (by assumption) ?restb12211
           case hib12211 => (first | (simp only [List.getElem?_toArray, List.getElem?_cons_zero, List.getElem?_cons_succ]; rfl) | rfl)
           case hQb12211 => exact fun _ _ _ h => h
           case hwb12211 => rfl
           case hyb12211 => ((intro w hSw; go_simp); first | done | with_reducible rfl)
           try simp only [Act.put, List.setIfInBounds_toArray, List.set_cons_zero, List.set_cons_succ]
           refine wpAnyH_ready (rs := [13]) (by kernel_rfl) (by simp) ?_
           refine AllReadyH.cons (o := ?ob123) ?hb123 ?sb123 AllReadyH.nil
           case hb123 => (simp only [List.getElem?_toArray, List.getElem?_cons_zero, List.getElem?_cons_succ]; rfl)
           case sb123 =>
            intro K hK
            have zb4600 := Gb459.out.cell 0
            have zb4601 := Gb459.out.cell 1
            have zb4602 := Gb459.out.frozen 0
            have zb4603 := Gb459.out.frozen 1
            simp only [List.getElem?_toArray, List.getElem?_cons_zero, List.getElem?_cons_succ] at zb4600 zb4601
            go_simp
            have hgeb466 : wc.heap.size ≤ ub304.heap.size := GEb427.out
            have kpb461 : Kept (fun i => i = ub304.heap.size) ub449 ((ub449.setCell ⟨ub304.heap.size, 0, none⟩ (.slice Ab452 (k + 1) cb453)).setCell ⟨ub304.heap.size, 1, none⟩ (.slice none 0 0)) := ((Kept.refl (fun i => i = ub304.heap.size) ub449).setCell (p := ⟨ub304.heap.size, 0, none⟩) (.inl rfl) _).setCell (p := ⟨ub304.heap.size, 1, none⟩) (.inl rfl) _
            have HBb462 := Lib.hid (((HBb456.out).setCell (p := ⟨ub304.heap.size, 0, none⟩) hgeb466 (.slice Ab452 (k + 1) cb453)).setCell (p := ⟨ub304.heap.size, 1, none⟩) hgeb466 (.slice none 0 0))
            have Gb463 := Lib.hid ((Gb459.out.set_ 0 (.slice Ab452 (k + 1) cb453)).set_ 1 (.slice none 0 0))
            have Ob464 := Lib.hid (ownsRow_kept Ob457.out kpb461 (fun g hg e => own_blk_ne Ob457.out Gb459.out (by decide) (by rw [hg, e])))
            clear zb4600 zb4601 zb4602 zb4603 kpb461 hgeb466
            refine hK.out _ _ (⟨below_cells HBb462.out tt0, below_cells HBb462.out tt1⟩) (fun hb124 => ?_)
            clear hK K
            try simp only [Act.put, List.setIfInBounds_toArray, List.set_cons_zero, List.set_cons_succ]
            refine wpAnyH_done (by kernel_rfl) ?_ _
            go_wp2_with fail
            go_meet
            case rel => exact ⟨_, Ab452, cb453, rfl, HBb462.out, by have h := Gb463.out; simpa [Blk] using h, ownRows_see Ob464.out HLT.out (by unfold maxLen; omega) (fun i sv x hi hx => (HVAL3.out i sv x hi hx).below HBb462.out)⟩
      case sb10 =>
       intro K hK
       go_simp
       obtain ⟨ub467, hub468⟩ : ∃ z, z = u0b.alloc (.cells #[.slice none 0 0, .slice none 0 0] 33) := ⟨_, rfl⟩
       rw [← hub468]
       have hbb469 : Below u0b.heap.size u0b ub467 := by rw [hub468]; exact (Below.refl _ u0b).alloc (Nat.le_refl _) _
       have HBb470 := Lib.hid ((HBWb.out).trans ((hbb469).mono (HBWb.out).size))
       have Gb471 := Lib.hid ((by rw [hub468]; exact Blk.new u0b _ _ : Blk ub467 u0b.heap.size 33 #[.slice none 0 0, .slice none 0 0]))
       clear hub468 hbb469
       have GEb473 := Lib.hid ((HBWb.out).size)
       refine hK.out _ _ (⟨below_cells HBb470.out tt0, below_cells HBb470.out tt1⟩) (fun hb125 => ?_)
       clear hK K
       try simp only [Act.put, List.setIfInBounds_toArray, List.set_cons_zero, List.set_cons_succ]
       refine wpAnyH_ready (rs := [0, 9]) (by kernel_rfl) (by simp) ?_
       refine AllReadyH.cons (o := ?ob126) ?hb126 ?sb126 (AllReadyH.cons (o := ?ob127) ?hb127 ?sb127 AllReadyH.nil)
       case hb126 => (simp only [List.getElem?_toArray, List.getElem?_cons_zero, List.getElem?_cons_succ]; rfl)
       case hb127 => (simp only [List.getElem?_toArray, List.getElem?_cons_zero, List.getElem?_cons_succ]; rfl)
       case sb126 =>
        intro K hK
        go_simp
        obtain ⟨ub474, hub475⟩ : ∃ z, z = ub467.alloc (.cells #[] 23) := ⟨_, rfl⟩
        rw [← hub475]
        have hbb476 : Below ub467.heap.size ub467 ub474 := by rw [hub475]; exact (Below.refl _ ub467).alloc (Nat.le_refl _) _
        have HBb477 := Lib.hid ((HBb470.out).trans ((hbb476).mono (HBb470.out).size))
        have Gb480 := Lib.hid ((Gb471.out).below hbb476 (Gb471.out).lt)
        have Ob478 := Lib.hid ((by rw [hub475]; exact World.ownsRow_made ub467 #[] 0 (HBb470.out).size (Nat.zero_le _) rfl : World.ownsRow ub474 wc.heap.size 23 1 (.slice (some ⟨ub467.heap.size, 0, none⟩) 0 0) 0 []))
        clear hub475 hbb476
        refine hK.out _ _ (⟨below_cells HBb477.out tt0, below_cells HBb477.out tt1⟩) (fun hb128 => ?_)
        clear hK K
        try simp only [Act.put, List.setIfInBounds_toArray, List.set_cons_zero, List.set_cons_succ]
        refine wpAnyH_ready (rs := [3, 9]) (by kernel_rfl) (by simp) ?_
        refine AllReadyH.cons (o := ?ob129) ?hb129 ?sb129 (AllReadyH.cons (o := ?ob130) ?hb130 ?sb130 AllReadyH.nil)
        case hb129 => (simp only [List.getElem?_toArray, List.getElem?_cons_zero, List.getElem?_cons_succ]; rfl)
        case hb130 => (simp only [List.getElem?_toArray, List.getElem?_cons_zero, List.getElem?_cons_succ]; rfl)
        case sb129 =>
         intro K hK
         refine step_append_srcN _ rfl (.tmp 61) (.tmp 63) 30 rfl wc.heap.size 23 i0 (.slice none 0 0) 1 24 Try.underlying30 hi hz0 hz1 hz2 rfl (by omega) _ 0 [] rfl Ob478.out (some ad) k ca s3 rfl (H3.out.src.below HBb477.out) (H3.out.one) (by unfold maxLen; omega) (by omega) ((HBb477.out).size) ?_
         intro vb487 ub481 hwb483 hgb482 hlb486
         obtain ⟨Ab484, cb485, rfl⟩ := own_slice hwb483
         rw [Nat.zero_add, List.nil_append] at hwb483
         rw [Nat.zero_add]
         have HBb488 := Lib.hid ((HBb477.out).grown hgb482 ((HBb477.out).size) (fun k e => (Ob478.out.lt k e).1))
         have Gb491 := Lib.hid ((Gb480.out).grown hgb482 (fun e => own_blk_ne Ob478.out Gb480.out (by decide) e.symm))
         have Ob489 := Lib.hid hwb483
         clear hgb482 hwb483 hlb486
         refine hK.out _ _ (⟨below_cells HBb488.out tt0, below_cells HBb488.out tt1⟩) (fun hb131 => ?_)
         clear hK K
         try simp only [Act.put, List.setIfInBounds_toArray, List.set_cons_zero, List.set_cons_succ]
         refine wpAnyH_ready (rs := [9]) (by kernel_rfl) (by simp) ?_
         refine AllReadyH.cons (o := ?ob132) ?hb132 ?sb132 AllReadyH.nil
         case hb132 => (simp only [List.getElem?_toArray, List.getElem?_cons_zero, List.getElem?_cons_succ]; rfl)
         case sb132 =>
          intro K hK
          go_simp
          obtain ⟨ub492, hub493⟩ : ∃ z, z = ub481.alloc (.cells #[.slice C x.length cx] 23) := ⟨_, rfl⟩
          rw [← hub493]
          have hbb494 : Below ub481.heap.size ub481 ub492 := by rw [hub493]; exact (Below.refl _ ub481).alloc (Nat.le_refl _) _
          have HBb495 := Lib.hid ((HBb488.out).trans ((hbb494).mono (HBb488.out).size))
          have Gb498 := Lib.hid ((Gb491.out).below hbb494 (Gb491.out).lt)
          have Ob499 := Lib.hid (ownsRow_block (Ob489.out) (fun g hg => (hbb494).block g ((Ob489.out).lt g hg).2))
          have Kb496 := Lib.hid ((by rw [hub493]; exact Blk.new ub481 _ _ : Blk ub492 ub481.heap.size 23 #[.slice C x.length cx]))
          clear hub493 hbb494
          refine hK.out _ _ (⟨below_cells HBb495.out tt0, below_cells HBb495.out tt1⟩) (fun hb133 => ?_)
          clear hK K
          try simp only [Act.put, List.setIfInBounds_toArray, List.set_cons_zero, List.set_cons_succ]
          refine wpAnyH_ready (rs := [10]) (by kernel_rfl) (by simp) ?_
          refine AllReadyH.cons (o := ?ob134) ?hb134 ?sb134 AllReadyH.nil
          case hb134 => (simp only [List.getElem?_toArray, List.getElem?_cons_zero, List.getElem?_cons_succ]; rfl)
          case sb134 =>
           intro K hK
           refine step_append_srcN _ rfl (.tmp 64) (.tmp 70) 30 rfl wc.heap.size 23 i0 (.slice none 0 0) 1 24 Try.underlying30 hi hz0 hz1 hz2 rfl (by omega) _ k s3 rfl Ob499.out (some ⟨ub481.heap.size, 0, none⟩) 1 1 [.slice C x.length cx] rfl (⟨rfl, fun ad e j u hu => by cases e; rw [addr_add, Kb496.out.cell]; simpa using hu, fun e => by cases e⟩ : SrcN _ (some ⟨ub481.heap.size, 0, none⟩) 1 1 [.slice C x.length cx]) (by simp [Value.oneCell']) (by unfold maxLen; omega) (by omega) ((HBb495.out).size) ?_
           intro vb506 ub500 hwb502 hgb501 hlb505
           obtain ⟨Ab503, cb504, rfl⟩ := own_slice hwb502

           have HBb507 := Lib.hid ((HBb495.out).grown hgb501 ((HBb495.out).size) (fun k e => (Ob499.out.lt k e).1))
           have Gb510 := Lib.hid ((Gb498.out).grown hgb501 (fun e => own_blk_ne Ob499.out Gb498.out (by decide) e.symm))
           have Ob508 := Lib.hid hwb502
           clear hgb501 hwb502 hlb505
           refine hK.out _ _ (⟨below_cells HBb507.out tt0, below_cells HBb507.out tt1⟩) (fun hb135 => ?_)
           clear hK K
           try simp only [Act.put, List.setIfInBounds_toArray, List.set_cons_zero, List.set_cons_succ]
           refine wpAnyH_take (i := 11) (oi := ?oib13611) (v := ?vb13611) ?hib13611 (by kernel_rfl) (by kernel_rfl) (by kernel_rfl) ?hQb13611 (Or.inl ⟨?hwb13611, ?hyb13611⟩) (by assumption) ?restb13611
           case hib13611 => (first | (simp only [List.getElem?_toArray, List.getElem?_cons_zero, List.getElem?_cons_succ]; rfl) | rfl)
           case hQb13611 => exact fun _ _ _ h => h
           case hwb13611 => rfl
           case hyb13611 => ((intro w hSw; go_simp); first | done | with_reducible rfl)
           try simp only [Act.put, List.setIfInBounds_toArray, List.set_cons_zero, List.set_cons_succ]
           refine wpAnyH_ready (rs := [13]) (by kernel_rfl) (by simp) ?_
           refine AllReadyH.cons (o := ?ob137) ?hb137 ?sb137 AllReadyH.nil
           case hb137 => (simp only [List.getElem?_toArray, List.getElem?_cons_zero, List.getElem?_cons_succ]; rfl)
           case sb137 =>
            intro K hK
            have zb5110 := Gb510.out.cell 0
            have zb5111 := Gb510.out.cell 1
            have zb5112 := Gb510.out.frozen 0
            have zb5113 := Gb510.out.frozen 1
            simp only [List.getElem?_toArray, List.getElem?_cons_zero, List.getElem?_cons_succ] at zb5110 zb5111
            go_simp
            have hgeb517 : wc.heap.size ≤ u0b.heap.size := GEb473.out
            have kpb512 : Kept (fun i => i = u0b.heap.size) ub500 ((ub500.setCell ⟨u0b.heap.size, 0, none⟩ (.slice Ab503 (k + 1) cb504)).setCell ⟨u0b.heap.size, 1, none⟩ (.slice none 0 0)) := ((Kept.refl (fun i => i = u0b.heap.size) ub500).setCell (p := ⟨u0b.heap.size, 0, none⟩) (.inl rfl) _).setCell (p := ⟨u0b.heap.size, 1, none⟩) (.inl rfl) _
            have HBb513 := Lib.hid (((HBb507.out).setCell (p := ⟨u0b.heap.size, 0, none⟩) hgeb517 (.slice Ab503 (k + 1) cb504)).setCell (p := ⟨u0b.heap.size, 1, none⟩) hgeb517 (.slice none 0 0))
            have Gb514 := Lib.hid ((Gb510.out.set_ 0 (.slice Ab503 (k + 1) cb504)).set_ 1 (.slice none 0 0))
            have Ob515 := Lib.hid (ownsRow_kept Ob508.out kpb512 (fun g hg e => own_blk_ne Ob508.out Gb510.out (by decide) (by rw [hg, e])))
            clear zb5110 zb5111 zb5112 zb5113 kpb512 hgeb517
            refine hK.out _ _ (⟨below_cells HBb513.out tt0, below_cells HBb513.out tt1⟩) (fun hb138 => ?_)
            clear hK K
            try simp only [Act.put, List.setIfInBounds_toArray, List.set_cons_zero, List.set_cons_succ]
            refine wpAnyH_done (by kernel_rfl) ?_ _
            go_wp2_with fail
            go_meet
            case rel => exact ⟨_, Ab503, cb504, rfl, HBb513.out, by have h := Gb514.out; simpa [Blk] using h, ownRows_see Ob515.out HLT.out (by unfold maxLen; omega) (fun i sv x hi hx => (HVAL3.out i sv x hi hx).below HBb513.out)⟩
        case sb130 =>
         intro K hK
         go_simp
         obtain ⟨ub518, hub519⟩ : ∃ z, z = ub474.alloc (.cells #[.slice C x.length cx] 23) := ⟨_, rfl⟩
         rw [← hub519]
         have hbb520 : Below ub474.heap.size ub474 ub518 := by rw [hub519]; exact (Below.refl _ ub474).alloc (Nat.le_refl _) _
         have HBb521 := Lib.hid ((HBb477.out).trans ((hbb520).mono (HBb477.out).size))
         have Gb524 := Lib.hid ((Gb480.out).below hbb520 (Gb480.out).lt)
         have Ob525 := Lib.hid (ownsRow_block (Ob478.out) (fun g hg => (hbb520).block g ((Ob478.out).lt g hg).2))
         have Kb522 := Lib.hid ((by rw [hub519]; exact Blk.new ub474 _ _ : Blk ub518 ub474.heap.size 23 #[.slice C x.length cx]))
         clear hub519 hbb520
         have ORb526 : Hid (ub467.heap.size < ub474.heap.size) := Lib.hid ((Ob478.out.lt _ rfl).2)
         refine hK.out _ _ (⟨below_cells HBb521.out tt0, below_cells HBb521.out tt1⟩) (fun hb139 => ?_)
         clear hK K
         try simp only [Act.put, List.setIfInBounds_toArray, List.set_cons_zero, List.set_cons_succ]
         refine wpAnyH_ready (rs := [3]) (by kernel_rfl) (by simp) ?_
         refine AllReadyH.cons (o := ?ob140) ?hb140 ?sb140 AllReadyH.nil
         case hb140 => (simp only [List.getElem?_toArray, List.getElem?_cons_zero, List.getElem?_cons_succ]; rfl)
         case sb140 =>
          intro K hK
          have NEKb522 := Lib.hid (show Value.ownBlock (.slice (some ⟨ub467.heap.size, 0, none⟩) 0 0) ≠ some ub474.heap.size from fun e => by have h1 : ub467.heap.size = ub474.heap.size := Option.some.inj e; have := ORb526.out; omega)
          refine step_append_srcN _ rfl (.tmp 61) (.tmp 63) 30 rfl wc.heap.size 23 i0 (.slice none 0 0) 1 24 Try.underlying30 hi hz0 hz1 hz2 rfl (by omega) _ 0 [] rfl Ob525.out (some ad) k ca s3 rfl (H3.out.src.below HBb521.out) (H3.out.one) (by unfold maxLen; omega) (by omega) ((HBb521.out).size) ?_
          intro vb533 ub527 hwb529 hgb528 hlb532
          obtain ⟨Ab530, cb531, rfl⟩ := own_slice hwb529
          rw [Nat.zero_add, List.nil_append] at hwb529
          rw [Nat.zero_add]
          have HBb534 := Lib.hid ((HBb521.out).grown hgb528 ((HBb521.out).size) (fun k e => (Ob525.out.lt k e).1))
          have Kb537 := Lib.hid ((Kb522.out).grown hgb528 (fun e => NEKb522.out e.symm))
          have Gb538 := Lib.hid ((Gb524.out).grown hgb528 (fun e => own_blk_ne Ob525.out Gb524.out (by decide) e.symm))
          have Ob535 := Lib.hid hwb529
          clear hgb528 hwb529 hlb532
          refine hK.out _ _ (⟨below_cells HBb534.out tt0, below_cells HBb534.out tt1⟩) (fun hb141 => ?_)
          clear hK K
          try simp only [Act.put, List.setIfInBounds_toArray, List.set_cons_zero, List.set_cons_succ]
          refine wpAnyH_ready (rs := [10]) (by kernel_rfl) (by simp) ?_
          refine AllReadyH.cons (o := ?ob142) ?hb142 ?sb142 AllReadyH.nil
          case hb142 => (simp only [List.getElem?_toArray, List.getElem?_cons_zero, List.getElem?_cons_succ]; rfl)
          case sb142 =>
           intro K hK
           refine step_append_srcN _ rfl (.tmp 64) (.tmp 70) 30 rfl wc.heap.size 23 i0 (.slice none 0 0) 1 24 Try.underlying30 hi hz0 hz1 hz2 rfl (by omega) _ k s3 rfl Ob535.out (some ⟨ub474.heap.size, 0, none⟩) 1 1 [.slice C x.length cx] rfl (⟨rfl, fun ad e j u hu => by cases e; rw [addr_add, Kb537.out.cell]; simpa using hu, fun e => by cases e⟩ : SrcN _ (some ⟨ub474.heap.size, 0, none⟩) 1 1 [.slice C x.length cx]) (by simp [Value.oneCell']) (by unfold maxLen; omega) (by omega) ((HBb534.out).size) ?_
           intro vb545 ub539 hwb541 hgb540 hlb544
           obtain ⟨Ab542, cb543, rfl⟩ := own_slice hwb541

           have HBb546 := Lib.hid ((HBb534.out).grown hgb540 ((HBb534.out).size) (fun k e => (Ob535.out.lt k e).1))
           have Gb549 := Lib.hid ((Gb538.out).grown hgb540 (fun e => own_blk_ne Ob535.out Gb538.out (by decide) e.symm))
           have Ob547 := Lib.hid hwb541
           clear hgb540 hwb541 hlb544
           refine hK.out _ _ (⟨below_cells HBb546.out tt0, below_cells HBb546.out tt1⟩) (fun hb143 => ?_)
           clear hK K
           try simp only [Act.put, List.setIfInBounds_toArray, List.set_cons_zero, List.set_cons_succ]
           refine wpAnyH_take (i := 11) (oi := ?oib14411) (v := ?vb14411) ?hib14411 (by kernel_rfl) (by kernel_rfl) (by kernel_rfl) ?hQb14411 (Or.inl ⟨?hwb14411, ?hyb14411⟩) (by assumption) ?restb14411
           case hib14411 => (first | (simp only [List.getElem?_toArray, List.getElem?_cons_zero, List.getElem?_cons_succ]; rfl) | rfl)
           case hQb14411 => exact fun _ _ _ h => h
           case hwb14411 => rfl
           case hyb14411 => ((intro w hSw; go_simp); first | done | with_reducible rfl)
           try simp only [Act.put, List.setIfInBounds_toArray, List.set_cons_zero, List.set_cons_succ]
           refine wpAnyH_ready (rs := [13]) (by kernel_rfl) (by simp) ?_
           refine AllReadyH.cons (o := ?ob145) ?hb145 ?sb145 AllReadyH.nil
           case hb145 => (simp only [List.getElem?_toArray, List.getElem?_cons_zero, List.getElem?_cons_succ]; rfl)
           case sb145 =>
            intro K hK
            have zb5500 := Gb549.out.cell 0
            have zb5501 := Gb549.out.cell 1
            have zb5502 := Gb549.out.frozen 0
            have zb5503 := Gb549.out.frozen 1
            simp only [List.getElem?_toArray, List.getElem?_cons_zero, List.getElem?_cons_succ] at zb5500 zb5501
            go_simp
            have hgeb556 : wc.heap.size ≤ u0b.heap.size := GEb473.out
            have kpb551 : Kept (fun i => i = u0b.heap.size) ub539 ((ub539.setCell ⟨u0b.heap.size, 0, none⟩ (.slice Ab542 (k + 1) cb543)).setCell ⟨u0b.heap.size, 1, none⟩ (.slice none 0 0)) := ((Kept.refl (fun i => i = u0b.heap.size) ub539).setCell (p := ⟨u0b.heap.size, 0, none⟩) (.inl rfl) _).setCell (p := ⟨u0b.heap.size, 1, none⟩) (.inl rfl) _
            have HBb552 := Lib.hid (((HBb546.out).setCell (p := ⟨u0b.heap.size, 0, none⟩) hgeb556 (.slice Ab542 (k + 1) cb543)).setCell (p := ⟨u0b.heap.size, 1, none⟩) hgeb556 (.slice none 0 0))
            have Gb553 := Lib.hid ((Gb549.out.set_ 0 (.slice Ab542 (k + 1) cb543)).set_ 1 (.slice none 0 0))
            have Ob554 := Lib.hid (ownsRow_kept Ob547.out kpb551 (fun g hg e => own_blk_ne Ob547.out Gb549.out (by decide) (by rw [hg, e])))
            clear zb5500 zb5501 zb5502 zb5503 kpb551 hgeb556
            refine hK.out _ _ (⟨below_cells HBb552.out tt0, below_cells HBb552.out tt1⟩) (fun hb146 => ?_)
            clear hK K
            try simp only [Act.put, List.setIfInBounds_toArray, List.set_cons_zero, List.set_cons_succ]
            refine wpAnyH_done (by kernel_rfl) ?_ _
            go_wp2_with fail
            go_meet
            case rel => exact ⟨_, Ab542, cb543, rfl, HBb552.out, by have h := Gb553.out; simpa [Blk] using h, ownRows_see Ob554.out HLT.out (by unfold maxLen; omega) (fun i sv x hi hx => (HVAL3.out i sv x hi hx).below HBb552.out)⟩
       case sb127 =>
        intro K hK
        go_simp
        obtain ⟨ub557, hub558⟩ : ∃ z, z = ub467.alloc (.cells #[.slice C x.length cx] 23) := ⟨_, rfl⟩
        rw [← hub558]
        have hbb559 : Below ub467.heap.size ub467 ub557 := by rw [hub558]; exact (Below.refl _ ub467).alloc (Nat.le_refl _) _
        have HBb560 := Lib.hid ((HBb470.out).trans ((hbb559).mono (HBb470.out).size))
        have Gb563 := Lib.hid ((Gb471.out).below hbb559 (Gb471.out).lt)
        have Kb561 := Lib.hid ((by rw [hub558]; exact Blk.new ub467 _ _ : Blk ub557 ub467.heap.size 23 #[.slice C x.length cx]))
        clear hub558 hbb559
        refine hK.out _ _ (⟨below_cells HBb560.out tt0, below_cells HBb560.out tt1⟩) (fun hb147 => ?_)
        clear hK K
        try simp only [Act.put, List.setIfInBounds_toArray, List.set_cons_zero, List.set_cons_succ]
        refine wpAnyH_ready (rs := [0]) (by kernel_rfl) (by simp) ?_
        refine AllReadyH.cons (o := ?ob148) ?hb148 ?sb148 AllReadyH.nil
        case hb148 => (simp only [List.getElem?_toArray, List.getElem?_cons_zero, List.getElem?_cons_succ]; rfl)
        case sb148 =>
         intro K hK
         go_simp
         obtain ⟨ub564, hub565⟩ : ∃ z, z = ub557.alloc (.cells #[] 23) := ⟨_, rfl⟩
         rw [← hub565]
         have hbb566 : Below ub557.heap.size ub557 ub564 := by rw [hub565]; exact (Below.refl _ ub557).alloc (Nat.le_refl _) _
         have HBb567 := Lib.hid ((HBb560.out).trans ((hbb566).mono (HBb560.out).size))
         have Gb570 := Lib.hid ((Gb563.out).below hbb566 (Gb563.out).lt)
         have Kb571 := Lib.hid ((Kb561.out).below hbb566 (Kb561.out).lt)
         have Ob568 := Lib.hid ((by rw [hub565]; exact World.ownsRow_made ub557 #[] 0 (HBb560.out).size (Nat.zero_le _) rfl : World.ownsRow ub564 wc.heap.size 23 1 (.slice (some ⟨ub557.heap.size, 0, none⟩) 0 0) 0 []))
         clear hub565 hbb566
         have ORb572 : Hid (ub467.heap.size < ub557.heap.size) := Lib.hid (Kb561.out.lt)
         refine hK.out _ _ (⟨below_cells HBb567.out tt0, below_cells HBb567.out tt1⟩) (fun hb149 => ?_)
         clear hK K
         try simp only [Act.put, List.setIfInBounds_toArray, List.set_cons_zero, List.set_cons_succ]
         refine wpAnyH_ready (rs := [3]) (by kernel_rfl) (by simp) ?_
         refine AllReadyH.cons (o := ?ob150) ?hb150 ?sb150 AllReadyH.nil
         case hb150 => (simp only [List.getElem?_toArray, List.getElem?_cons_zero, List.getElem?_cons_succ]; rfl)
         case sb150 =>
          intro K hK
          have NEKb571 := Lib.hid (show Value.ownBlock (.slice (some ⟨ub557.heap.size, 0, none⟩) 0 0) ≠ some ub467.heap.size from fun e => by have h1 : ub557.heap.size = ub467.heap.size := Option.some.inj e; have := ORb572.out; omega)
          refine step_append_srcN _ rfl (.tmp 61) (.tmp 63) 30 rfl wc.heap.size 23 i0 (.slice none 0 0) 1 24 Try.underlying30 hi hz0 hz1 hz2 rfl (by omega) _ 0 [] rfl Ob568.out (some ad) k ca s3 rfl (H3.out.src.below HBb567.out) (H3.out.one) (by unfold maxLen; omega) (by omega) ((HBb567.out).size) ?_
          intro vb579 ub573 hwb575 hgb574 hlb578
          obtain ⟨Ab576, cb577, rfl⟩ := own_slice hwb575
          rw [Nat.zero_add, List.nil_append] at hwb575
          rw [Nat.zero_add]
          have HBb580 := Lib.hid ((HBb567.out).grown hgb574 ((HBb567.out).size) (fun k e => (Ob568.out.lt k e).1))
          have Kb583 := Lib.hid ((Kb571.out).grown hgb574 (fun e => NEKb571.out e.symm))
          have Gb584 := Lib.hid ((Gb570.out).grown hgb574 (fun e => own_blk_ne Ob568.out Gb570.out (by decide) e.symm))
          have Ob581 := Lib.hid hwb575
          clear hgb574 hwb575 hlb578
          refine hK.out _ _ (⟨below_cells HBb580.out tt0, below_cells HBb580.out tt1⟩) (fun hb151 => ?_)
          clear hK K
          try simp only [Act.put, List.setIfInBounds_toArray, List.set_cons_zero, List.set_cons_succ]
          refine wpAnyH_ready (rs := [10]) (by kernel_rfl) (by simp) ?_
          refine AllReadyH.cons (o := ?ob152) ?hb152 ?sb152 AllReadyH.nil
          case hb152 => (simp only [List.getElem?_toArray, List.getElem?_cons_zero, List.getElem?_cons_succ]; rfl)
          case sb152 =>
           intro K hK
           refine step_append_srcN _ rfl (.tmp 64) (.tmp 70) 30 rfl wc.heap.size 23 i0 (.slice none 0 0) 1 24 Try.underlying30 hi hz0 hz1 hz2 rfl (by omega) _ k s3 rfl Ob581.out (some ⟨ub467.heap.size, 0, none⟩) 1 1 [.slice C x.length cx] rfl (⟨rfl, fun ad e j u hu => by cases e; rw [addr_add, Kb583.out.cell]; simpa using hu, fun e => by cases e⟩ : SrcN _ (some ⟨ub467.heap.size, 0, none⟩) 1 1 [.slice C x.length cx]) (by simp [Value.oneCell']) (by unfold maxLen; omega) (by omega) ((HBb580.out).size) ?_
           intro vb591 ub585 hwb587 hgb586 hlb590
           obtain ⟨Ab588, cb589, rfl⟩ := own_slice hwb587

           have HBb592 := Lib.hid ((HBb580.out).grown hgb586 ((HBb580.out).size) (fun k e => (Ob581.out.lt k e).1))
           have Gb595 := Lib.hid ((Gb584.out).grown hgb586 (fun e => own_blk_ne Ob581.out Gb584.out (by decide) e.symm))
           have Ob593 := Lib.hid hwb587
           clear hgb586 hwb587 hlb590
           refine hK.out _ _ (⟨below_cells HBb592.out tt0, below_cells HBb592.out tt1⟩) (fun hb153 => ?_)
           clear hK K
           try simp only [Act.put, List.setIfInBounds_toArray, List.set_cons_zero, List.set_cons_succ]
           refine wpAnyH_take (i := 11) (oi := ?oib15411) (v := ?vb15411) ?hib15411 (by kernel_rfl) (by kernel_rfl) (by kernel_rfl) ?hQb15411 (Or.inl ⟨?hwb15411, ?hyb15411⟩) (by assumption) ?restb15411
           case hib15411 => (first | (simp only [List.getElem?_toArray, List.getElem?_cons_zero, List.getElem?_cons_succ]; rfl) | rfl)
           case hQb15411 => exact fun _ _ _ h => h
           case hwb15411 => rfl
           case hyb15411 => ((intro w hSw; go_simp); first | done | with_reducible rfl)
           try simp only [Act.put, List.setIfInBounds_toArray, List.set_cons_zero, List.set_cons_succ]
           refine wpAnyH_ready (rs := [13]) (by kernel_rfl) (by simp) ?_
           refine AllReadyH.cons (o := ?ob155) ?hb155 ?sb155 AllReadyH.nil
           case hb155 => (simp only [List.getElem?_toArray, List.getElem?_cons_zero, List.getElem?_cons_succ]; rfl)
           case sb155 =>
            intro K hK
            have zb5960 := Gb595.out.cell 0
            have zb5961 := Gb595.out.cell 1
            have zb5962 := Gb595.out.frozen 0
            have zb5963 := Gb595.out.frozen 1
            simp only [List.getElem?_toArray, List.getElem?_cons_zero, List.getElem?_cons_succ] at zb5960 zb5961
            go_simp
            have hgeb602 : wc.heap.size ≤ u0b.heap.size := GEb473.out
            have kpb597 : Kept (fun i => i = u0b.heap.size) ub585 ((ub585.setCell ⟨u0b.heap.size, 0, none⟩ (.slice Ab588 (k + 1) cb589)).setCell ⟨u0b.heap.size, 1, none⟩ (.slice none 0 0)) := ((Kept.refl (fun i => i = u0b.heap.size) ub585).setCell (p := ⟨u0b.heap.size, 0, none⟩) (.inl rfl) _).setCell (p := ⟨u0b.heap.size, 1, none⟩) (.inl rfl) _
            have HBb598 := Lib.hid (((HBb592.out).setCell (p := ⟨u0b.heap.size, 0, none⟩) hgeb602 (.slice Ab588 (k + 1) cb589)).setCell (p := ⟨u0b.heap.size, 1, none⟩) hgeb602 (.slice none 0 0))
            have Gb599 := Lib.hid ((Gb595.out.set_ 0 (.slice Ab588 (k + 1) cb589)).set_ 1 (.slice none 0 0))
            have Ob600 := Lib.hid (ownsRow_kept Ob593.out kpb597 (fun g hg e => own_blk_ne Ob593.out Gb595.out (by decide) (by rw [hg, e])))
            clear zb5960 zb5961 zb5962 zb5963 kpb597 hgeb602
            refine hK.out _ _ (⟨below_cells HBb598.out tt0, below_cells HBb598.out tt1⟩) (fun hb156 => ?_)
            clear hK K
            try simp only [Act.put, List.setIfInBounds_toArray, List.set_cons_zero, List.set_cons_succ]
            refine wpAnyH_done (by kernel_rfl) ?_ _
            go_wp2_with fail
            go_meet
            case rel => exact ⟨_, Ab588, cb589, rfl, HBb598.out, by have h := Gb599.out; simpa [Blk] using h, ownRows_see Ob600.out HLT.out (by unfold maxLen; omega) (fun i sv x hi hx => (HVAL3.out i sv x hi hx).below HBb598.out)⟩
    case rest =>
      obtain ⟨g9, A9, c9, rfl, hbW, hv9, hs9, hc9⟩ := hcut
      have HBG := Lib.hid (below_then HBF.out hbW HBF.out.size)
      have hb10 := (Below.refl wc.heap.size wc).alloc (Nat.le_refl _) (.cells #[.slice (some ad) k ca, .slice none 0 0] 33)
      have hbA := below_then hbW hb10 hbW.size
      obtain ⟨W9, hW9⟩ : ∃ z, z = wc.alloc (.cells #[.slice (some ad) k ca, .slice none 0 0] 33) := ⟨_, rfl⟩
      have hv10 : Blk W9 wc.heap.size 33 #[.slice (some ad) k ca, .slice none 0 0] := by rw [hW9]; exact Blk.new _ _ _
      rw [← hW9] at hb10 hbA
      have HBH := Lib.hid (below_then HBG.out hb10 HBG.out.size)
      have HV10 := Lib.hid hv10
      have HV9 := Lib.hid (hv9.below hb10 hv9.lt)
      have HS9 := Lib.hid (⟨hs9.below hb10, (VocSee.nil W9).mer, hc9, Nat.le_refl _⟩ : VocSee W9 A9 none (k + 1) 0 c9 0 ⟨V.tok ++ [x], []⟩)
      have HV8b := Lib.hid (HV8.out.below hbA HV8.out.lt)
      have HS8b := Lib.hid (⟨HS8.out.below hbA, (VocSee.nil W9).mer, HC8.out, Nat.le_refl _⟩ : VocSee W9 A8 none (p + r) 0 c8 0 ⟨V.tok.take p ++ V.tok.drop (p + 1), []⟩)
      have HS4b := Lib.hid (HS4.out.below hbA)
      have HV4b := Lib.hid (HV4.out.below hbA HV4.out.lt)
      have z0 := ((HV4.out.below hbW HV4.out.lt).cell 0)
      have z1 := HV8b.out.cell 0
      have z2 := HV8b.out.cell 1
      simp only [List.getElem?_toArray, List.getElem?_cons_zero, List.getElem?_cons_succ] at z0 z1 z2
      rw [hW9] at z1 z2
      have HW9 := Lib.hid hW9
      clear tt0 tt1 hbW hv9 hs9 hc9 hb10 hbA hW9 hv10 hpz
      go_wp2_with fail
      rw [← HW9.out]
      refine (vCheck_is W9 A8 none (p + r) 0 c8 0 ⟨V.tok.take p ++ V.tok.drop (p + 1), []⟩ HS8b.out (check_none HOK.out hp)).mono ?_
      rintro e w10 ⟨rfl, hb⟩
      have HBI := Lib.hid (below_then HBH.out hb HBH.out.size)
      have hv9' := HV9.out.below hb HV9.out.lt
      have x1 := hv9'.cell 0
      have x2 := hv9'.cell 1
      simp only [List.getElem?_toArray, List.getElem?_cons_zero, List.getElem?_cons_succ] at x1 x2
      have HS9b := Lib.hid (HS9.out.below hb)
      have HV10b := Lib.hid (HV10.out.below hb HV10.out.lt)
      have HS4c := Lib.hid (HS4b.out.below hb)
      have HV4c := Lib.hid (HV4b.out.below hb HV4b.out.lt)
      clear hb z0 z1 z2 hv9'
      go_wp2_with fail
      refine (vCheck_is w10 A9 none (k + 1) 0 c9 0 ⟨V.tok ++ [x], []⟩ HS9b.out (check_twice HOK.out HX.out (by rw [HK.out]; omega))).mono ?_
      rintro e w11 ⟨rfl, hb⟩
      have HBJ := Lib.hid (below_then HBI.out hb HBI.out.size)
      have hv10' := HV10b.out.below hb HV10b.out.lt
      have x3 := hv10'.cell 0
      have x4 := hv10'.cell 1
      simp only [List.getElem?_toArray, List.getElem?_cons_zero, List.getElem?_cons_succ] at x3 x4
      have HS4d := Lib.hid (HS4c.out.below hb)
      have HV4d := Lib.hid (HV4c.out.below hb HV4c.out.lt)
      clear hb x1 x2 hv10'
      go_wp2_with fail
      refine (vCheck_is w11 (some ad) none k 0 ca 0 ⟨V.tok, []⟩ ⟨HS4d.out.tok, (VocSee.nil w11).mer, HS4d.out.capT, Nat.le_refl _⟩ (check_bare HOK.out)).mono ?_
      rintro e w12 ⟨rfl, hb⟩
      have HBK := Lib.hid (below_then HBJ.out hb HBJ.out.size)
      have HS5 := Lib.hid (HS4d.out.below hb)
      have HV5 := Lib.hid (HV4d.out.below hb HV4d.out.lt)
      have tt0 := HV5.out.cell 0
      have tt1 := HV5.out.cell 1
      simp only [List.getElem?_toArray, List.getElem?_cons_zero, List.getElem?_cons_succ] at tt0 tt1
      clear hb x3 x4
      by_cases hm0 : m = 0
      · subst hm0
        go_wp2
        go_ret
        exact ⟨rfl, HBK.out⟩
      have dm0 : ((m : Int) == 0) = false := by simp; omega
      by_cases hmf : 512 ≤ m
      · have dmf : decide ((512 : Int) ≤ (m : Int)) = true := by simp; omega
        go_wp2
        go_ret
        exact ⟨rfl, HBK.out⟩
      have dmf : decide ((512 : Int) ≤ (m : Int)) = false := by simp; omega
      obtain ⟨mg, hmg⟩ : ∃ mg, V.mer[0]? = some mg := ⟨_, List.getElem?_eq_getElem (by rw [HM.out]; omega)⟩
      obtain ⟨bd, rfl, ea, eb, et⟩ := HS5.out.mer.at_ 0 mg hmg
      obtain ⟨ma, mb, mt⟩ := mg
      have hbd : bd.add (0 * 3) = bd := by simp [Addr.add]
      rw [hbd] at ea eb et
      have tt2 : w12.cell? bd = some (.int .i64 ma) := ea
      have tt3 : w12.cell? ⟨bd.block, bd.off + 1, none⟩ = some (.int .i64 mb) := eb
      have tt4 : w12.cell? ⟨bd.block, bd.off + 2, none⟩ = some (.int .i64 mt) := et
      have HMS := Lib.hid HS5.out.mer
      have HLM := Lib.hid (show (V.mer ++ [(⟨ma, mb, mt⟩ : Mg)]).length = m + 1 by rw [List.length_append, List.length_singleton, HM.out])
      have HFM := Lib.hid (show ∀ m' ∈ V.mer ++ [(⟨ma, mb, mt⟩ : Mg)], mgFits m' from fun m' hm' => by
        rcases List.mem_append.1 hm' with h | h
        · exact HS5.out.mer.bound m' h
        · rw [List.mem_singleton.1 h]; exact HS5.out.mer.bound _ (List.mem_of_getElem? hmg))
      have HMG := Lib.hid hmg
      have hmz : (0 : Int) < (m : Int) := by omega
      have hmlt : m < 512 := by omega
      have hmn : 0 < m := by omega
      clear hbd ea eb et hmg
      go_wp2_with fail
      go_cut [11] (fun pv wx => ∃ g B2 c2, pv = .pointer (some ⟨g, 0, none⟩) ∧ Below w12.heap.size w12 wx ∧ Blk wx g 33 #[.slice (some ad) k ca, .slice B2 (m + 1) c2] ∧ MgSee wx B2 (m + 1) (V.mer ++ [⟨ma, mb, mt⟩]) ∧ m + 1 ≤ c2)
      case first =>
        refine wp_region_held_drew (S := fun w' => w'.cell? ⟨w2.heap.size, 0, none⟩ = some (.slice (some ad) k ca) ∧ w'.cell? ⟨w2.heap.size, 1, none⟩ = some (.slice (some bd) m cb) ∧ w'.cell? bd = some (.int .i64 ma) ∧ w'.cell? ⟨bd.block, bd.off + 1, none⟩ = some (.int .i64 mb) ∧ w'.cell? ⟨bd.block, bd.off + 2, none⟩ = some (.int .i64 mt)) (by kernel_rfl) ?_ (fun hHeld => ?_)
        · exact ⟨tt0, tt1, tt2, tt3, tt4⟩
        obtain ⟨u0c, hu0⟩ : ∃ z, z = w12.drew := ⟨_, rfl⟩
        rw [← hu0] at hHeld ⊢
        have HBWc : Hid (Below w12.heap.size w12 u0c) := Lib.hid (by rw [hu0]; exact (Below.refl _ w12).drew)
        clear hu0
        refine wpAnyH_take (i := 0) (oi := ?oic10) (v := ?vc10) ?hic10 (by kernel_rfl) (by kernel_rfl) (by kernel_rfl) ?hQc10 (Or.inl ⟨?hwc10, ?hyc10⟩) (by assumption) ?restc10
        case hic10 => (first | (simp only [List.getElem?_toArray, List.getElem?_cons_zero, List.getElem?_cons_succ]; rfl) | rfl)
        case hQc10 => exact fun _ _ _ h => h
        case hwc10 => rfl
        case hyc10 => ((intro w hSw; go_simp); first | done | with_reducible rfl)
        try simp only [Act.put, List.setIfInBounds_toArray, List.set_cons_zero, List.set_cons_succ]
        refine wpAnyH_take (i := 3) (oi := ?oic23) (v := ?vc23) ?hic23 (by kernel_rfl) (by kernel_rfl) (by kernel_rfl) ?hQc23 (Or.inl ⟨?hwc23, ?hyc23⟩) (by assumption) ?restc23
        case hic23 => (first | (simp only [List.getElem?_toArray, List.getElem?_cons_zero, List.getElem?_cons_succ]; rfl) | rfl)
        case hQc23 => exact fun _ _ _ h => h
        case hwc23 => rfl
        case hyc23 => ((intro w hSw; go_simp); first | done | with_reducible rfl)
        try simp only [Act.put, List.setIfInBounds_toArray, List.set_cons_zero, List.set_cons_succ]
        refine wpAnyH_take (i := 6) (oi := ?oic36) (v := ?vc36) ?hic36 (by kernel_rfl) (by kernel_rfl) (by kernel_rfl) ?hQc36 (Or.inl ⟨?hwc36, ?hyc36⟩) (by assumption) ?restc36
        case hic36 => (first | (simp only [List.getElem?_toArray, List.getElem?_cons_zero, List.getElem?_cons_succ]; rfl) | rfl)
        case hQc36 => exact fun _ _ _ h => h
        case hwc36 => rfl
        case hyc36 => ((intro w hSw; go_simp); first | done | with_reducible rfl)
        try simp only [Act.put, List.setIfInBounds_toArray, List.set_cons_zero, List.set_cons_succ]
        refine wpAnyH_take (i := 1) (oi := ?oic41) (v := ?vc41) ?hic41 (by kernel_rfl) (by kernel_rfl) (by kernel_rfl) ?hQc41 (Or.inl ⟨?hwc41, ?hyc41⟩) (by assumption) ?restc41
        case hic41 => (first | (simp only [List.getElem?_toArray, List.getElem?_cons_zero, List.getElem?_cons_succ]; rfl) | rfl)
        case hQc41 => exact fun _ _ _ h => h
        case hwc41 => rfl
        case hyc41 => ((intro w hSw; go_simp); first | done | with_reducible rfl)
        try simp only [Act.put, List.setIfInBounds_toArray, List.set_cons_zero, List.set_cons_succ]
        refine wpAnyH_take (i := 4) (oi := ?oic54) (v := ?vc54) ?hic54 (by kernel_rfl) (by kernel_rfl) (by kernel_rfl) ?hQc54 (Or.inl ⟨?hwc54, ?hyc54⟩) (by assumption) ?restc54
        case hic54 => (first | (simp only [List.getElem?_toArray, List.getElem?_cons_zero, List.getElem?_cons_succ]; rfl) | rfl)
        case hQc54 => exact fun _ _ _ h => h
        case hwc54 => rfl
        case hyc54 => ((intro w hSw; go_simp); first | done | with_reducible rfl)
        try simp only [Act.put, List.setIfInBounds_toArray, List.set_cons_zero, List.set_cons_succ]
        refine wpAnyH_take (i := 7) (oi := ?oic67) (v := ?vc67) ?hic67 (by kernel_rfl) (by kernel_rfl) (by kernel_rfl) ?hQc67 (Or.inl ⟨?hwc67, ?hyc67⟩) (by assumption) ?restc67
        case hic67 => (first | (simp only [List.getElem?_toArray, List.getElem?_cons_zero, List.getElem?_cons_succ]; rfl) | rfl)
        case hQc67 => exact fun _ _ _ h => h
        case hwc67 => rfl
        case hyc67 => ((intro w hSw; go_simp); first | done | with_reducible rfl)
        try simp only [Act.put, List.setIfInBounds_toArray, List.set_cons_zero, List.set_cons_succ]
        refine wpAnyH_take (i := 8) (oi := ?oic78) (v := ?vc78) ?hic78 (by kernel_rfl) (by kernel_rfl) (by kernel_rfl) ?hQc78 (Or.inl ⟨?hwc78, ?hyc78⟩) (by assumption) ?restc78
        case hic78 => (first | (simp only [List.getElem?_toArray, List.getElem?_cons_zero, List.getElem?_cons_succ]; rfl) | rfl)
        case hQc78 => exact fun _ _ _ h => h
        case hwc78 => rfl
        case hyc78 => ((intro w hSw; go_simp); first | done | with_reducible rfl)
        try simp only [Act.put, List.setIfInBounds_toArray, List.set_cons_zero, List.set_cons_succ]
        refine wpAnyH_take (i := 9) (oi := ?oic89) (v := ?vc89) ?hic89 (by kernel_rfl) (by kernel_rfl) (by kernel_rfl) ?hQc89 (Or.inl ⟨?hwc89, ?hyc89⟩) (by assumption) ?restc89
        case hic89 => (first | (simp only [List.getElem?_toArray, List.getElem?_cons_zero, List.getElem?_cons_succ]; rfl) | rfl)
        case hQc89 => exact fun _ _ _ h => h
        case hwc89 => rfl
        case hyc89 => ((intro w hSw; go_simp); first | done | with_reducible rfl)
        try simp only [Act.put, List.setIfInBounds_toArray, List.set_cons_zero, List.set_cons_succ]
        refine wpAnyH_ready (rs := [2, 10, 13]) (by kernel_rfl) (by simp) ?_
        refine AllReadyH.cons (o := ?oc9) ?hc9 ?sc9 (AllReadyH.cons (o := ?oc10) ?hc10 ?sc10 (AllReadyH.cons (o := ?oc11) ?hc11 ?sc11 AllReadyH.nil))
        case hc9 => (simp only [List.getElem?_toArray, List.getElem?_cons_zero, List.getElem?_cons_succ]; rfl)
        case hc10 => (simp only [List.getElem?_toArray, List.getElem?_cons_zero, List.getElem?_cons_succ]; rfl)
        case hc11 => (simp only [List.getElem?_toArray, List.getElem?_cons_zero, List.getElem?_cons_succ]; rfl)
        case sc9 =>
         intro K hK
         go_simp
         obtain ⟨uc1, huc2⟩ : ∃ z, z = u0c.alloc (.cells #[] 25) := ⟨_, rfl⟩
         rw [← huc2]
         have hbc3 : Below u0c.heap.size u0c uc1 := by rw [huc2]; exact (Below.refl _ u0c).alloc (Nat.le_refl _) _
         have HBc4 := Lib.hid ((HBWc.out).trans ((hbc3).mono (HBWc.out).size))
         have Oc5 := Lib.hid ((by rw [huc2]; exact World.ownsRow_made u0c #[] 0 (HBWc.out).size (Nat.zero_le _) rfl : World.ownsRow uc1 w12.heap.size 25 3 (.slice (some ⟨u0c.heap.size, 0, none⟩) 0 0) 0 []))
         clear huc2 hbc3
         refine hK.out _ _ (⟨below_cells HBc4.out tt0, below_cells HBc4.out tt1, below_cells HBc4.out tt2, below_cells HBc4.out tt3, below_cells HBc4.out tt4⟩) (fun hc12 => ?_)
         clear hK K
         try simp only [Act.put, List.setIfInBounds_toArray, List.set_cons_zero, List.set_cons_succ]
         refine wpAnyH_ready (rs := [5, 10, 13]) (by kernel_rfl) (by simp) ?_
         refine AllReadyH.cons (o := ?oc13) ?hc13 ?sc13 (AllReadyH.cons (o := ?oc14) ?hc14 ?sc14 (AllReadyH.cons (o := ?oc15) ?hc15 ?sc15 AllReadyH.nil))
         case hc13 => (simp only [List.getElem?_toArray, List.getElem?_cons_zero, List.getElem?_cons_succ]; rfl)
         case hc14 => (simp only [List.getElem?_toArray, List.getElem?_cons_zero, List.getElem?_cons_succ]; rfl)
         case hc15 => (simp only [List.getElem?_toArray, List.getElem?_cons_zero, List.getElem?_cons_succ]; rfl)
         case sc13 =>
          intro K hK
          refine step_append_srcN _ rfl (.tmp 102) (.tmp 104) 31 rfl w12.heap.size 25 j0 (.agg #[.int .i64 0, .int .i64 0, .int .i64 0]) 3 24 Try.underlying31 hj hy0 hy1 hy2 rfl (by omega) _ 0 [] rfl Oc5.out (some bd) m cb (V.mer.flatMap mgCells) rfl (HMS.out.src.below HBc4.out) (mgCells_one V.mer) (by unfold maxLen; omega) (by omega) ((HBc4.out).size) ?_
          intro vc13 uc7 hwc9 hgc8 hlc12
          obtain ⟨Ac10, cc11, rfl⟩ := own_slice hwc9
          rw [Nat.zero_add, List.nil_append] at hwc9
          rw [Nat.zero_add]
          have HBc14 := Lib.hid ((HBc4.out).grown hgc8 ((HBc4.out).size) (fun k e => (Oc5.out.lt k e).1))
          have Oc15 := Lib.hid hwc9
          clear hgc8 hwc9 hlc12
          refine hK.out _ _ (⟨below_cells HBc14.out tt0, below_cells HBc14.out tt1, below_cells HBc14.out tt2, below_cells HBc14.out tt3, below_cells HBc14.out tt4⟩) (fun hc16 => ?_)
          clear hK K
          try simp only [Act.put, List.setIfInBounds_toArray, List.set_cons_zero, List.set_cons_succ]
          refine wpAnyH_ready (rs := [10, 13]) (by kernel_rfl) (by simp) ?_
          refine AllReadyH.cons (o := ?oc17) ?hc17 ?sc17 (AllReadyH.cons (o := ?oc18) ?hc18 ?sc18 AllReadyH.nil)
          case hc17 => (simp only [List.getElem?_toArray, List.getElem?_cons_zero, List.getElem?_cons_succ]; rfl)
          case hc18 => (simp only [List.getElem?_toArray, List.getElem?_cons_zero, List.getElem?_cons_succ]; rfl)
          case sc17 =>
           intro K hK
           go_simp
           obtain ⟨uc17, huc18⟩ : ∃ z, z = uc7.alloc (.cells #[.int .i64 ma, .int .i64 mb, .int .i64 mt] 25) := ⟨_, rfl⟩
           rw [← huc18]
           have hbc19 : Below uc7.heap.size uc7 uc17 := by rw [huc18]; exact (Below.refl _ uc7).alloc (Nat.le_refl _) _
           have HBc20 := Lib.hid ((HBc14.out).trans ((hbc19).mono (HBc14.out).size))
           have Oc23 := Lib.hid (ownsRow_block (Oc15.out) (fun g hg => (hbc19).block g ((Oc15.out).lt g hg).2))
           have Kc21 := Lib.hid ((by rw [huc18]; exact Blk.new uc7 _ _ : Blk uc17 uc7.heap.size 25 #[.int .i64 ma, .int .i64 mb, .int .i64 mt]))
           clear huc18 hbc19
           refine hK.out _ _ (⟨below_cells HBc20.out tt0, below_cells HBc20.out tt1, below_cells HBc20.out tt2, below_cells HBc20.out tt3, below_cells HBc20.out tt4⟩) (fun hc19 => ?_)
           clear hK K
           try simp only [Act.put, List.setIfInBounds_toArray, List.set_cons_zero, List.set_cons_succ]
           refine wpAnyH_ready (rs := [11, 13]) (by kernel_rfl) (by simp) ?_
           refine AllReadyH.cons (o := ?oc20) ?hc20 ?sc20 (AllReadyH.cons (o := ?oc21) ?hc21 ?sc21 AllReadyH.nil)
           case hc20 => (simp only [List.getElem?_toArray, List.getElem?_cons_zero, List.getElem?_cons_succ]; rfl)
           case hc21 => (simp only [List.getElem?_toArray, List.getElem?_cons_zero, List.getElem?_cons_succ]; rfl)
           case sc20 =>
            intro K hK
            refine step_append_srcN _ rfl (.tmp 105) (.tmp 110) 31 rfl w12.heap.size 25 j0 (.agg #[.int .i64 0, .int .i64 0, .int .i64 0]) 3 24 Try.underlying31 hj hy0 hy1 hy2 rfl (by omega) _ m (V.mer.flatMap mgCells) rfl Oc23.out (some ⟨uc7.heap.size, 0, none⟩) 1 1 (mgCells ⟨ma, mb, mt⟩) rfl (⟨rfl, fun ad e j u hu => by cases e; rw [addr_add, Kc21.out.cell]; simpa [mgCells] using hu, fun e => by cases e⟩ : SrcN _ (some ⟨uc7.heap.size, 0, none⟩) 1 3 (mgCells ⟨ma, mb, mt⟩)) (by simp [mgCells, Value.oneCell']) (by unfold maxLen; omega) (by omega) ((HBc20.out).size) ?_
            intro vc30 uc24 hwc26 hgc25 hlc29
            obtain ⟨Ac27, cc28, rfl⟩ := own_slice hwc26

            have HBc31 := Lib.hid ((HBc20.out).grown hgc25 ((HBc20.out).size) (fun k e => (Oc23.out.lt k e).1))
            have Oc32 := Lib.hid hwc26
            clear hgc25 hwc26 hlc29
            refine hK.out _ _ (⟨below_cells HBc31.out tt0, below_cells HBc31.out tt1, below_cells HBc31.out tt2, below_cells HBc31.out tt3, below_cells HBc31.out tt4⟩) (fun hc22 => ?_)
            clear hK K
            try simp only [Act.put, List.setIfInBounds_toArray, List.set_cons_zero, List.set_cons_succ]
            refine wpAnyH_take (i := 12) (oi := ?oic2312) (v := ?vc2312) ?hic2312 (by kernel_rfl) (by kernel_rfl) (by kernel_rfl) ?hQc2312 (Or.inl ⟨?hwc2312, ?hyc2312⟩) (by assumption) ?restc2312
            case hic2312 => (first | (simp only [List.getElem?_toArray, List.getElem?_cons_zero, List.getElem?_cons_succ]; rfl) | rfl)
            case hQc2312 => exact fun _ _ _ h => h
            case hwc2312 => rfl
            case hyc2312 => ((intro w hSw; go_simp); first | done | with_reducible rfl)
            try simp only [Act.put, List.setIfInBounds_toArray, List.set_cons_zero, List.set_cons_succ]
            refine wpAnyH_ready (rs := [13]) (by kernel_rfl) (by simp) ?_
            refine AllReadyH.cons (o := ?oc24) ?hc24 ?sc24 AllReadyH.nil
            case hc24 => (simp only [List.getElem?_toArray, List.getElem?_cons_zero, List.getElem?_cons_succ]; rfl)
            case sc24 =>
             intro K hK
             go_simp
             obtain ⟨uc34, huc35⟩ : ∃ z, z = uc24.alloc (.cells #[.slice none 0 0, .slice none 0 0] 33) := ⟨_, rfl⟩
             rw [← huc35]
             have hbc36 : Below uc24.heap.size uc24 uc34 := by rw [huc35]; exact (Below.refl _ uc24).alloc (Nat.le_refl _) _
             have HBc37 := Lib.hid ((HBc31.out).trans ((hbc36).mono (HBc31.out).size))
             have Oc40 := Lib.hid (ownsRow_block (Oc32.out) (fun g hg => (hbc36).block g ((Oc32.out).lt g hg).2))
             have Gc38 := Lib.hid ((by rw [huc35]; exact Blk.new uc24 _ _ : Blk uc34 uc24.heap.size 33 #[.slice none 0 0, .slice none 0 0]))
             clear huc35 hbc36
             have GEc41 := Lib.hid ((HBc31.out).size)
             refine hK.out _ _ (⟨below_cells HBc37.out tt0, below_cells HBc37.out tt1, below_cells HBc37.out tt2, below_cells HBc37.out tt3, below_cells HBc37.out tt4⟩) (fun hc25 => ?_)
             clear hK K
             try simp only [Act.put, List.setIfInBounds_toArray, List.set_cons_zero, List.set_cons_succ]
             refine wpAnyH_ready (rs := [14]) (by kernel_rfl) (by simp) ?_
             refine AllReadyH.cons (o := ?oc26) ?hc26 ?sc26 AllReadyH.nil
             case hc26 => (simp only [List.getElem?_toArray, List.getElem?_cons_zero, List.getElem?_cons_succ]; rfl)
             case sc26 =>
              intro K hK
              have zc420 := Gc38.out.cell 0
              have zc421 := Gc38.out.cell 1
              have zc422 := Gc38.out.frozen 0
              have zc423 := Gc38.out.frozen 1
              simp only [List.getElem?_toArray, List.getElem?_cons_zero, List.getElem?_cons_succ] at zc420 zc421
              go_simp
              have hgec48 : w12.heap.size ≤ uc24.heap.size := GEc41.out
              have kpc43 : Kept (fun i => i = uc24.heap.size) uc34 ((uc34.setCell ⟨uc24.heap.size, 0, none⟩ (.slice (some ad) k ca)).setCell ⟨uc24.heap.size, 1, none⟩ (.slice Ac27 (m + 1) cc28)) := ((Kept.refl (fun i => i = uc24.heap.size) uc34).setCell (p := ⟨uc24.heap.size, 0, none⟩) (.inl rfl) _).setCell (p := ⟨uc24.heap.size, 1, none⟩) (.inl rfl) _
              have HBc44 := Lib.hid (((HBc37.out).setCell (p := ⟨uc24.heap.size, 0, none⟩) hgec48 (.slice (some ad) k ca)).setCell (p := ⟨uc24.heap.size, 1, none⟩) hgec48 (.slice Ac27 (m + 1) cc28))
              have Gc45 := Lib.hid ((Gc38.out.set_ 0 (.slice (some ad) k ca)).set_ 1 (.slice Ac27 (m + 1) cc28))
              have Oc46 := Lib.hid (ownsRow_kept Oc40.out kpc43 (fun g hg e => own_blk_ne Oc40.out Gc38.out (by decide) (by rw [hg, e])))
              clear zc420 zc421 zc422 zc423 kpc43 hgec48
              refine hK.out _ _ (⟨below_cells HBc44.out tt0, below_cells HBc44.out tt1, below_cells HBc44.out tt2, below_cells HBc44.out tt3, below_cells HBc44.out tt4⟩) (fun hc27 => ?_)
              clear hK K
              try simp only [Act.put, List.setIfInBounds_toArray, List.set_cons_zero, List.set_cons_succ]
              refine wpAnyH_done (by kernel_rfl) ?_ _
              go_wp2_with fail
              go_meet
              case rel => exact ⟨_, Ac27, cc28, rfl, HBc44.out, by have h := Gc45.out; simpa [Blk] using h, MgSee.own (M := V.mer ++ [⟨ma, mb, mt⟩]) (by have h := Oc46.out; rw [List.flatMap_append, List.flatMap_singleton]; exact h) HLM.out (by unfold maxLen; omega) HFM.out⟩
           case sc21 =>
            intro K hK
            go_simp
            obtain ⟨uc49, huc50⟩ : ∃ z, z = uc17.alloc (.cells #[.slice none 0 0, .slice none 0 0] 33) := ⟨_, rfl⟩
            rw [← huc50]
            have hbc51 : Below uc17.heap.size uc17 uc49 := by rw [huc50]; exact (Below.refl _ uc17).alloc (Nat.le_refl _) _
            have HBc52 := Lib.hid ((HBc20.out).trans ((hbc51).mono (HBc20.out).size))
            have Oc55 := Lib.hid (ownsRow_block (Oc23.out) (fun g hg => (hbc51).block g ((Oc23.out).lt g hg).2))
            have Kc56 := Lib.hid ((Kc21.out).below hbc51 (Kc21.out).lt)
            have Gc53 := Lib.hid ((by rw [huc50]; exact Blk.new uc17 _ _ : Blk uc49 uc17.heap.size 33 #[.slice none 0 0, .slice none 0 0]))
            clear huc50 hbc51
            have GEc57 := Lib.hid ((HBc20.out).size)
            refine hK.out _ _ (⟨below_cells HBc52.out tt0, below_cells HBc52.out tt1, below_cells HBc52.out tt2, below_cells HBc52.out tt3, below_cells HBc52.out tt4⟩) (fun hc28 => ?_)
            clear hK K
            try simp only [Act.put, List.setIfInBounds_toArray, List.set_cons_zero, List.set_cons_succ]
            refine wpAnyH_ready (rs := [11]) (by kernel_rfl) (by simp) ?_
            refine AllReadyH.cons (o := ?oc29) ?hc29 ?sc29 AllReadyH.nil
            case hc29 => (simp only [List.getElem?_toArray, List.getElem?_cons_zero, List.getElem?_cons_succ]; rfl)
            case sc29 =>
             intro K hK
             refine step_append_srcN _ rfl (.tmp 105) (.tmp 110) 31 rfl w12.heap.size 25 j0 (.agg #[.int .i64 0, .int .i64 0, .int .i64 0]) 3 24 Try.underlying31 hj hy0 hy1 hy2 rfl (by omega) _ m (V.mer.flatMap mgCells) rfl Oc55.out (some ⟨uc7.heap.size, 0, none⟩) 1 1 (mgCells ⟨ma, mb, mt⟩) rfl (⟨rfl, fun ad e j u hu => by cases e; rw [addr_add, Kc56.out.cell]; simpa [mgCells] using hu, fun e => by cases e⟩ : SrcN _ (some ⟨uc7.heap.size, 0, none⟩) 1 3 (mgCells ⟨ma, mb, mt⟩)) (by simp [mgCells, Value.oneCell']) (by unfold maxLen; omega) (by omega) ((HBc52.out).size) ?_
             intro vc64 uc58 hwc60 hgc59 hlc63
             obtain ⟨Ac61, cc62, rfl⟩ := own_slice hwc60

             have HBc65 := Lib.hid ((HBc52.out).grown hgc59 ((HBc52.out).size) (fun k e => (Oc55.out.lt k e).1))
             have Gc68 := Lib.hid ((Gc53.out).grown hgc59 (fun e => own_blk_ne Oc55.out Gc53.out (by decide) e.symm))
             have Oc66 := Lib.hid hwc60
             clear hgc59 hwc60 hlc63
             refine hK.out _ _ (⟨below_cells HBc65.out tt0, below_cells HBc65.out tt1, below_cells HBc65.out tt2, below_cells HBc65.out tt3, below_cells HBc65.out tt4⟩) (fun hc30 => ?_)
             clear hK K
             try simp only [Act.put, List.setIfInBounds_toArray, List.set_cons_zero, List.set_cons_succ]
             refine wpAnyH_take (i := 12) (oi := ?oic3112) (v := ?vc3112) ?hic3112 (by kernel_rfl) (by kernel_rfl) (by kernel_rfl) ?hQc3112 (Or.inl ⟨?hwc3112, ?hyc3112⟩) (by assumption) ?restc3112
             case hic3112 => (first | (simp only [List.getElem?_toArray, List.getElem?_cons_zero, List.getElem?_cons_succ]; rfl) | rfl)
             case hQc3112 => exact fun _ _ _ h => h
             case hwc3112 => rfl
             case hyc3112 => ((intro w hSw; go_simp); first | done | with_reducible rfl)
             try simp only [Act.put, List.setIfInBounds_toArray, List.set_cons_zero, List.set_cons_succ]
             refine wpAnyH_ready (rs := [14]) (by kernel_rfl) (by simp) ?_
             refine AllReadyH.cons (o := ?oc32) ?hc32 ?sc32 AllReadyH.nil
             case hc32 => (simp only [List.getElem?_toArray, List.getElem?_cons_zero, List.getElem?_cons_succ]; rfl)
             case sc32 =>
              intro K hK
              have zc690 := Gc68.out.cell 0
              have zc691 := Gc68.out.cell 1
              have zc692 := Gc68.out.frozen 0
              have zc693 := Gc68.out.frozen 1
              simp only [List.getElem?_toArray, List.getElem?_cons_zero, List.getElem?_cons_succ] at zc690 zc691
              go_simp
              have hgec75 : w12.heap.size ≤ uc17.heap.size := GEc57.out
              have kpc70 : Kept (fun i => i = uc17.heap.size) uc58 ((uc58.setCell ⟨uc17.heap.size, 0, none⟩ (.slice (some ad) k ca)).setCell ⟨uc17.heap.size, 1, none⟩ (.slice Ac61 (m + 1) cc62)) := ((Kept.refl (fun i => i = uc17.heap.size) uc58).setCell (p := ⟨uc17.heap.size, 0, none⟩) (.inl rfl) _).setCell (p := ⟨uc17.heap.size, 1, none⟩) (.inl rfl) _
              have HBc71 := Lib.hid (((HBc65.out).setCell (p := ⟨uc17.heap.size, 0, none⟩) hgec75 (.slice (some ad) k ca)).setCell (p := ⟨uc17.heap.size, 1, none⟩) hgec75 (.slice Ac61 (m + 1) cc62))
              have Gc72 := Lib.hid ((Gc68.out.set_ 0 (.slice (some ad) k ca)).set_ 1 (.slice Ac61 (m + 1) cc62))
              have Oc73 := Lib.hid (ownsRow_kept Oc66.out kpc70 (fun g hg e => own_blk_ne Oc66.out Gc68.out (by decide) (by rw [hg, e])))
              clear zc690 zc691 zc692 zc693 kpc70 hgec75
              refine hK.out _ _ (⟨below_cells HBc71.out tt0, below_cells HBc71.out tt1, below_cells HBc71.out tt2, below_cells HBc71.out tt3, below_cells HBc71.out tt4⟩) (fun hc33 => ?_)
              clear hK K
              try simp only [Act.put, List.setIfInBounds_toArray, List.set_cons_zero, List.set_cons_succ]
              refine wpAnyH_done (by kernel_rfl) ?_ _
              go_wp2_with fail
              go_meet
              case rel => exact ⟨_, Ac61, cc62, rfl, HBc71.out, by have h := Gc72.out; simpa [Blk] using h, MgSee.own (M := V.mer ++ [⟨ma, mb, mt⟩]) (by have h := Oc73.out; rw [List.flatMap_append, List.flatMap_singleton]; exact h) HLM.out (by unfold maxLen; omega) HFM.out⟩
          case sc18 =>
           intro K hK
           go_simp
           obtain ⟨uc76, huc77⟩ : ∃ z, z = uc7.alloc (.cells #[.slice none 0 0, .slice none 0 0] 33) := ⟨_, rfl⟩
           rw [← huc77]
           have hbc78 : Below uc7.heap.size uc7 uc76 := by rw [huc77]; exact (Below.refl _ uc7).alloc (Nat.le_refl _) _
           have HBc79 := Lib.hid ((HBc14.out).trans ((hbc78).mono (HBc14.out).size))
           have Oc82 := Lib.hid (ownsRow_block (Oc15.out) (fun g hg => (hbc78).block g ((Oc15.out).lt g hg).2))
           have Gc80 := Lib.hid ((by rw [huc77]; exact Blk.new uc7 _ _ : Blk uc76 uc7.heap.size 33 #[.slice none 0 0, .slice none 0 0]))
           clear huc77 hbc78
           have GEc83 := Lib.hid ((HBc14.out).size)
           refine hK.out _ _ (⟨below_cells HBc79.out tt0, below_cells HBc79.out tt1, below_cells HBc79.out tt2, below_cells HBc79.out tt3, below_cells HBc79.out tt4⟩) (fun hc34 => ?_)
           clear hK K
           try simp only [Act.put, List.setIfInBounds_toArray, List.set_cons_zero, List.set_cons_succ]
           refine wpAnyH_ready (rs := [10]) (by kernel_rfl) (by simp) ?_
           refine AllReadyH.cons (o := ?oc35) ?hc35 ?sc35 AllReadyH.nil
           case hc35 => (simp only [List.getElem?_toArray, List.getElem?_cons_zero, List.getElem?_cons_succ]; rfl)
           case sc35 =>
            intro K hK
            go_simp
            obtain ⟨uc84, huc85⟩ : ∃ z, z = uc76.alloc (.cells #[.int .i64 ma, .int .i64 mb, .int .i64 mt] 25) := ⟨_, rfl⟩
            rw [← huc85]
            have hbc86 : Below uc76.heap.size uc76 uc84 := by rw [huc85]; exact (Below.refl _ uc76).alloc (Nat.le_refl _) _
            have HBc87 := Lib.hid ((HBc79.out).trans ((hbc86).mono (HBc79.out).size))
            have Oc90 := Lib.hid (ownsRow_block (Oc82.out) (fun g hg => (hbc86).block g ((Oc82.out).lt g hg).2))
            have Gc91 := Lib.hid ((Gc80.out).below hbc86 (Gc80.out).lt)
            have Kc88 := Lib.hid ((by rw [huc85]; exact Blk.new uc76 _ _ : Blk uc84 uc76.heap.size 25 #[.int .i64 ma, .int .i64 mb, .int .i64 mt]))
            clear huc85 hbc86
            refine hK.out _ _ (⟨below_cells HBc87.out tt0, below_cells HBc87.out tt1, below_cells HBc87.out tt2, below_cells HBc87.out tt3, below_cells HBc87.out tt4⟩) (fun hc36 => ?_)
            clear hK K
            try simp only [Act.put, List.setIfInBounds_toArray, List.set_cons_zero, List.set_cons_succ]
            refine wpAnyH_ready (rs := [11]) (by kernel_rfl) (by simp) ?_
            refine AllReadyH.cons (o := ?oc37) ?hc37 ?sc37 AllReadyH.nil
            case hc37 => (simp only [List.getElem?_toArray, List.getElem?_cons_zero, List.getElem?_cons_succ]; rfl)
            case sc37 =>
             intro K hK
             refine step_append_srcN _ rfl (.tmp 105) (.tmp 110) 31 rfl w12.heap.size 25 j0 (.agg #[.int .i64 0, .int .i64 0, .int .i64 0]) 3 24 Try.underlying31 hj hy0 hy1 hy2 rfl (by omega) _ m (V.mer.flatMap mgCells) rfl Oc90.out (some ⟨uc76.heap.size, 0, none⟩) 1 1 (mgCells ⟨ma, mb, mt⟩) rfl (⟨rfl, fun ad e j u hu => by cases e; rw [addr_add, Kc88.out.cell]; simpa [mgCells] using hu, fun e => by cases e⟩ : SrcN _ (some ⟨uc76.heap.size, 0, none⟩) 1 3 (mgCells ⟨ma, mb, mt⟩)) (by simp [mgCells, Value.oneCell']) (by unfold maxLen; omega) (by omega) ((HBc87.out).size) ?_
             intro vc98 uc92 hwc94 hgc93 hlc97
             obtain ⟨Ac95, cc96, rfl⟩ := own_slice hwc94

             have HBc99 := Lib.hid ((HBc87.out).grown hgc93 ((HBc87.out).size) (fun k e => (Oc90.out.lt k e).1))
             have Gc102 := Lib.hid ((Gc91.out).grown hgc93 (fun e => own_blk_ne Oc90.out Gc91.out (by decide) e.symm))
             have Oc100 := Lib.hid hwc94
             clear hgc93 hwc94 hlc97
             refine hK.out _ _ (⟨below_cells HBc99.out tt0, below_cells HBc99.out tt1, below_cells HBc99.out tt2, below_cells HBc99.out tt3, below_cells HBc99.out tt4⟩) (fun hc38 => ?_)
             clear hK K
             try simp only [Act.put, List.setIfInBounds_toArray, List.set_cons_zero, List.set_cons_succ]
             refine wpAnyH_take (i := 12) (oi := ?oic3912) (v := ?vc3912) ?hic3912 (by kernel_rfl) (by kernel_rfl) (by kernel_rfl) ?hQc3912 (Or.inl ⟨?hwc3912, ?hyc3912⟩) (by assumption) ?restc3912
             case hic3912 => (first | (simp only [List.getElem?_toArray, List.getElem?_cons_zero, List.getElem?_cons_succ]; rfl) | rfl)
             case hQc3912 => exact fun _ _ _ h => h
             case hwc3912 => rfl
             case hyc3912 => ((intro w hSw; go_simp); first | done | with_reducible rfl)
             try simp only [Act.put, List.setIfInBounds_toArray, List.set_cons_zero, List.set_cons_succ]
             refine wpAnyH_ready (rs := [14]) (by kernel_rfl) (by simp) ?_
             refine AllReadyH.cons (o := ?oc40) ?hc40 ?sc40 AllReadyH.nil
             case hc40 => (simp only [List.getElem?_toArray, List.getElem?_cons_zero, List.getElem?_cons_succ]; rfl)
             case sc40 =>
              intro K hK
              have zc1030 := Gc102.out.cell 0
              have zc1031 := Gc102.out.cell 1
              have zc1032 := Gc102.out.frozen 0
              have zc1033 := Gc102.out.frozen 1
              simp only [List.getElem?_toArray, List.getElem?_cons_zero, List.getElem?_cons_succ] at zc1030 zc1031
              go_simp
              have hgec109 : w12.heap.size ≤ uc7.heap.size := GEc83.out
              have kpc104 : Kept (fun i => i = uc7.heap.size) uc92 ((uc92.setCell ⟨uc7.heap.size, 0, none⟩ (.slice (some ad) k ca)).setCell ⟨uc7.heap.size, 1, none⟩ (.slice Ac95 (m + 1) cc96)) := ((Kept.refl (fun i => i = uc7.heap.size) uc92).setCell (p := ⟨uc7.heap.size, 0, none⟩) (.inl rfl) _).setCell (p := ⟨uc7.heap.size, 1, none⟩) (.inl rfl) _
              have HBc105 := Lib.hid (((HBc99.out).setCell (p := ⟨uc7.heap.size, 0, none⟩) hgec109 (.slice (some ad) k ca)).setCell (p := ⟨uc7.heap.size, 1, none⟩) hgec109 (.slice Ac95 (m + 1) cc96))
              have Gc106 := Lib.hid ((Gc102.out.set_ 0 (.slice (some ad) k ca)).set_ 1 (.slice Ac95 (m + 1) cc96))
              have Oc107 := Lib.hid (ownsRow_kept Oc100.out kpc104 (fun g hg e => own_blk_ne Oc100.out Gc102.out (by decide) (by rw [hg, e])))
              clear zc1030 zc1031 zc1032 zc1033 kpc104 hgec109
              refine hK.out _ _ (⟨below_cells HBc105.out tt0, below_cells HBc105.out tt1, below_cells HBc105.out tt2, below_cells HBc105.out tt3, below_cells HBc105.out tt4⟩) (fun hc41 => ?_)
              clear hK K
              try simp only [Act.put, List.setIfInBounds_toArray, List.set_cons_zero, List.set_cons_succ]
              refine wpAnyH_done (by kernel_rfl) ?_ _
              go_wp2_with fail
              go_meet
              case rel => exact ⟨_, Ac95, cc96, rfl, HBc105.out, by have h := Gc106.out; simpa [Blk] using h, MgSee.own (M := V.mer ++ [⟨ma, mb, mt⟩]) (by have h := Oc107.out; rw [List.flatMap_append, List.flatMap_singleton]; exact h) HLM.out (by unfold maxLen; omega) HFM.out⟩
         case sc14 =>
          intro K hK
          go_simp
          obtain ⟨uc110, huc111⟩ : ∃ z, z = uc1.alloc (.cells #[.int .i64 ma, .int .i64 mb, .int .i64 mt] 25) := ⟨_, rfl⟩
          rw [← huc111]
          have hbc112 : Below uc1.heap.size uc1 uc110 := by rw [huc111]; exact (Below.refl _ uc1).alloc (Nat.le_refl _) _
          have HBc113 := Lib.hid ((HBc4.out).trans ((hbc112).mono (HBc4.out).size))
          have Oc116 := Lib.hid (ownsRow_block (Oc5.out) (fun g hg => (hbc112).block g ((Oc5.out).lt g hg).2))
          have Kc114 := Lib.hid ((by rw [huc111]; exact Blk.new uc1 _ _ : Blk uc110 uc1.heap.size 25 #[.int .i64 ma, .int .i64 mb, .int .i64 mt]))
          clear huc111 hbc112
          have ORc117 : Hid (u0c.heap.size < uc1.heap.size) := Lib.hid ((Oc5.out.lt _ rfl).2)
          refine hK.out _ _ (⟨below_cells HBc113.out tt0, below_cells HBc113.out tt1, below_cells HBc113.out tt2, below_cells HBc113.out tt3, below_cells HBc113.out tt4⟩) (fun hc42 => ?_)
          clear hK K
          try simp only [Act.put, List.setIfInBounds_toArray, List.set_cons_zero, List.set_cons_succ]
          refine wpAnyH_ready (rs := [5, 13]) (by kernel_rfl) (by simp) ?_
          refine AllReadyH.cons (o := ?oc43) ?hc43 ?sc43 (AllReadyH.cons (o := ?oc44) ?hc44 ?sc44 AllReadyH.nil)
          case hc43 => (simp only [List.getElem?_toArray, List.getElem?_cons_zero, List.getElem?_cons_succ]; rfl)
          case hc44 => (simp only [List.getElem?_toArray, List.getElem?_cons_zero, List.getElem?_cons_succ]; rfl)
          case sc43 =>
           intro K hK
           have NEKc114 := Lib.hid (show Value.ownBlock (.slice (some ⟨u0c.heap.size, 0, none⟩) 0 0) ≠ some uc1.heap.size from fun e => by have h1 : u0c.heap.size = uc1.heap.size := Option.some.inj e; have := ORc117.out; omega)
           refine step_append_srcN _ rfl (.tmp 102) (.tmp 104) 31 rfl w12.heap.size 25 j0 (.agg #[.int .i64 0, .int .i64 0, .int .i64 0]) 3 24 Try.underlying31 hj hy0 hy1 hy2 rfl (by omega) _ 0 [] rfl Oc116.out (some bd) m cb (V.mer.flatMap mgCells) rfl (HMS.out.src.below HBc113.out) (mgCells_one V.mer) (by unfold maxLen; omega) (by omega) ((HBc113.out).size) ?_
           intro vc124 uc118 hwc120 hgc119 hlc123
           obtain ⟨Ac121, cc122, rfl⟩ := own_slice hwc120
           rw [Nat.zero_add, List.nil_append] at hwc120
           rw [Nat.zero_add]
           have HBc125 := Lib.hid ((HBc113.out).grown hgc119 ((HBc113.out).size) (fun k e => (Oc116.out.lt k e).1))
           have Kc128 := Lib.hid ((Kc114.out).grown hgc119 (fun e => NEKc114.out e.symm))
           have Oc126 := Lib.hid hwc120
           clear hgc119 hwc120 hlc123
           refine hK.out _ _ (⟨below_cells HBc125.out tt0, below_cells HBc125.out tt1, below_cells HBc125.out tt2, below_cells HBc125.out tt3, below_cells HBc125.out tt4⟩) (fun hc45 => ?_)
           clear hK K
           try simp only [Act.put, List.setIfInBounds_toArray, List.set_cons_zero, List.set_cons_succ]
           refine wpAnyH_ready (rs := [11, 13]) (by kernel_rfl) (by simp) ?_
           refine AllReadyH.cons (o := ?oc46) ?hc46 ?sc46 (AllReadyH.cons (o := ?oc47) ?hc47 ?sc47 AllReadyH.nil)
           case hc46 => (simp only [List.getElem?_toArray, List.getElem?_cons_zero, List.getElem?_cons_succ]; rfl)
           case hc47 => (simp only [List.getElem?_toArray, List.getElem?_cons_zero, List.getElem?_cons_succ]; rfl)
           case sc46 =>
            intro K hK
            refine step_append_srcN _ rfl (.tmp 105) (.tmp 110) 31 rfl w12.heap.size 25 j0 (.agg #[.int .i64 0, .int .i64 0, .int .i64 0]) 3 24 Try.underlying31 hj hy0 hy1 hy2 rfl (by omega) _ m (V.mer.flatMap mgCells) rfl Oc126.out (some ⟨uc1.heap.size, 0, none⟩) 1 1 (mgCells ⟨ma, mb, mt⟩) rfl (⟨rfl, fun ad e j u hu => by cases e; rw [addr_add, Kc128.out.cell]; simpa [mgCells] using hu, fun e => by cases e⟩ : SrcN _ (some ⟨uc1.heap.size, 0, none⟩) 1 3 (mgCells ⟨ma, mb, mt⟩)) (by simp [mgCells, Value.oneCell']) (by unfold maxLen; omega) (by omega) ((HBc125.out).size) ?_
            intro vc135 uc129 hwc131 hgc130 hlc134
            obtain ⟨Ac132, cc133, rfl⟩ := own_slice hwc131

            have HBc136 := Lib.hid ((HBc125.out).grown hgc130 ((HBc125.out).size) (fun k e => (Oc126.out.lt k e).1))
            have Oc137 := Lib.hid hwc131
            clear hgc130 hwc131 hlc134
            refine hK.out _ _ (⟨below_cells HBc136.out tt0, below_cells HBc136.out tt1, below_cells HBc136.out tt2, below_cells HBc136.out tt3, below_cells HBc136.out tt4⟩) (fun hc48 => ?_)
            clear hK K
            try simp only [Act.put, List.setIfInBounds_toArray, List.set_cons_zero, List.set_cons_succ]
            refine wpAnyH_take (i := 12) (oi := ?oic4912) (v := ?vc4912) ?hic4912 (by kernel_rfl) (by kernel_rfl) (by kernel_rfl) ?hQc4912 (Or.inl ⟨?hwc4912, ?hyc4912⟩) (by assumption) ?restc4912
            case hic4912 => (first | (simp only [List.getElem?_toArray, List.getElem?_cons_zero, List.getElem?_cons_succ]; rfl) | rfl)
            case hQc4912 => exact fun _ _ _ h => h
            case hwc4912 => rfl
            case hyc4912 => ((intro w hSw; go_simp); first | done | with_reducible rfl)
            try simp only [Act.put, List.setIfInBounds_toArray, List.set_cons_zero, List.set_cons_succ]
            refine wpAnyH_ready (rs := [13]) (by kernel_rfl) (by simp) ?_
            refine AllReadyH.cons (o := ?oc50) ?hc50 ?sc50 AllReadyH.nil
            case hc50 => (simp only [List.getElem?_toArray, List.getElem?_cons_zero, List.getElem?_cons_succ]; rfl)
            case sc50 =>
             intro K hK
             go_simp
             obtain ⟨uc139, huc140⟩ : ∃ z, z = uc129.alloc (.cells #[.slice none 0 0, .slice none 0 0] 33) := ⟨_, rfl⟩
             rw [← huc140]
             have hbc141 : Below uc129.heap.size uc129 uc139 := by rw [huc140]; exact (Below.refl _ uc129).alloc (Nat.le_refl _) _
             have HBc142 := Lib.hid ((HBc136.out).trans ((hbc141).mono (HBc136.out).size))
             have Oc145 := Lib.hid (ownsRow_block (Oc137.out) (fun g hg => (hbc141).block g ((Oc137.out).lt g hg).2))
             have Gc143 := Lib.hid ((by rw [huc140]; exact Blk.new uc129 _ _ : Blk uc139 uc129.heap.size 33 #[.slice none 0 0, .slice none 0 0]))
             clear huc140 hbc141
             have GEc146 := Lib.hid ((HBc136.out).size)
             refine hK.out _ _ (⟨below_cells HBc142.out tt0, below_cells HBc142.out tt1, below_cells HBc142.out tt2, below_cells HBc142.out tt3, below_cells HBc142.out tt4⟩) (fun hc51 => ?_)
             clear hK K
             try simp only [Act.put, List.setIfInBounds_toArray, List.set_cons_zero, List.set_cons_succ]
             refine wpAnyH_ready (rs := [14]) (by kernel_rfl) (by simp) ?_
             refine AllReadyH.cons (o := ?oc52) ?hc52 ?sc52 AllReadyH.nil
             case hc52 => (simp only [List.getElem?_toArray, List.getElem?_cons_zero, List.getElem?_cons_succ]; rfl)
             case sc52 =>
              intro K hK
              have zc1470 := Gc143.out.cell 0
              have zc1471 := Gc143.out.cell 1
              have zc1472 := Gc143.out.frozen 0
              have zc1473 := Gc143.out.frozen 1
              simp only [List.getElem?_toArray, List.getElem?_cons_zero, List.getElem?_cons_succ] at zc1470 zc1471
              go_simp
              have hgec153 : w12.heap.size ≤ uc129.heap.size := GEc146.out
              have kpc148 : Kept (fun i => i = uc129.heap.size) uc139 ((uc139.setCell ⟨uc129.heap.size, 0, none⟩ (.slice (some ad) k ca)).setCell ⟨uc129.heap.size, 1, none⟩ (.slice Ac132 (m + 1) cc133)) := ((Kept.refl (fun i => i = uc129.heap.size) uc139).setCell (p := ⟨uc129.heap.size, 0, none⟩) (.inl rfl) _).setCell (p := ⟨uc129.heap.size, 1, none⟩) (.inl rfl) _
              have HBc149 := Lib.hid (((HBc142.out).setCell (p := ⟨uc129.heap.size, 0, none⟩) hgec153 (.slice (some ad) k ca)).setCell (p := ⟨uc129.heap.size, 1, none⟩) hgec153 (.slice Ac132 (m + 1) cc133))
              have Gc150 := Lib.hid ((Gc143.out.set_ 0 (.slice (some ad) k ca)).set_ 1 (.slice Ac132 (m + 1) cc133))
              have Oc151 := Lib.hid (ownsRow_kept Oc145.out kpc148 (fun g hg e => own_blk_ne Oc145.out Gc143.out (by decide) (by rw [hg, e])))
              clear zc1470 zc1471 zc1472 zc1473 kpc148 hgec153
              refine hK.out _ _ (⟨below_cells HBc149.out tt0, below_cells HBc149.out tt1, below_cells HBc149.out tt2, below_cells HBc149.out tt3, below_cells HBc149.out tt4⟩) (fun hc53 => ?_)
              clear hK K
              try simp only [Act.put, List.setIfInBounds_toArray, List.set_cons_zero, List.set_cons_succ]
              refine wpAnyH_done (by kernel_rfl) ?_ _
              go_wp2_with fail
              go_meet
              case rel => exact ⟨_, Ac132, cc133, rfl, HBc149.out, by have h := Gc150.out; simpa [Blk] using h, MgSee.own (M := V.mer ++ [⟨ma, mb, mt⟩]) (by have h := Oc151.out; rw [List.flatMap_append, List.flatMap_singleton]; exact h) HLM.out (by unfold maxLen; omega) HFM.out⟩
           case sc47 =>
            intro K hK
            go_simp
            obtain ⟨uc154, huc155⟩ : ∃ z, z = uc118.alloc (.cells #[.slice none 0 0, .slice none 0 0] 33) := ⟨_, rfl⟩
            rw [← huc155]
            have hbc156 : Below uc118.heap.size uc118 uc154 := by rw [huc155]; exact (Below.refl _ uc118).alloc (Nat.le_refl _) _
            have HBc157 := Lib.hid ((HBc125.out).trans ((hbc156).mono (HBc125.out).size))
            have Kc160 := Lib.hid ((Kc128.out).below hbc156 (Kc128.out).lt)
            have Oc161 := Lib.hid (ownsRow_block (Oc126.out) (fun g hg => (hbc156).block g ((Oc126.out).lt g hg).2))
            have Gc158 := Lib.hid ((by rw [huc155]; exact Blk.new uc118 _ _ : Blk uc154 uc118.heap.size 33 #[.slice none 0 0, .slice none 0 0]))
            clear huc155 hbc156
            have GEc162 := Lib.hid ((HBc125.out).size)
            refine hK.out _ _ (⟨below_cells HBc157.out tt0, below_cells HBc157.out tt1, below_cells HBc157.out tt2, below_cells HBc157.out tt3, below_cells HBc157.out tt4⟩) (fun hc54 => ?_)
            clear hK K
            try simp only [Act.put, List.setIfInBounds_toArray, List.set_cons_zero, List.set_cons_succ]
            refine wpAnyH_ready (rs := [11]) (by kernel_rfl) (by simp) ?_
            refine AllReadyH.cons (o := ?oc55) ?hc55 ?sc55 AllReadyH.nil
            case hc55 => (simp only [List.getElem?_toArray, List.getElem?_cons_zero, List.getElem?_cons_succ]; rfl)
            case sc55 =>
             intro K hK
             refine step_append_srcN _ rfl (.tmp 105) (.tmp 110) 31 rfl w12.heap.size 25 j0 (.agg #[.int .i64 0, .int .i64 0, .int .i64 0]) 3 24 Try.underlying31 hj hy0 hy1 hy2 rfl (by omega) _ m (V.mer.flatMap mgCells) rfl Oc161.out (some ⟨uc1.heap.size, 0, none⟩) 1 1 (mgCells ⟨ma, mb, mt⟩) rfl (⟨rfl, fun ad e j u hu => by cases e; rw [addr_add, Kc160.out.cell]; simpa [mgCells] using hu, fun e => by cases e⟩ : SrcN _ (some ⟨uc1.heap.size, 0, none⟩) 1 3 (mgCells ⟨ma, mb, mt⟩)) (by simp [mgCells, Value.oneCell']) (by unfold maxLen; omega) (by omega) ((HBc157.out).size) ?_
             intro vc169 uc163 hwc165 hgc164 hlc168
             obtain ⟨Ac166, cc167, rfl⟩ := own_slice hwc165

             have HBc170 := Lib.hid ((HBc157.out).grown hgc164 ((HBc157.out).size) (fun k e => (Oc161.out.lt k e).1))
             have Gc173 := Lib.hid ((Gc158.out).grown hgc164 (fun e => own_blk_ne Oc161.out Gc158.out (by decide) e.symm))
             have Oc171 := Lib.hid hwc165
             clear hgc164 hwc165 hlc168
             refine hK.out _ _ (⟨below_cells HBc170.out tt0, below_cells HBc170.out tt1, below_cells HBc170.out tt2, below_cells HBc170.out tt3, below_cells HBc170.out tt4⟩) (fun hc56 => ?_)
             clear hK K
             try simp only [Act.put, List.setIfInBounds_toArray, List.set_cons_zero, List.set_cons_succ]
             refine wpAnyH_take (i := 12) (oi := ?oic5712) (v := ?vc5712) ?hic5712 (by kernel_rfl) (by kernel_rfl) (by kernel_rfl) ?hQc5712 (Or.inl ⟨?hwc5712, ?hyc5712⟩) (by assumption) ?restc5712
             case hic5712 => (first | (simp only [List.getElem?_toArray, List.getElem?_cons_zero, List.getElem?_cons_succ]; rfl) | rfl)
             case hQc5712 => exact fun _ _ _ h => h
             case hwc5712 => rfl
             case hyc5712 => ((intro w hSw; go_simp); first | done | with_reducible rfl)
             try simp only [Act.put, List.setIfInBounds_toArray, List.set_cons_zero, List.set_cons_succ]
             refine wpAnyH_ready (rs := [14]) (by kernel_rfl) (by simp) ?_
             refine AllReadyH.cons (o := ?oc58) ?hc58 ?sc58 AllReadyH.nil
             case hc58 => (simp only [List.getElem?_toArray, List.getElem?_cons_zero, List.getElem?_cons_succ]; rfl)
             case sc58 =>
              intro K hK
              have zc1740 := Gc173.out.cell 0
              have zc1741 := Gc173.out.cell 1
              have zc1742 := Gc173.out.frozen 0
              have zc1743 := Gc173.out.frozen 1
              simp only [List.getElem?_toArray, List.getElem?_cons_zero, List.getElem?_cons_succ] at zc1740 zc1741
              go_simp
              have hgec180 : w12.heap.size ≤ uc118.heap.size := GEc162.out
              have kpc175 : Kept (fun i => i = uc118.heap.size) uc163 ((uc163.setCell ⟨uc118.heap.size, 0, none⟩ (.slice (some ad) k ca)).setCell ⟨uc118.heap.size, 1, none⟩ (.slice Ac166 (m + 1) cc167)) := ((Kept.refl (fun i => i = uc118.heap.size) uc163).setCell (p := ⟨uc118.heap.size, 0, none⟩) (.inl rfl) _).setCell (p := ⟨uc118.heap.size, 1, none⟩) (.inl rfl) _
              have HBc176 := Lib.hid (((HBc170.out).setCell (p := ⟨uc118.heap.size, 0, none⟩) hgec180 (.slice (some ad) k ca)).setCell (p := ⟨uc118.heap.size, 1, none⟩) hgec180 (.slice Ac166 (m + 1) cc167))
              have Gc177 := Lib.hid ((Gc173.out.set_ 0 (.slice (some ad) k ca)).set_ 1 (.slice Ac166 (m + 1) cc167))
              have Oc178 := Lib.hid (ownsRow_kept Oc171.out kpc175 (fun g hg e => own_blk_ne Oc171.out Gc173.out (by decide) (by rw [hg, e])))
              clear zc1740 zc1741 zc1742 zc1743 kpc175 hgec180
              refine hK.out _ _ (⟨below_cells HBc176.out tt0, below_cells HBc176.out tt1, below_cells HBc176.out tt2, below_cells HBc176.out tt3, below_cells HBc176.out tt4⟩) (fun hc59 => ?_)
              clear hK K
              try simp only [Act.put, List.setIfInBounds_toArray, List.set_cons_zero, List.set_cons_succ]
              refine wpAnyH_done (by kernel_rfl) ?_ _
              go_wp2_with fail
              go_meet
              case rel => exact ⟨_, Ac166, cc167, rfl, HBc176.out, by have h := Gc177.out; simpa [Blk] using h, MgSee.own (M := V.mer ++ [⟨ma, mb, mt⟩]) (by have h := Oc178.out; rw [List.flatMap_append, List.flatMap_singleton]; exact h) HLM.out (by unfold maxLen; omega) HFM.out⟩
          case sc44 =>
           intro K hK
           go_simp
           obtain ⟨uc181, huc182⟩ : ∃ z, z = uc110.alloc (.cells #[.slice none 0 0, .slice none 0 0] 33) := ⟨_, rfl⟩
           rw [← huc182]
           have hbc183 : Below uc110.heap.size uc110 uc181 := by rw [huc182]; exact (Below.refl _ uc110).alloc (Nat.le_refl _) _
           have HBc184 := Lib.hid ((HBc113.out).trans ((hbc183).mono (HBc113.out).size))
           have Oc187 := Lib.hid (ownsRow_block (Oc116.out) (fun g hg => (hbc183).block g ((Oc116.out).lt g hg).2))
           have Kc188 := Lib.hid ((Kc114.out).below hbc183 (Kc114.out).lt)
           have Gc185 := Lib.hid ((by rw [huc182]; exact Blk.new uc110 _ _ : Blk uc181 uc110.heap.size 33 #[.slice none 0 0, .slice none 0 0]))
           clear huc182 hbc183
           have GEc189 := Lib.hid ((HBc113.out).size)
           refine hK.out _ _ (⟨below_cells HBc184.out tt0, below_cells HBc184.out tt1, below_cells HBc184.out tt2, below_cells HBc184.out tt3, below_cells HBc184.out tt4⟩) (fun hc60 => ?_)
           clear hK K
           try simp only [Act.put, List.setIfInBounds_toArray, List.set_cons_zero, List.set_cons_succ]
           refine wpAnyH_ready (rs := [5]) (by kernel_rfl) (by simp) ?_
           refine AllReadyH.cons (o := ?oc61) ?hc61 ?sc61 AllReadyH.nil
           case hc61 => (simp only [List.getElem?_toArray, List.getElem?_cons_zero, List.getElem?_cons_succ]; rfl)
           case sc61 =>
            intro K hK
            have NEKc188 := Lib.hid (show Value.ownBlock (.slice (some ⟨u0c.heap.size, 0, none⟩) 0 0) ≠ some uc1.heap.size from fun e => by have h1 : u0c.heap.size = uc1.heap.size := Option.some.inj e; have := ORc117.out; omega)
            refine step_append_srcN _ rfl (.tmp 102) (.tmp 104) 31 rfl w12.heap.size 25 j0 (.agg #[.int .i64 0, .int .i64 0, .int .i64 0]) 3 24 Try.underlying31 hj hy0 hy1 hy2 rfl (by omega) _ 0 [] rfl Oc187.out (some bd) m cb (V.mer.flatMap mgCells) rfl (HMS.out.src.below HBc184.out) (mgCells_one V.mer) (by unfold maxLen; omega) (by omega) ((HBc184.out).size) ?_
            intro vc196 uc190 hwc192 hgc191 hlc195
            obtain ⟨Ac193, cc194, rfl⟩ := own_slice hwc192
            rw [Nat.zero_add, List.nil_append] at hwc192
            rw [Nat.zero_add]
            have HBc197 := Lib.hid ((HBc184.out).grown hgc191 ((HBc184.out).size) (fun k e => (Oc187.out.lt k e).1))
            have Kc200 := Lib.hid ((Kc188.out).grown hgc191 (fun e => NEKc188.out e.symm))
            have Gc201 := Lib.hid ((Gc185.out).grown hgc191 (fun e => own_blk_ne Oc187.out Gc185.out (by decide) e.symm))
            have Oc198 := Lib.hid hwc192
            clear hgc191 hwc192 hlc195
            refine hK.out _ _ (⟨below_cells HBc197.out tt0, below_cells HBc197.out tt1, below_cells HBc197.out tt2, below_cells HBc197.out tt3, below_cells HBc197.out tt4⟩) (fun hc62 => ?_)
            clear hK K
            try simp only [Act.put, List.setIfInBounds_toArray, List.set_cons_zero, List.set_cons_succ]
            refine wpAnyH_ready (rs := [11]) (by kernel_rfl) (by simp) ?_
            refine AllReadyH.cons (o := ?oc63) ?hc63 ?sc63 AllReadyH.nil
            case hc63 => (simp only [List.getElem?_toArray, List.getElem?_cons_zero, List.getElem?_cons_succ]; rfl)
            case sc63 =>
             intro K hK
             refine step_append_srcN _ rfl (.tmp 105) (.tmp 110) 31 rfl w12.heap.size 25 j0 (.agg #[.int .i64 0, .int .i64 0, .int .i64 0]) 3 24 Try.underlying31 hj hy0 hy1 hy2 rfl (by omega) _ m (V.mer.flatMap mgCells) rfl Oc198.out (some ⟨uc1.heap.size, 0, none⟩) 1 1 (mgCells ⟨ma, mb, mt⟩) rfl (⟨rfl, fun ad e j u hu => by cases e; rw [addr_add, Kc200.out.cell]; simpa [mgCells] using hu, fun e => by cases e⟩ : SrcN _ (some ⟨uc1.heap.size, 0, none⟩) 1 3 (mgCells ⟨ma, mb, mt⟩)) (by simp [mgCells, Value.oneCell']) (by unfold maxLen; omega) (by omega) ((HBc197.out).size) ?_
             intro vc208 uc202 hwc204 hgc203 hlc207
             obtain ⟨Ac205, cc206, rfl⟩ := own_slice hwc204

             have HBc209 := Lib.hid ((HBc197.out).grown hgc203 ((HBc197.out).size) (fun k e => (Oc198.out.lt k e).1))
             have Gc212 := Lib.hid ((Gc201.out).grown hgc203 (fun e => own_blk_ne Oc198.out Gc201.out (by decide) e.symm))
             have Oc210 := Lib.hid hwc204
             clear hgc203 hwc204 hlc207
             refine hK.out _ _ (⟨below_cells HBc209.out tt0, below_cells HBc209.out tt1, below_cells HBc209.out tt2, below_cells HBc209.out tt3, below_cells HBc209.out tt4⟩) (fun hc64 => ?_)
             clear hK K
             try simp only [Act.put, List.setIfInBounds_toArray, List.set_cons_zero, List.set_cons_succ]
             refine wpAnyH_take (i := 12) (oi := ?oic6512) (v := ?vc6512) ?hic6512 (by kernel_rfl) (by kernel_rfl) (by kernel_rfl) ?hQc6512 (Or.inl ⟨?hwc6512, ?hyc6512⟩) (by assumption) ?restc6512
             case hic6512 => (first | (simp only [List.getElem?_toArray, List.getElem?_cons_zero, List.getElem?_cons_succ]; rfl) | rfl)
             case hQc6512 => exact fun _ _ _ h => h
             case hwc6512 => rfl
             case hyc6512 => ((intro w hSw; go_simp); first | done | with_reducible rfl)
             try simp only [Act.put, List.setIfInBounds_toArray, List.set_cons_zero, List.set_cons_succ]
             refine wpAnyH_ready (rs := [14]) (by kernel_rfl) (by simp) ?_
             refine AllReadyH.cons (o := ?oc66) ?hc66 ?sc66 AllReadyH.nil
             case hc66 => (simp only [List.getElem?_toArray, List.getElem?_cons_zero, List.getElem?_cons_succ]; rfl)
             case sc66 =>
              intro K hK
              have zc2130 := Gc212.out.cell 0
              have zc2131 := Gc212.out.cell 1
              have zc2132 := Gc212.out.frozen 0
              have zc2133 := Gc212.out.frozen 1
              simp only [List.getElem?_toArray, List.getElem?_cons_zero, List.getElem?_cons_succ] at zc2130 zc2131
              go_simp
              have hgec219 : w12.heap.size ≤ uc110.heap.size := GEc189.out
              have kpc214 : Kept (fun i => i = uc110.heap.size) uc202 ((uc202.setCell ⟨uc110.heap.size, 0, none⟩ (.slice (some ad) k ca)).setCell ⟨uc110.heap.size, 1, none⟩ (.slice Ac205 (m + 1) cc206)) := ((Kept.refl (fun i => i = uc110.heap.size) uc202).setCell (p := ⟨uc110.heap.size, 0, none⟩) (.inl rfl) _).setCell (p := ⟨uc110.heap.size, 1, none⟩) (.inl rfl) _
              have HBc215 := Lib.hid (((HBc209.out).setCell (p := ⟨uc110.heap.size, 0, none⟩) hgec219 (.slice (some ad) k ca)).setCell (p := ⟨uc110.heap.size, 1, none⟩) hgec219 (.slice Ac205 (m + 1) cc206))
              have Gc216 := Lib.hid ((Gc212.out.set_ 0 (.slice (some ad) k ca)).set_ 1 (.slice Ac205 (m + 1) cc206))
              have Oc217 := Lib.hid (ownsRow_kept Oc210.out kpc214 (fun g hg e => own_blk_ne Oc210.out Gc212.out (by decide) (by rw [hg, e])))
              clear zc2130 zc2131 zc2132 zc2133 kpc214 hgec219
              refine hK.out _ _ (⟨below_cells HBc215.out tt0, below_cells HBc215.out tt1, below_cells HBc215.out tt2, below_cells HBc215.out tt3, below_cells HBc215.out tt4⟩) (fun hc67 => ?_)
              clear hK K
              try simp only [Act.put, List.setIfInBounds_toArray, List.set_cons_zero, List.set_cons_succ]
              refine wpAnyH_done (by kernel_rfl) ?_ _
              go_wp2_with fail
              go_meet
              case rel => exact ⟨_, Ac205, cc206, rfl, HBc215.out, by have h := Gc216.out; simpa [Blk] using h, MgSee.own (M := V.mer ++ [⟨ma, mb, mt⟩]) (by have h := Oc217.out; rw [List.flatMap_append, List.flatMap_singleton]; exact h) HLM.out (by unfold maxLen; omega) HFM.out⟩
         case sc15 =>
          intro K hK
          go_simp
          obtain ⟨uc220, huc221⟩ : ∃ z, z = uc1.alloc (.cells #[.slice none 0 0, .slice none 0 0] 33) := ⟨_, rfl⟩
          rw [← huc221]
          have hbc222 : Below uc1.heap.size uc1 uc220 := by rw [huc221]; exact (Below.refl _ uc1).alloc (Nat.le_refl _) _
          have HBc223 := Lib.hid ((HBc4.out).trans ((hbc222).mono (HBc4.out).size))
          have Oc226 := Lib.hid (ownsRow_block (Oc5.out) (fun g hg => (hbc222).block g ((Oc5.out).lt g hg).2))
          have Gc224 := Lib.hid ((by rw [huc221]; exact Blk.new uc1 _ _ : Blk uc220 uc1.heap.size 33 #[.slice none 0 0, .slice none 0 0]))
          clear huc221 hbc222
          have GEc227 := Lib.hid ((HBc4.out).size)
          refine hK.out _ _ (⟨below_cells HBc223.out tt0, below_cells HBc223.out tt1, below_cells HBc223.out tt2, below_cells HBc223.out tt3, below_cells HBc223.out tt4⟩) (fun hc68 => ?_)
          clear hK K
          try simp only [Act.put, List.setIfInBounds_toArray, List.set_cons_zero, List.set_cons_succ]
          refine wpAnyH_ready (rs := [5, 10]) (by kernel_rfl) (by simp) ?_
          refine AllReadyH.cons (o := ?oc69) ?hc69 ?sc69 (AllReadyH.cons (o := ?oc70) ?hc70 ?sc70 AllReadyH.nil)
          case hc69 => (simp only [List.getElem?_toArray, List.getElem?_cons_zero, List.getElem?_cons_succ]; rfl)
          case hc70 => (simp only [List.getElem?_toArray, List.getElem?_cons_zero, List.getElem?_cons_succ]; rfl)
          case sc69 =>
           intro K hK
           refine step_append_srcN _ rfl (.tmp 102) (.tmp 104) 31 rfl w12.heap.size 25 j0 (.agg #[.int .i64 0, .int .i64 0, .int .i64 0]) 3 24 Try.underlying31 hj hy0 hy1 hy2 rfl (by omega) _ 0 [] rfl Oc226.out (some bd) m cb (V.mer.flatMap mgCells) rfl (HMS.out.src.below HBc223.out) (mgCells_one V.mer) (by unfold maxLen; omega) (by omega) ((HBc223.out).size) ?_
           intro vc234 uc228 hwc230 hgc229 hlc233
           obtain ⟨Ac231, cc232, rfl⟩ := own_slice hwc230
           rw [Nat.zero_add, List.nil_append] at hwc230
           rw [Nat.zero_add]
           have HBc235 := Lib.hid ((HBc223.out).grown hgc229 ((HBc223.out).size) (fun k e => (Oc226.out.lt k e).1))
           have Gc238 := Lib.hid ((Gc224.out).grown hgc229 (fun e => own_blk_ne Oc226.out Gc224.out (by decide) e.symm))
           have Oc236 := Lib.hid hwc230
           clear hgc229 hwc230 hlc233
           refine hK.out _ _ (⟨below_cells HBc235.out tt0, below_cells HBc235.out tt1, below_cells HBc235.out tt2, below_cells HBc235.out tt3, below_cells HBc235.out tt4⟩) (fun hc71 => ?_)
           clear hK K
           try simp only [Act.put, List.setIfInBounds_toArray, List.set_cons_zero, List.set_cons_succ]
           refine wpAnyH_ready (rs := [10]) (by kernel_rfl) (by simp) ?_
           refine AllReadyH.cons (o := ?oc72) ?hc72 ?sc72 AllReadyH.nil
           case hc72 => (simp only [List.getElem?_toArray, List.getElem?_cons_zero, List.getElem?_cons_succ]; rfl)
           case sc72 =>
            intro K hK
            go_simp
            obtain ⟨uc239, huc240⟩ : ∃ z, z = uc228.alloc (.cells #[.int .i64 ma, .int .i64 mb, .int .i64 mt] 25) := ⟨_, rfl⟩
            rw [← huc240]
            have hbc241 : Below uc228.heap.size uc228 uc239 := by rw [huc240]; exact (Below.refl _ uc228).alloc (Nat.le_refl _) _
            have HBc242 := Lib.hid ((HBc235.out).trans ((hbc241).mono (HBc235.out).size))
            have Gc245 := Lib.hid ((Gc238.out).below hbc241 (Gc238.out).lt)
            have Oc246 := Lib.hid (ownsRow_block (Oc236.out) (fun g hg => (hbc241).block g ((Oc236.out).lt g hg).2))
            have Kc243 := Lib.hid ((by rw [huc240]; exact Blk.new uc228 _ _ : Blk uc239 uc228.heap.size 25 #[.int .i64 ma, .int .i64 mb, .int .i64 mt]))
            clear huc240 hbc241
            refine hK.out _ _ (⟨below_cells HBc242.out tt0, below_cells HBc242.out tt1, below_cells HBc242.out tt2, below_cells HBc242.out tt3, below_cells HBc242.out tt4⟩) (fun hc73 => ?_)
            clear hK K
            try simp only [Act.put, List.setIfInBounds_toArray, List.set_cons_zero, List.set_cons_succ]
            refine wpAnyH_ready (rs := [11]) (by kernel_rfl) (by simp) ?_
            refine AllReadyH.cons (o := ?oc74) ?hc74 ?sc74 AllReadyH.nil
            case hc74 => (simp only [List.getElem?_toArray, List.getElem?_cons_zero, List.getElem?_cons_succ]; rfl)
            case sc74 =>
             intro K hK
             refine step_append_srcN _ rfl (.tmp 105) (.tmp 110) 31 rfl w12.heap.size 25 j0 (.agg #[.int .i64 0, .int .i64 0, .int .i64 0]) 3 24 Try.underlying31 hj hy0 hy1 hy2 rfl (by omega) _ m (V.mer.flatMap mgCells) rfl Oc246.out (some ⟨uc228.heap.size, 0, none⟩) 1 1 (mgCells ⟨ma, mb, mt⟩) rfl (⟨rfl, fun ad e j u hu => by cases e; rw [addr_add, Kc243.out.cell]; simpa [mgCells] using hu, fun e => by cases e⟩ : SrcN _ (some ⟨uc228.heap.size, 0, none⟩) 1 3 (mgCells ⟨ma, mb, mt⟩)) (by simp [mgCells, Value.oneCell']) (by unfold maxLen; omega) (by omega) ((HBc242.out).size) ?_
             intro vc253 uc247 hwc249 hgc248 hlc252
             obtain ⟨Ac250, cc251, rfl⟩ := own_slice hwc249

             have HBc254 := Lib.hid ((HBc242.out).grown hgc248 ((HBc242.out).size) (fun k e => (Oc246.out.lt k e).1))
             have Gc257 := Lib.hid ((Gc245.out).grown hgc248 (fun e => own_blk_ne Oc246.out Gc245.out (by decide) e.symm))
             have Oc255 := Lib.hid hwc249
             clear hgc248 hwc249 hlc252
             refine hK.out _ _ (⟨below_cells HBc254.out tt0, below_cells HBc254.out tt1, below_cells HBc254.out tt2, below_cells HBc254.out tt3, below_cells HBc254.out tt4⟩) (fun hc75 => ?_)
             clear hK K
             try simp only [Act.put, List.setIfInBounds_toArray, List.set_cons_zero, List.set_cons_succ]
             refine wpAnyH_take (i := 12) (oi := ?oic7612) (v := ?vc7612) ?hic7612 (by kernel_rfl) (by kernel_rfl) (by kernel_rfl) ?hQc7612 (Or.inl ⟨?hwc7612, ?hyc7612⟩) (by assumption) ?restc7612
             case hic7612 => (first | (simp only [List.getElem?_toArray, List.getElem?_cons_zero, List.getElem?_cons_succ]; rfl) | rfl)
             case hQc7612 => exact fun _ _ _ h => h
             case hwc7612 => rfl
             case hyc7612 => ((intro w hSw; go_simp); first | done | with_reducible rfl)
             try simp only [Act.put, List.setIfInBounds_toArray, List.set_cons_zero, List.set_cons_succ]
             refine wpAnyH_ready (rs := [14]) (by kernel_rfl) (by simp) ?_
             refine AllReadyH.cons (o := ?oc77) ?hc77 ?sc77 AllReadyH.nil
             case hc77 => (simp only [List.getElem?_toArray, List.getElem?_cons_zero, List.getElem?_cons_succ]; rfl)
             case sc77 =>
              intro K hK
              have zc2580 := Gc257.out.cell 0
              have zc2581 := Gc257.out.cell 1
              have zc2582 := Gc257.out.frozen 0
              have zc2583 := Gc257.out.frozen 1
              simp only [List.getElem?_toArray, List.getElem?_cons_zero, List.getElem?_cons_succ] at zc2580 zc2581
              go_simp
              have hgec264 : w12.heap.size ≤ uc1.heap.size := GEc227.out
              have kpc259 : Kept (fun i => i = uc1.heap.size) uc247 ((uc247.setCell ⟨uc1.heap.size, 0, none⟩ (.slice (some ad) k ca)).setCell ⟨uc1.heap.size, 1, none⟩ (.slice Ac250 (m + 1) cc251)) := ((Kept.refl (fun i => i = uc1.heap.size) uc247).setCell (p := ⟨uc1.heap.size, 0, none⟩) (.inl rfl) _).setCell (p := ⟨uc1.heap.size, 1, none⟩) (.inl rfl) _
              have HBc260 := Lib.hid (((HBc254.out).setCell (p := ⟨uc1.heap.size, 0, none⟩) hgec264 (.slice (some ad) k ca)).setCell (p := ⟨uc1.heap.size, 1, none⟩) hgec264 (.slice Ac250 (m + 1) cc251))
              have Gc261 := Lib.hid ((Gc257.out.set_ 0 (.slice (some ad) k ca)).set_ 1 (.slice Ac250 (m + 1) cc251))
              have Oc262 := Lib.hid (ownsRow_kept Oc255.out kpc259 (fun g hg e => own_blk_ne Oc255.out Gc257.out (by decide) (by rw [hg, e])))
              clear zc2580 zc2581 zc2582 zc2583 kpc259 hgec264
              refine hK.out _ _ (⟨below_cells HBc260.out tt0, below_cells HBc260.out tt1, below_cells HBc260.out tt2, below_cells HBc260.out tt3, below_cells HBc260.out tt4⟩) (fun hc78 => ?_)
              clear hK K
              try simp only [Act.put, List.setIfInBounds_toArray, List.set_cons_zero, List.set_cons_succ]
              refine wpAnyH_done (by kernel_rfl) ?_ _
              go_wp2_with fail
              go_meet
              case rel => exact ⟨_, Ac250, cc251, rfl, HBc260.out, by have h := Gc261.out; simpa [Blk] using h, MgSee.own (M := V.mer ++ [⟨ma, mb, mt⟩]) (by have h := Oc262.out; rw [List.flatMap_append, List.flatMap_singleton]; exact h) HLM.out (by unfold maxLen; omega) HFM.out⟩
          case sc70 =>
           intro K hK
           go_simp
           obtain ⟨uc265, huc266⟩ : ∃ z, z = uc220.alloc (.cells #[.int .i64 ma, .int .i64 mb, .int .i64 mt] 25) := ⟨_, rfl⟩
           rw [← huc266]
           have hbc267 : Below uc220.heap.size uc220 uc265 := by rw [huc266]; exact (Below.refl _ uc220).alloc (Nat.le_refl _) _
           have HBc268 := Lib.hid ((HBc223.out).trans ((hbc267).mono (HBc223.out).size))
           have Oc271 := Lib.hid (ownsRow_block (Oc226.out) (fun g hg => (hbc267).block g ((Oc226.out).lt g hg).2))
           have Gc272 := Lib.hid ((Gc224.out).below hbc267 (Gc224.out).lt)
           have Kc269 := Lib.hid ((by rw [huc266]; exact Blk.new uc220 _ _ : Blk uc265 uc220.heap.size 25 #[.int .i64 ma, .int .i64 mb, .int .i64 mt]))
           clear huc266 hbc267
           have ORc273 : Hid (u0c.heap.size < uc220.heap.size) := Lib.hid ((Oc226.out.lt _ rfl).2)
           refine hK.out _ _ (⟨below_cells HBc268.out tt0, below_cells HBc268.out tt1, below_cells HBc268.out tt2, below_cells HBc268.out tt3, below_cells HBc268.out tt4⟩) (fun hc79 => ?_)
           clear hK K
           try simp only [Act.put, List.setIfInBounds_toArray, List.set_cons_zero, List.set_cons_succ]
           refine wpAnyH_ready (rs := [5]) (by kernel_rfl) (by simp) ?_
           refine AllReadyH.cons (o := ?oc80) ?hc80 ?sc80 AllReadyH.nil
           case hc80 => (simp only [List.getElem?_toArray, List.getElem?_cons_zero, List.getElem?_cons_succ]; rfl)
           case sc80 =>
            intro K hK
            have NEKc269 := Lib.hid (show Value.ownBlock (.slice (some ⟨u0c.heap.size, 0, none⟩) 0 0) ≠ some uc220.heap.size from fun e => by have h1 : u0c.heap.size = uc220.heap.size := Option.some.inj e; have := ORc273.out; omega)
            refine step_append_srcN _ rfl (.tmp 102) (.tmp 104) 31 rfl w12.heap.size 25 j0 (.agg #[.int .i64 0, .int .i64 0, .int .i64 0]) 3 24 Try.underlying31 hj hy0 hy1 hy2 rfl (by omega) _ 0 [] rfl Oc271.out (some bd) m cb (V.mer.flatMap mgCells) rfl (HMS.out.src.below HBc268.out) (mgCells_one V.mer) (by unfold maxLen; omega) (by omega) ((HBc268.out).size) ?_
            intro vc280 uc274 hwc276 hgc275 hlc279
            obtain ⟨Ac277, cc278, rfl⟩ := own_slice hwc276
            rw [Nat.zero_add, List.nil_append] at hwc276
            rw [Nat.zero_add]
            have HBc281 := Lib.hid ((HBc268.out).grown hgc275 ((HBc268.out).size) (fun k e => (Oc271.out.lt k e).1))
            have Kc284 := Lib.hid ((Kc269.out).grown hgc275 (fun e => NEKc269.out e.symm))
            have Gc285 := Lib.hid ((Gc272.out).grown hgc275 (fun e => own_blk_ne Oc271.out Gc272.out (by decide) e.symm))
            have Oc282 := Lib.hid hwc276
            clear hgc275 hwc276 hlc279
            refine hK.out _ _ (⟨below_cells HBc281.out tt0, below_cells HBc281.out tt1, below_cells HBc281.out tt2, below_cells HBc281.out tt3, below_cells HBc281.out tt4⟩) (fun hc81 => ?_)
            clear hK K
            try simp only [Act.put, List.setIfInBounds_toArray, List.set_cons_zero, List.set_cons_succ]
            refine wpAnyH_ready (rs := [11]) (by kernel_rfl) (by simp) ?_
            refine AllReadyH.cons (o := ?oc82) ?hc82 ?sc82 AllReadyH.nil
            case hc82 => (simp only [List.getElem?_toArray, List.getElem?_cons_zero, List.getElem?_cons_succ]; rfl)
            case sc82 =>
             intro K hK
             refine step_append_srcN _ rfl (.tmp 105) (.tmp 110) 31 rfl w12.heap.size 25 j0 (.agg #[.int .i64 0, .int .i64 0, .int .i64 0]) 3 24 Try.underlying31 hj hy0 hy1 hy2 rfl (by omega) _ m (V.mer.flatMap mgCells) rfl Oc282.out (some ⟨uc220.heap.size, 0, none⟩) 1 1 (mgCells ⟨ma, mb, mt⟩) rfl (⟨rfl, fun ad e j u hu => by cases e; rw [addr_add, Kc284.out.cell]; simpa [mgCells] using hu, fun e => by cases e⟩ : SrcN _ (some ⟨uc220.heap.size, 0, none⟩) 1 3 (mgCells ⟨ma, mb, mt⟩)) (by simp [mgCells, Value.oneCell']) (by unfold maxLen; omega) (by omega) ((HBc281.out).size) ?_
             intro vc292 uc286 hwc288 hgc287 hlc291
             obtain ⟨Ac289, cc290, rfl⟩ := own_slice hwc288

             have HBc293 := Lib.hid ((HBc281.out).grown hgc287 ((HBc281.out).size) (fun k e => (Oc282.out.lt k e).1))
             have Gc296 := Lib.hid ((Gc285.out).grown hgc287 (fun e => own_blk_ne Oc282.out Gc285.out (by decide) e.symm))
             have Oc294 := Lib.hid hwc288
             clear hgc287 hwc288 hlc291
             refine hK.out _ _ (⟨below_cells HBc293.out tt0, below_cells HBc293.out tt1, below_cells HBc293.out tt2, below_cells HBc293.out tt3, below_cells HBc293.out tt4⟩) (fun hc83 => ?_)
             clear hK K
             try simp only [Act.put, List.setIfInBounds_toArray, List.set_cons_zero, List.set_cons_succ]
             refine wpAnyH_take (i := 12) (oi := ?oic8412) (v := ?vc8412) ?hic8412 (by kernel_rfl) (by kernel_rfl) (by kernel_rfl) ?hQc8412 (Or.inl ⟨?hwc8412, ?hyc8412⟩) (by assumption) ?restc8412
             case hic8412 => (first | (simp only [List.getElem?_toArray, List.getElem?_cons_zero, List.getElem?_cons_succ]; rfl) | rfl)
             case hQc8412 => exact fun _ _ _ h => h
             case hwc8412 => rfl
             case hyc8412 => ((intro w hSw; go_simp); first | done | with_reducible rfl)
             try simp only [Act.put, List.setIfInBounds_toArray, List.set_cons_zero, List.set_cons_succ]
             refine wpAnyH_ready (rs := [14]) (by kernel_rfl) (by simp) ?_
             refine AllReadyH.cons (o := ?oc85) ?hc85 ?sc85 AllReadyH.nil
             case hc85 => (simp only [List.getElem?_toArray, List.getElem?_cons_zero, List.getElem?_cons_succ]; rfl)
             case sc85 =>
              intro K hK
              have zc2970 := Gc296.out.cell 0
              have zc2971 := Gc296.out.cell 1
              have zc2972 := Gc296.out.frozen 0
              have zc2973 := Gc296.out.frozen 1
              simp only [List.getElem?_toArray, List.getElem?_cons_zero, List.getElem?_cons_succ] at zc2970 zc2971
              go_simp
              have hgec303 : w12.heap.size ≤ uc1.heap.size := GEc227.out
              have kpc298 : Kept (fun i => i = uc1.heap.size) uc286 ((uc286.setCell ⟨uc1.heap.size, 0, none⟩ (.slice (some ad) k ca)).setCell ⟨uc1.heap.size, 1, none⟩ (.slice Ac289 (m + 1) cc290)) := ((Kept.refl (fun i => i = uc1.heap.size) uc286).setCell (p := ⟨uc1.heap.size, 0, none⟩) (.inl rfl) _).setCell (p := ⟨uc1.heap.size, 1, none⟩) (.inl rfl) _
              have HBc299 := Lib.hid (((HBc293.out).setCell (p := ⟨uc1.heap.size, 0, none⟩) hgec303 (.slice (some ad) k ca)).setCell (p := ⟨uc1.heap.size, 1, none⟩) hgec303 (.slice Ac289 (m + 1) cc290))
              have Gc300 := Lib.hid ((Gc296.out.set_ 0 (.slice (some ad) k ca)).set_ 1 (.slice Ac289 (m + 1) cc290))
              have Oc301 := Lib.hid (ownsRow_kept Oc294.out kpc298 (fun g hg e => own_blk_ne Oc294.out Gc296.out (by decide) (by rw [hg, e])))
              clear zc2970 zc2971 zc2972 zc2973 kpc298 hgec303
              refine hK.out _ _ (⟨below_cells HBc299.out tt0, below_cells HBc299.out tt1, below_cells HBc299.out tt2, below_cells HBc299.out tt3, below_cells HBc299.out tt4⟩) (fun hc86 => ?_)
              clear hK K
              try simp only [Act.put, List.setIfInBounds_toArray, List.set_cons_zero, List.set_cons_succ]
              refine wpAnyH_done (by kernel_rfl) ?_ _
              go_wp2_with fail
              go_meet
              case rel => exact ⟨_, Ac289, cc290, rfl, HBc299.out, by have h := Gc300.out; simpa [Blk] using h, MgSee.own (M := V.mer ++ [⟨ma, mb, mt⟩]) (by have h := Oc301.out; rw [List.flatMap_append, List.flatMap_singleton]; exact h) HLM.out (by unfold maxLen; omega) HFM.out⟩
        case sc10 =>
         intro K hK
         go_simp
         obtain ⟨uc304, huc305⟩ : ∃ z, z = u0c.alloc (.cells #[.int .i64 ma, .int .i64 mb, .int .i64 mt] 25) := ⟨_, rfl⟩
         rw [← huc305]
         have hbc306 : Below u0c.heap.size u0c uc304 := by rw [huc305]; exact (Below.refl _ u0c).alloc (Nat.le_refl _) _
         have HBc307 := Lib.hid ((HBWc.out).trans ((hbc306).mono (HBWc.out).size))
         have Kc308 := Lib.hid ((by rw [huc305]; exact Blk.new u0c _ _ : Blk uc304 u0c.heap.size 25 #[.int .i64 ma, .int .i64 mb, .int .i64 mt]))
         clear huc305 hbc306
         refine hK.out _ _ (⟨below_cells HBc307.out tt0, below_cells HBc307.out tt1, below_cells HBc307.out tt2, below_cells HBc307.out tt3, below_cells HBc307.out tt4⟩) (fun hc87 => ?_)
         clear hK K
         try simp only [Act.put, List.setIfInBounds_toArray, List.set_cons_zero, List.set_cons_succ]
         refine wpAnyH_ready (rs := [2, 13]) (by kernel_rfl) (by simp) ?_
         refine AllReadyH.cons (o := ?oc88) ?hc88 ?sc88 (AllReadyH.cons (o := ?oc89) ?hc89 ?sc89 AllReadyH.nil)
         case hc88 => (simp only [List.getElem?_toArray, List.getElem?_cons_zero, List.getElem?_cons_succ]; rfl)
         case hc89 => (simp only [List.getElem?_toArray, List.getElem?_cons_zero, List.getElem?_cons_succ]; rfl)
         case sc88 =>
          intro K hK
          go_simp
          obtain ⟨uc310, huc311⟩ : ∃ z, z = uc304.alloc (.cells #[] 25) := ⟨_, rfl⟩
          rw [← huc311]
          have hbc312 : Below uc304.heap.size uc304 uc310 := by rw [huc311]; exact (Below.refl _ uc304).alloc (Nat.le_refl _) _
          have HBc313 := Lib.hid ((HBc307.out).trans ((hbc312).mono (HBc307.out).size))
          have Kc316 := Lib.hid ((Kc308.out).below hbc312 (Kc308.out).lt)
          have Oc314 := Lib.hid ((by rw [huc311]; exact World.ownsRow_made uc304 #[] 0 (HBc307.out).size (Nat.zero_le _) rfl : World.ownsRow uc310 w12.heap.size 25 3 (.slice (some ⟨uc304.heap.size, 0, none⟩) 0 0) 0 []))
          clear huc311 hbc312
          have ORc317 : Hid (u0c.heap.size < uc304.heap.size) := Lib.hid (Kc308.out.lt)
          refine hK.out _ _ (⟨below_cells HBc313.out tt0, below_cells HBc313.out tt1, below_cells HBc313.out tt2, below_cells HBc313.out tt3, below_cells HBc313.out tt4⟩) (fun hc90 => ?_)
          clear hK K
          try simp only [Act.put, List.setIfInBounds_toArray, List.set_cons_zero, List.set_cons_succ]
          refine wpAnyH_ready (rs := [5, 13]) (by kernel_rfl) (by simp) ?_
          refine AllReadyH.cons (o := ?oc91) ?hc91 ?sc91 (AllReadyH.cons (o := ?oc92) ?hc92 ?sc92 AllReadyH.nil)
          case hc91 => (simp only [List.getElem?_toArray, List.getElem?_cons_zero, List.getElem?_cons_succ]; rfl)
          case hc92 => (simp only [List.getElem?_toArray, List.getElem?_cons_zero, List.getElem?_cons_succ]; rfl)
          case sc91 =>
           intro K hK
           have NEKc316 := Lib.hid (show Value.ownBlock (.slice (some ⟨uc304.heap.size, 0, none⟩) 0 0) ≠ some u0c.heap.size from fun e => by have h1 : uc304.heap.size = u0c.heap.size := Option.some.inj e; have := ORc317.out; omega)
           refine step_append_srcN _ rfl (.tmp 102) (.tmp 104) 31 rfl w12.heap.size 25 j0 (.agg #[.int .i64 0, .int .i64 0, .int .i64 0]) 3 24 Try.underlying31 hj hy0 hy1 hy2 rfl (by omega) _ 0 [] rfl Oc314.out (some bd) m cb (V.mer.flatMap mgCells) rfl (HMS.out.src.below HBc313.out) (mgCells_one V.mer) (by unfold maxLen; omega) (by omega) ((HBc313.out).size) ?_
           intro vc324 uc318 hwc320 hgc319 hlc323
           obtain ⟨Ac321, cc322, rfl⟩ := own_slice hwc320
           rw [Nat.zero_add, List.nil_append] at hwc320
           rw [Nat.zero_add]
           have HBc325 := Lib.hid ((HBc313.out).grown hgc319 ((HBc313.out).size) (fun k e => (Oc314.out.lt k e).1))
           have Kc328 := Lib.hid ((Kc316.out).grown hgc319 (fun e => NEKc316.out e.symm))
           have Oc326 := Lib.hid hwc320
           clear hgc319 hwc320 hlc323
           refine hK.out _ _ (⟨below_cells HBc325.out tt0, below_cells HBc325.out tt1, below_cells HBc325.out tt2, below_cells HBc325.out tt3, below_cells HBc325.out tt4⟩) (fun hc93 => ?_)
           clear hK K
           try simp only [Act.put, List.setIfInBounds_toArray, List.set_cons_zero, List.set_cons_succ]
           refine wpAnyH_ready (rs := [11, 13]) (by kernel_rfl) (by simp) ?_
           refine AllReadyH.cons (o := ?oc94) ?hc94 ?sc94 (AllReadyH.cons (o := ?oc95) ?hc95 ?sc95 AllReadyH.nil)
           case hc94 => (simp only [List.getElem?_toArray, List.getElem?_cons_zero, List.getElem?_cons_succ]; rfl)
           case hc95 => (simp only [List.getElem?_toArray, List.getElem?_cons_zero, List.getElem?_cons_succ]; rfl)
           case sc94 =>
            intro K hK
            refine step_append_srcN _ rfl (.tmp 105) (.tmp 110) 31 rfl w12.heap.size 25 j0 (.agg #[.int .i64 0, .int .i64 0, .int .i64 0]) 3 24 Try.underlying31 hj hy0 hy1 hy2 rfl (by omega) _ m (V.mer.flatMap mgCells) rfl Oc326.out (some ⟨u0c.heap.size, 0, none⟩) 1 1 (mgCells ⟨ma, mb, mt⟩) rfl (⟨rfl, fun ad e j u hu => by cases e; rw [addr_add, Kc328.out.cell]; simpa [mgCells] using hu, fun e => by cases e⟩ : SrcN _ (some ⟨u0c.heap.size, 0, none⟩) 1 3 (mgCells ⟨ma, mb, mt⟩)) (by simp [mgCells, Value.oneCell']) (by unfold maxLen; omega) (by omega) ((HBc325.out).size) ?_
            intro vc335 uc329 hwc331 hgc330 hlc334
            obtain ⟨Ac332, cc333, rfl⟩ := own_slice hwc331

            have HBc336 := Lib.hid ((HBc325.out).grown hgc330 ((HBc325.out).size) (fun k e => (Oc326.out.lt k e).1))
            have Oc337 := Lib.hid hwc331
            clear hgc330 hwc331 hlc334
            refine hK.out _ _ (⟨below_cells HBc336.out tt0, below_cells HBc336.out tt1, below_cells HBc336.out tt2, below_cells HBc336.out tt3, below_cells HBc336.out tt4⟩) (fun hc96 => ?_)
            clear hK K
            try simp only [Act.put, List.setIfInBounds_toArray, List.set_cons_zero, List.set_cons_succ]
            refine wpAnyH_take (i := 12) (oi := ?oic9712) (v := ?vc9712) ?hic9712 (by kernel_rfl) (by kernel_rfl) (by kernel_rfl) ?hQc9712 (Or.inl ⟨?hwc9712, ?hyc9712⟩) (by assumption) ?restc9712
            case hic9712 => (first | (simp only [List.getElem?_toArray, List.getElem?_cons_zero, List.getElem?_cons_succ]; rfl) | rfl)
            case hQc9712 => exact fun _ _ _ h => h
            case hwc9712 => rfl
            case hyc9712 => ((intro w hSw; go_simp); first | done | with_reducible rfl)
            try simp only [Act.put, List.setIfInBounds_toArray, List.set_cons_zero, List.set_cons_succ]
            refine wpAnyH_ready (rs := [13]) (by kernel_rfl) (by simp) ?_
            refine AllReadyH.cons (o := ?oc98) ?hc98 ?sc98 AllReadyH.nil
            case hc98 => (simp only [List.getElem?_toArray, List.getElem?_cons_zero, List.getElem?_cons_succ]; rfl)
            case sc98 =>
             intro K hK
             go_simp
             obtain ⟨uc339, huc340⟩ : ∃ z, z = uc329.alloc (.cells #[.slice none 0 0, .slice none 0 0] 33) := ⟨_, rfl⟩
             rw [← huc340]
             have hbc341 : Below uc329.heap.size uc329 uc339 := by rw [huc340]; exact (Below.refl _ uc329).alloc (Nat.le_refl _) _
             have HBc342 := Lib.hid ((HBc336.out).trans ((hbc341).mono (HBc336.out).size))
             have Oc345 := Lib.hid (ownsRow_block (Oc337.out) (fun g hg => (hbc341).block g ((Oc337.out).lt g hg).2))
             have Gc343 := Lib.hid ((by rw [huc340]; exact Blk.new uc329 _ _ : Blk uc339 uc329.heap.size 33 #[.slice none 0 0, .slice none 0 0]))
             clear huc340 hbc341
             have GEc346 := Lib.hid ((HBc336.out).size)
             refine hK.out _ _ (⟨below_cells HBc342.out tt0, below_cells HBc342.out tt1, below_cells HBc342.out tt2, below_cells HBc342.out tt3, below_cells HBc342.out tt4⟩) (fun hc99 => ?_)
             clear hK K
             try simp only [Act.put, List.setIfInBounds_toArray, List.set_cons_zero, List.set_cons_succ]
             refine wpAnyH_ready (rs := [14]) (by kernel_rfl) (by simp) ?_
             refine AllReadyH.cons (o := ?oc100) ?hc100 ?sc100 AllReadyH.nil
             case hc100 => (simp only [List.getElem?_toArray, List.getElem?_cons_zero, List.getElem?_cons_succ]; rfl)
             case sc100 =>
              intro K hK
              have zc3470 := Gc343.out.cell 0
              have zc3471 := Gc343.out.cell 1
              have zc3472 := Gc343.out.frozen 0
              have zc3473 := Gc343.out.frozen 1
              simp only [List.getElem?_toArray, List.getElem?_cons_zero, List.getElem?_cons_succ] at zc3470 zc3471
              go_simp
              have hgec353 : w12.heap.size ≤ uc329.heap.size := GEc346.out
              have kpc348 : Kept (fun i => i = uc329.heap.size) uc339 ((uc339.setCell ⟨uc329.heap.size, 0, none⟩ (.slice (some ad) k ca)).setCell ⟨uc329.heap.size, 1, none⟩ (.slice Ac332 (m + 1) cc333)) := ((Kept.refl (fun i => i = uc329.heap.size) uc339).setCell (p := ⟨uc329.heap.size, 0, none⟩) (.inl rfl) _).setCell (p := ⟨uc329.heap.size, 1, none⟩) (.inl rfl) _
              have HBc349 := Lib.hid (((HBc342.out).setCell (p := ⟨uc329.heap.size, 0, none⟩) hgec353 (.slice (some ad) k ca)).setCell (p := ⟨uc329.heap.size, 1, none⟩) hgec353 (.slice Ac332 (m + 1) cc333))
              have Gc350 := Lib.hid ((Gc343.out.set_ 0 (.slice (some ad) k ca)).set_ 1 (.slice Ac332 (m + 1) cc333))
              have Oc351 := Lib.hid (ownsRow_kept Oc345.out kpc348 (fun g hg e => own_blk_ne Oc345.out Gc343.out (by decide) (by rw [hg, e])))
              clear zc3470 zc3471 zc3472 zc3473 kpc348 hgec353
              refine hK.out _ _ (⟨below_cells HBc349.out tt0, below_cells HBc349.out tt1, below_cells HBc349.out tt2, below_cells HBc349.out tt3, below_cells HBc349.out tt4⟩) (fun hc101 => ?_)
              clear hK K
              try simp only [Act.put, List.setIfInBounds_toArray, List.set_cons_zero, List.set_cons_succ]
              refine wpAnyH_done (by kernel_rfl) ?_ _
              go_wp2_with fail
              go_meet
              case rel => exact ⟨_, Ac332, cc333, rfl, HBc349.out, by have h := Gc350.out; simpa [Blk] using h, MgSee.own (M := V.mer ++ [⟨ma, mb, mt⟩]) (by have h := Oc351.out; rw [List.flatMap_append, List.flatMap_singleton]; exact h) HLM.out (by unfold maxLen; omega) HFM.out⟩
           case sc95 =>
            intro K hK
            go_simp
            obtain ⟨uc354, huc355⟩ : ∃ z, z = uc318.alloc (.cells #[.slice none 0 0, .slice none 0 0] 33) := ⟨_, rfl⟩
            rw [← huc355]
            have hbc356 : Below uc318.heap.size uc318 uc354 := by rw [huc355]; exact (Below.refl _ uc318).alloc (Nat.le_refl _) _
            have HBc357 := Lib.hid ((HBc325.out).trans ((hbc356).mono (HBc325.out).size))
            have Kc360 := Lib.hid ((Kc328.out).below hbc356 (Kc328.out).lt)
            have Oc361 := Lib.hid (ownsRow_block (Oc326.out) (fun g hg => (hbc356).block g ((Oc326.out).lt g hg).2))
            have Gc358 := Lib.hid ((by rw [huc355]; exact Blk.new uc318 _ _ : Blk uc354 uc318.heap.size 33 #[.slice none 0 0, .slice none 0 0]))
            clear huc355 hbc356
            have GEc362 := Lib.hid ((HBc325.out).size)
            refine hK.out _ _ (⟨below_cells HBc357.out tt0, below_cells HBc357.out tt1, below_cells HBc357.out tt2, below_cells HBc357.out tt3, below_cells HBc357.out tt4⟩) (fun hc102 => ?_)
            clear hK K
            try simp only [Act.put, List.setIfInBounds_toArray, List.set_cons_zero, List.set_cons_succ]
            refine wpAnyH_ready (rs := [11]) (by kernel_rfl) (by simp) ?_
            refine AllReadyH.cons (o := ?oc103) ?hc103 ?sc103 AllReadyH.nil
            case hc103 => (simp only [List.getElem?_toArray, List.getElem?_cons_zero, List.getElem?_cons_succ]; rfl)
            case sc103 =>
             intro K hK
             refine step_append_srcN _ rfl (.tmp 105) (.tmp 110) 31 rfl w12.heap.size 25 j0 (.agg #[.int .i64 0, .int .i64 0, .int .i64 0]) 3 24 Try.underlying31 hj hy0 hy1 hy2 rfl (by omega) _ m (V.mer.flatMap mgCells) rfl Oc361.out (some ⟨u0c.heap.size, 0, none⟩) 1 1 (mgCells ⟨ma, mb, mt⟩) rfl (⟨rfl, fun ad e j u hu => by cases e; rw [addr_add, Kc360.out.cell]; simpa [mgCells] using hu, fun e => by cases e⟩ : SrcN _ (some ⟨u0c.heap.size, 0, none⟩) 1 3 (mgCells ⟨ma, mb, mt⟩)) (by simp [mgCells, Value.oneCell']) (by unfold maxLen; omega) (by omega) ((HBc357.out).size) ?_
             intro vc369 uc363 hwc365 hgc364 hlc368
             obtain ⟨Ac366, cc367, rfl⟩ := own_slice hwc365

             have HBc370 := Lib.hid ((HBc357.out).grown hgc364 ((HBc357.out).size) (fun k e => (Oc361.out.lt k e).1))
             have Gc373 := Lib.hid ((Gc358.out).grown hgc364 (fun e => own_blk_ne Oc361.out Gc358.out (by decide) e.symm))
             have Oc371 := Lib.hid hwc365
             clear hgc364 hwc365 hlc368
             refine hK.out _ _ (⟨below_cells HBc370.out tt0, below_cells HBc370.out tt1, below_cells HBc370.out tt2, below_cells HBc370.out tt3, below_cells HBc370.out tt4⟩) (fun hc104 => ?_)
             clear hK K
             try simp only [Act.put, List.setIfInBounds_toArray, List.set_cons_zero, List.set_cons_succ]
             refine wpAnyH_take (i := 12) (oi := ?oic10512) (v := ?vc10512) ?hic10512 (by kernel_rfl) (by kernel_rfl) (by kernel_rfl) ?hQc10512 (Or.inl ⟨?hwc10512, ?hyc10512⟩) (by assumption) ?restc10512
             case hic10512 => (first | (simp only [List.getElem?_toArray, List.getElem?_cons_zero, List.getElem?_cons_succ]; rfl) | rfl)
             case hQc10512 => exact fun _ _ _ h => h
             case hwc10512 => rfl
             case hyc10512 => ((intro w hSw; go_simp); first | done | with_reducible rfl)
             try simp only [Act.put, List.setIfInBounds_toArray, List.set_cons_zero, List.set_cons_succ]
             refine wpAnyH_ready (rs := [14]) (by kernel_rfl) (by simp) ?_
             refine AllReadyH.cons (o := ?oc106) ?hc106 ?sc106 AllReadyH.nil
             case hc106 => (simp only [List.getElem?_toArray, List.getElem?_cons_zero, List.getElem?_cons_succ]; rfl)
             case sc106 =>
              intro K hK
              have zc3740 := Gc373.out.cell 0
              have zc3741 := Gc373.out.cell 1
              have zc3742 := Gc373.out.frozen 0
              have zc3743 := Gc373.out.frozen 1
              simp only [List.getElem?_toArray, List.getElem?_cons_zero, List.getElem?_cons_succ] at zc3740 zc3741
              go_simp
              have hgec380 : w12.heap.size ≤ uc318.heap.size := GEc362.out
              have kpc375 : Kept (fun i => i = uc318.heap.size) uc363 ((uc363.setCell ⟨uc318.heap.size, 0, none⟩ (.slice (some ad) k ca)).setCell ⟨uc318.heap.size, 1, none⟩ (.slice Ac366 (m + 1) cc367)) := ((Kept.refl (fun i => i = uc318.heap.size) uc363).setCell (p := ⟨uc318.heap.size, 0, none⟩) (.inl rfl) _).setCell (p := ⟨uc318.heap.size, 1, none⟩) (.inl rfl) _
              have HBc376 := Lib.hid (((HBc370.out).setCell (p := ⟨uc318.heap.size, 0, none⟩) hgec380 (.slice (some ad) k ca)).setCell (p := ⟨uc318.heap.size, 1, none⟩) hgec380 (.slice Ac366 (m + 1) cc367))
              have Gc377 := Lib.hid ((Gc373.out.set_ 0 (.slice (some ad) k ca)).set_ 1 (.slice Ac366 (m + 1) cc367))
              have Oc378 := Lib.hid (ownsRow_kept Oc371.out kpc375 (fun g hg e => own_blk_ne Oc371.out Gc373.out (by decide) (by rw [hg, e])))
              clear zc3740 zc3741 zc3742 zc3743 kpc375 hgec380
              refine hK.out _ _ (⟨below_cells HBc376.out tt0, below_cells HBc376.out tt1, below_cells HBc376.out tt2, below_cells HBc376.out tt3, below_cells HBc376.out tt4⟩) (fun hc107 => ?_)
              clear hK K
              try simp only [Act.put, List.setIfInBounds_toArray, List.set_cons_zero, List.set_cons_succ]
              refine wpAnyH_done (by kernel_rfl) ?_ _
              go_wp2_with fail
              go_meet
              case rel => exact ⟨_, Ac366, cc367, rfl, HBc376.out, by have h := Gc377.out; simpa [Blk] using h, MgSee.own (M := V.mer ++ [⟨ma, mb, mt⟩]) (by have h := Oc378.out; rw [List.flatMap_append, List.flatMap_singleton]; exact h) HLM.out (by unfold maxLen; omega) HFM.out⟩
          case sc92 =>
           intro K hK
           go_simp
           obtain ⟨uc381, huc382⟩ : ∃ z, z = uc310.alloc (.cells #[.slice none 0 0, .slice none 0 0] 33) := ⟨_, rfl⟩
           rw [← huc382]
           have hbc383 : Below uc310.heap.size uc310 uc381 := by rw [huc382]; exact (Below.refl _ uc310).alloc (Nat.le_refl _) _
           have HBc384 := Lib.hid ((HBc313.out).trans ((hbc383).mono (HBc313.out).size))
           have Kc387 := Lib.hid ((Kc316.out).below hbc383 (Kc316.out).lt)
           have Oc388 := Lib.hid (ownsRow_block (Oc314.out) (fun g hg => (hbc383).block g ((Oc314.out).lt g hg).2))
           have Gc385 := Lib.hid ((by rw [huc382]; exact Blk.new uc310 _ _ : Blk uc381 uc310.heap.size 33 #[.slice none 0 0, .slice none 0 0]))
           clear huc382 hbc383
           have GEc389 := Lib.hid ((HBc313.out).size)
           refine hK.out _ _ (⟨below_cells HBc384.out tt0, below_cells HBc384.out tt1, below_cells HBc384.out tt2, below_cells HBc384.out tt3, below_cells HBc384.out tt4⟩) (fun hc108 => ?_)
           clear hK K
           try simp only [Act.put, List.setIfInBounds_toArray, List.set_cons_zero, List.set_cons_succ]
           refine wpAnyH_ready (rs := [5]) (by kernel_rfl) (by simp) ?_
           refine AllReadyH.cons (o := ?oc109) ?hc109 ?sc109 AllReadyH.nil
           case hc109 => (simp only [List.getElem?_toArray, List.getElem?_cons_zero, List.getElem?_cons_succ]; rfl)
           case sc109 =>
            intro K hK
            have NEKc387 := Lib.hid (show Value.ownBlock (.slice (some ⟨uc304.heap.size, 0, none⟩) 0 0) ≠ some u0c.heap.size from fun e => by have h1 : uc304.heap.size = u0c.heap.size := Option.some.inj e; have := ORc317.out; omega)
            refine step_append_srcN _ rfl (.tmp 102) (.tmp 104) 31 rfl w12.heap.size 25 j0 (.agg #[.int .i64 0, .int .i64 0, .int .i64 0]) 3 24 Try.underlying31 hj hy0 hy1 hy2 rfl (by omega) _ 0 [] rfl Oc388.out (some bd) m cb (V.mer.flatMap mgCells) rfl (HMS.out.src.below HBc384.out) (mgCells_one V.mer) (by unfold maxLen; omega) (by omega) ((HBc384.out).size) ?_
            intro vc396 uc390 hwc392 hgc391 hlc395
            obtain ⟨Ac393, cc394, rfl⟩ := own_slice hwc392
            rw [Nat.zero_add, List.nil_append] at hwc392
            rw [Nat.zero_add]
            have HBc397 := Lib.hid ((HBc384.out).grown hgc391 ((HBc384.out).size) (fun k e => (Oc388.out.lt k e).1))
            have Kc400 := Lib.hid ((Kc387.out).grown hgc391 (fun e => NEKc387.out e.symm))
            have Gc401 := Lib.hid ((Gc385.out).grown hgc391 (fun e => own_blk_ne Oc388.out Gc385.out (by decide) e.symm))
            have Oc398 := Lib.hid hwc392
            clear hgc391 hwc392 hlc395
            refine hK.out _ _ (⟨below_cells HBc397.out tt0, below_cells HBc397.out tt1, below_cells HBc397.out tt2, below_cells HBc397.out tt3, below_cells HBc397.out tt4⟩) (fun hc110 => ?_)
            clear hK K
            try simp only [Act.put, List.setIfInBounds_toArray, List.set_cons_zero, List.set_cons_succ]
            refine wpAnyH_ready (rs := [11]) (by kernel_rfl) (by simp) ?_
            refine AllReadyH.cons (o := ?oc111) ?hc111 ?sc111 AllReadyH.nil
            case hc111 => (simp only [List.getElem?_toArray, List.getElem?_cons_zero, List.getElem?_cons_succ]; rfl)
            case sc111 =>
             intro K hK
             refine step_append_srcN _ rfl (.tmp 105) (.tmp 110) 31 rfl w12.heap.size 25 j0 (.agg #[.int .i64 0, .int .i64 0, .int .i64 0]) 3 24 Try.underlying31 hj hy0 hy1 hy2 rfl (by omega) _ m (V.mer.flatMap mgCells) rfl Oc398.out (some ⟨u0c.heap.size, 0, none⟩) 1 1 (mgCells ⟨ma, mb, mt⟩) rfl (⟨rfl, fun ad e j u hu => by cases e; rw [addr_add, Kc400.out.cell]; simpa [mgCells] using hu, fun e => by cases e⟩ : SrcN _ (some ⟨u0c.heap.size, 0, none⟩) 1 3 (mgCells ⟨ma, mb, mt⟩)) (by simp [mgCells, Value.oneCell']) (by unfold maxLen; omega) (by omega) ((HBc397.out).size) ?_
             intro vc408 uc402 hwc404 hgc403 hlc407
             obtain ⟨Ac405, cc406, rfl⟩ := own_slice hwc404

             have HBc409 := Lib.hid ((HBc397.out).grown hgc403 ((HBc397.out).size) (fun k e => (Oc398.out.lt k e).1))
             have Gc412 := Lib.hid ((Gc401.out).grown hgc403 (fun e => own_blk_ne Oc398.out Gc401.out (by decide) e.symm))
             have Oc410 := Lib.hid hwc404
             clear hgc403 hwc404 hlc407
             refine hK.out _ _ (⟨below_cells HBc409.out tt0, below_cells HBc409.out tt1, below_cells HBc409.out tt2, below_cells HBc409.out tt3, below_cells HBc409.out tt4⟩) (fun hc112 => ?_)
             clear hK K
             try simp only [Act.put, List.setIfInBounds_toArray, List.set_cons_zero, List.set_cons_succ]
             refine wpAnyH_take (i := 12) (oi := ?oic11312) (v := ?vc11312) ?hic11312 (by kernel_rfl) (by kernel_rfl) (by kernel_rfl) ?hQc11312 (Or.inl ⟨?hwc11312, ?hyc11312⟩) (by assumption) ?restc11312
             case hic11312 => (first | (simp only [List.getElem?_toArray, List.getElem?_cons_zero, List.getElem?_cons_succ]; rfl) | rfl)
             case hQc11312 => exact fun _ _ _ h => h
             case hwc11312 => rfl
             case hyc11312 => ((intro w hSw; go_simp); first | done | with_reducible rfl)
             try simp only [Act.put, List.setIfInBounds_toArray, List.set_cons_zero, List.set_cons_succ]
             refine wpAnyH_ready (rs := [14]) (by kernel_rfl) (by simp) ?_
             refine AllReadyH.cons (o := ?oc114) ?hc114 ?sc114 AllReadyH.nil
             case hc114 => (simp only [List.getElem?_toArray, List.getElem?_cons_zero, List.getElem?_cons_succ]; rfl)
             case sc114 =>
              intro K hK
              have zc4130 := Gc412.out.cell 0
              have zc4131 := Gc412.out.cell 1
              have zc4132 := Gc412.out.frozen 0
              have zc4133 := Gc412.out.frozen 1
              simp only [List.getElem?_toArray, List.getElem?_cons_zero, List.getElem?_cons_succ] at zc4130 zc4131
              go_simp
              have hgec419 : w12.heap.size ≤ uc310.heap.size := GEc389.out
              have kpc414 : Kept (fun i => i = uc310.heap.size) uc402 ((uc402.setCell ⟨uc310.heap.size, 0, none⟩ (.slice (some ad) k ca)).setCell ⟨uc310.heap.size, 1, none⟩ (.slice Ac405 (m + 1) cc406)) := ((Kept.refl (fun i => i = uc310.heap.size) uc402).setCell (p := ⟨uc310.heap.size, 0, none⟩) (.inl rfl) _).setCell (p := ⟨uc310.heap.size, 1, none⟩) (.inl rfl) _
              have HBc415 := Lib.hid (((HBc409.out).setCell (p := ⟨uc310.heap.size, 0, none⟩) hgec419 (.slice (some ad) k ca)).setCell (p := ⟨uc310.heap.size, 1, none⟩) hgec419 (.slice Ac405 (m + 1) cc406))
              have Gc416 := Lib.hid ((Gc412.out.set_ 0 (.slice (some ad) k ca)).set_ 1 (.slice Ac405 (m + 1) cc406))
              have Oc417 := Lib.hid (ownsRow_kept Oc410.out kpc414 (fun g hg e => own_blk_ne Oc410.out Gc412.out (by decide) (by rw [hg, e])))
              clear zc4130 zc4131 zc4132 zc4133 kpc414 hgec419
              refine hK.out _ _ (⟨below_cells HBc415.out tt0, below_cells HBc415.out tt1, below_cells HBc415.out tt2, below_cells HBc415.out tt3, below_cells HBc415.out tt4⟩) (fun hc115 => ?_)
              clear hK K
              try simp only [Act.put, List.setIfInBounds_toArray, List.set_cons_zero, List.set_cons_succ]
              refine wpAnyH_done (by kernel_rfl) ?_ _
              go_wp2_with fail
              go_meet
              case rel => exact ⟨_, Ac405, cc406, rfl, HBc415.out, by have h := Gc416.out; simpa [Blk] using h, MgSee.own (M := V.mer ++ [⟨ma, mb, mt⟩]) (by have h := Oc417.out; rw [List.flatMap_append, List.flatMap_singleton]; exact h) HLM.out (by unfold maxLen; omega) HFM.out⟩
         case sc89 =>
          intro K hK
          go_simp
          obtain ⟨uc420, huc421⟩ : ∃ z, z = uc304.alloc (.cells #[.slice none 0 0, .slice none 0 0] 33) := ⟨_, rfl⟩
          rw [← huc421]
          have hbc422 : Below uc304.heap.size uc304 uc420 := by rw [huc421]; exact (Below.refl _ uc304).alloc (Nat.le_refl _) _
          have HBc423 := Lib.hid ((HBc307.out).trans ((hbc422).mono (HBc307.out).size))
          have Kc426 := Lib.hid ((Kc308.out).below hbc422 (Kc308.out).lt)
          have Gc424 := Lib.hid ((by rw [huc421]; exact Blk.new uc304 _ _ : Blk uc420 uc304.heap.size 33 #[.slice none 0 0, .slice none 0 0]))
          clear huc421 hbc422
          have GEc427 := Lib.hid ((HBc307.out).size)
          refine hK.out _ _ (⟨below_cells HBc423.out tt0, below_cells HBc423.out tt1, below_cells HBc423.out tt2, below_cells HBc423.out tt3, below_cells HBc423.out tt4⟩) (fun hc116 => ?_)
          clear hK K
          try simp only [Act.put, List.setIfInBounds_toArray, List.set_cons_zero, List.set_cons_succ]
          refine wpAnyH_ready (rs := [2]) (by kernel_rfl) (by simp) ?_
          refine AllReadyH.cons (o := ?oc117) ?hc117 ?sc117 AllReadyH.nil
          case hc117 => (simp only [List.getElem?_toArray, List.getElem?_cons_zero, List.getElem?_cons_succ]; rfl)
          case sc117 =>
           intro K hK
           go_simp
           obtain ⟨uc428, huc429⟩ : ∃ z, z = uc420.alloc (.cells #[] 25) := ⟨_, rfl⟩
           rw [← huc429]
           have hbc430 : Below uc420.heap.size uc420 uc428 := by rw [huc429]; exact (Below.refl _ uc420).alloc (Nat.le_refl _) _
           have HBc431 := Lib.hid ((HBc423.out).trans ((hbc430).mono (HBc423.out).size))
           have Kc434 := Lib.hid ((Kc426.out).below hbc430 (Kc426.out).lt)
           have Gc435 := Lib.hid ((Gc424.out).below hbc430 (Gc424.out).lt)
           have Oc432 := Lib.hid ((by rw [huc429]; exact World.ownsRow_made uc420 #[] 0 (HBc423.out).size (Nat.zero_le _) rfl : World.ownsRow uc428 w12.heap.size 25 3 (.slice (some ⟨uc420.heap.size, 0, none⟩) 0 0) 0 []))
           clear huc429 hbc430
           have ORc436 : Hid (u0c.heap.size < uc420.heap.size) := Lib.hid (Kc426.out.lt)
           refine hK.out _ _ (⟨below_cells HBc431.out tt0, below_cells HBc431.out tt1, below_cells HBc431.out tt2, below_cells HBc431.out tt3, below_cells HBc431.out tt4⟩) (fun hc118 => ?_)
           clear hK K
           try simp only [Act.put, List.setIfInBounds_toArray, List.set_cons_zero, List.set_cons_succ]
           refine wpAnyH_ready (rs := [5]) (by kernel_rfl) (by simp) ?_
           refine AllReadyH.cons (o := ?oc119) ?hc119 ?sc119 AllReadyH.nil
           case hc119 => (simp only [List.getElem?_toArray, List.getElem?_cons_zero, List.getElem?_cons_succ]; rfl)
           case sc119 =>
            intro K hK
            have NEKc434 := Lib.hid (show Value.ownBlock (.slice (some ⟨uc420.heap.size, 0, none⟩) 0 0) ≠ some u0c.heap.size from fun e => by have h1 : uc420.heap.size = u0c.heap.size := Option.some.inj e; have := ORc436.out; omega)
            refine step_append_srcN _ rfl (.tmp 102) (.tmp 104) 31 rfl w12.heap.size 25 j0 (.agg #[.int .i64 0, .int .i64 0, .int .i64 0]) 3 24 Try.underlying31 hj hy0 hy1 hy2 rfl (by omega) _ 0 [] rfl Oc432.out (some bd) m cb (V.mer.flatMap mgCells) rfl (HMS.out.src.below HBc431.out) (mgCells_one V.mer) (by unfold maxLen; omega) (by omega) ((HBc431.out).size) ?_
            intro vc443 uc437 hwc439 hgc438 hlc442
            obtain ⟨Ac440, cc441, rfl⟩ := own_slice hwc439
            rw [Nat.zero_add, List.nil_append] at hwc439
            rw [Nat.zero_add]
            have HBc444 := Lib.hid ((HBc431.out).grown hgc438 ((HBc431.out).size) (fun k e => (Oc432.out.lt k e).1))
            have Kc447 := Lib.hid ((Kc434.out).grown hgc438 (fun e => NEKc434.out e.symm))
            have Gc448 := Lib.hid ((Gc435.out).grown hgc438 (fun e => own_blk_ne Oc432.out Gc435.out (by decide) e.symm))
            have Oc445 := Lib.hid hwc439
            clear hgc438 hwc439 hlc442
            refine hK.out _ _ (⟨below_cells HBc444.out tt0, below_cells HBc444.out tt1, below_cells HBc444.out tt2, below_cells HBc444.out tt3, below_cells HBc444.out tt4⟩) (fun hc120 => ?_)
            clear hK K
            try simp only [Act.put, List.setIfInBounds_toArray, List.set_cons_zero, List.set_cons_succ]
            refine wpAnyH_ready (rs := [11]) (by kernel_rfl) (by simp) ?_
            refine AllReadyH.cons (o := ?oc121) ?hc121 ?sc121 AllReadyH.nil
            case hc121 => (simp only [List.getElem?_toArray, List.getElem?_cons_zero, List.getElem?_cons_succ]; rfl)
            case sc121 =>
             intro K hK
             refine step_append_srcN _ rfl (.tmp 105) (.tmp 110) 31 rfl w12.heap.size 25 j0 (.agg #[.int .i64 0, .int .i64 0, .int .i64 0]) 3 24 Try.underlying31 hj hy0 hy1 hy2 rfl (by omega) _ m (V.mer.flatMap mgCells) rfl Oc445.out (some ⟨u0c.heap.size, 0, none⟩) 1 1 (mgCells ⟨ma, mb, mt⟩) rfl (⟨rfl, fun ad e j u hu => by cases e; rw [addr_add, Kc447.out.cell]; simpa [mgCells] using hu, fun e => by cases e⟩ : SrcN _ (some ⟨u0c.heap.size, 0, none⟩) 1 3 (mgCells ⟨ma, mb, mt⟩)) (by simp [mgCells, Value.oneCell']) (by unfold maxLen; omega) (by omega) ((HBc444.out).size) ?_
             intro vc455 uc449 hwc451 hgc450 hlc454
             obtain ⟨Ac452, cc453, rfl⟩ := own_slice hwc451

             have HBc456 := Lib.hid ((HBc444.out).grown hgc450 ((HBc444.out).size) (fun k e => (Oc445.out.lt k e).1))
             have Gc459 := Lib.hid ((Gc448.out).grown hgc450 (fun e => own_blk_ne Oc445.out Gc448.out (by decide) e.symm))
             have Oc457 := Lib.hid hwc451
             clear hgc450 hwc451 hlc454
             refine hK.out _ _ (⟨below_cells HBc456.out tt0, below_cells HBc456.out tt1, below_cells HBc456.out tt2, below_cells HBc456.out tt3, below_cells HBc456.out tt4⟩) (fun hc122 => ?_)
             clear hK K
             try simp only [Act.put, List.setIfInBounds_toArray, List.set_cons_zero, List.set_cons_succ]
             refine wpAnyH_take (i := 12) (oi := ?oic12312) (v := ?vc12312) ?hic12312 (by kernel_rfl) (by kernel_rfl) (by kernel_rfl) ?hQc12312 (Or.inl ⟨?hwc12312, ?hyc12312⟩) (by assumption) ?restc12312
             case hic12312 => (first | (simp only [List.getElem?_toArray, List.getElem?_cons_zero, List.getElem?_cons_succ]; rfl) | rfl)
             case hQc12312 => exact fun _ _ _ h => h
             case hwc12312 => rfl
             case hyc12312 => ((intro w hSw; go_simp); first | done | with_reducible rfl)
             try simp only [Act.put, List.setIfInBounds_toArray, List.set_cons_zero, List.set_cons_succ]
             refine wpAnyH_ready (rs := [14]) (by kernel_rfl) (by simp) ?_
             refine AllReadyH.cons (o := ?oc124) ?hc124 ?sc124 AllReadyH.nil
             case hc124 => (simp only [List.getElem?_toArray, List.getElem?_cons_zero, List.getElem?_cons_succ]; rfl)
             case sc124 =>
              intro K hK
              have zc4600 := Gc459.out.cell 0
              have zc4601 := Gc459.out.cell 1
              have zc4602 := Gc459.out.frozen 0
              have zc4603 := Gc459.out.frozen 1
              simp only [List.getElem?_toArray, List.getElem?_cons_zero, List.getElem?_cons_succ] at zc4600 zc4601
              go_simp
              have hgec466 : w12.heap.size ≤ uc304.heap.size := GEc427.out
              have kpc461 : Kept (fun i => i = uc304.heap.size) uc449 ((uc449.setCell ⟨uc304.heap.size, 0, none⟩ (.slice (some ad) k ca)).setCell ⟨uc304.heap.size, 1, none⟩ (.slice Ac452 (m + 1) cc453)) := ((Kept.refl (fun i => i = uc304.heap.size) uc449).setCell (p := ⟨uc304.heap.size, 0, none⟩) (.inl rfl) _).setCell (p := ⟨uc304.heap.size, 1, none⟩) (.inl rfl) _
              have HBc462 := Lib.hid (((HBc456.out).setCell (p := ⟨uc304.heap.size, 0, none⟩) hgec466 (.slice (some ad) k ca)).setCell (p := ⟨uc304.heap.size, 1, none⟩) hgec466 (.slice Ac452 (m + 1) cc453))
              have Gc463 := Lib.hid ((Gc459.out.set_ 0 (.slice (some ad) k ca)).set_ 1 (.slice Ac452 (m + 1) cc453))
              have Oc464 := Lib.hid (ownsRow_kept Oc457.out kpc461 (fun g hg e => own_blk_ne Oc457.out Gc459.out (by decide) (by rw [hg, e])))
              clear zc4600 zc4601 zc4602 zc4603 kpc461 hgec466
              refine hK.out _ _ (⟨below_cells HBc462.out tt0, below_cells HBc462.out tt1, below_cells HBc462.out tt2, below_cells HBc462.out tt3, below_cells HBc462.out tt4⟩) (fun hc125 => ?_)
              clear hK K
              try simp only [Act.put, List.setIfInBounds_toArray, List.set_cons_zero, List.set_cons_succ]
              refine wpAnyH_done (by kernel_rfl) ?_ _
              go_wp2_with fail
              go_meet
              case rel => exact ⟨_, Ac452, cc453, rfl, HBc462.out, by have h := Gc463.out; simpa [Blk] using h, MgSee.own (M := V.mer ++ [⟨ma, mb, mt⟩]) (by have h := Oc464.out; rw [List.flatMap_append, List.flatMap_singleton]; exact h) HLM.out (by unfold maxLen; omega) HFM.out⟩
        case sc11 =>
         intro K hK
         go_simp
         obtain ⟨uc467, huc468⟩ : ∃ z, z = u0c.alloc (.cells #[.slice none 0 0, .slice none 0 0] 33) := ⟨_, rfl⟩
         rw [← huc468]
         have hbc469 : Below u0c.heap.size u0c uc467 := by rw [huc468]; exact (Below.refl _ u0c).alloc (Nat.le_refl _) _
         have HBc470 := Lib.hid ((HBWc.out).trans ((hbc469).mono (HBWc.out).size))
         have Gc471 := Lib.hid ((by rw [huc468]; exact Blk.new u0c _ _ : Blk uc467 u0c.heap.size 33 #[.slice none 0 0, .slice none 0 0]))
         clear huc468 hbc469
         have GEc473 := Lib.hid ((HBWc.out).size)
         refine hK.out _ _ (⟨below_cells HBc470.out tt0, below_cells HBc470.out tt1, below_cells HBc470.out tt2, below_cells HBc470.out tt3, below_cells HBc470.out tt4⟩) (fun hc126 => ?_)
         clear hK K
         try simp only [Act.put, List.setIfInBounds_toArray, List.set_cons_zero, List.set_cons_succ]
         refine wpAnyH_ready (rs := [2, 10]) (by kernel_rfl) (by simp) ?_
         refine AllReadyH.cons (o := ?oc127) ?hc127 ?sc127 (AllReadyH.cons (o := ?oc128) ?hc128 ?sc128 AllReadyH.nil)
         case hc127 => (simp only [List.getElem?_toArray, List.getElem?_cons_zero, List.getElem?_cons_succ]; rfl)
         case hc128 => (simp only [List.getElem?_toArray, List.getElem?_cons_zero, List.getElem?_cons_succ]; rfl)
         case sc127 =>
          intro K hK
          go_simp
          obtain ⟨uc474, huc475⟩ : ∃ z, z = uc467.alloc (.cells #[] 25) := ⟨_, rfl⟩
          rw [← huc475]
          have hbc476 : Below uc467.heap.size uc467 uc474 := by rw [huc475]; exact (Below.refl _ uc467).alloc (Nat.le_refl _) _
          have HBc477 := Lib.hid ((HBc470.out).trans ((hbc476).mono (HBc470.out).size))
          have Gc480 := Lib.hid ((Gc471.out).below hbc476 (Gc471.out).lt)
          have Oc478 := Lib.hid ((by rw [huc475]; exact World.ownsRow_made uc467 #[] 0 (HBc470.out).size (Nat.zero_le _) rfl : World.ownsRow uc474 w12.heap.size 25 3 (.slice (some ⟨uc467.heap.size, 0, none⟩) 0 0) 0 []))
          clear huc475 hbc476
          refine hK.out _ _ (⟨below_cells HBc477.out tt0, below_cells HBc477.out tt1, below_cells HBc477.out tt2, below_cells HBc477.out tt3, below_cells HBc477.out tt4⟩) (fun hc129 => ?_)
          clear hK K
          try simp only [Act.put, List.setIfInBounds_toArray, List.set_cons_zero, List.set_cons_succ]
          refine wpAnyH_ready (rs := [5, 10]) (by kernel_rfl) (by simp) ?_
          refine AllReadyH.cons (o := ?oc130) ?hc130 ?sc130 (AllReadyH.cons (o := ?oc131) ?hc131 ?sc131 AllReadyH.nil)
          case hc130 => (simp only [List.getElem?_toArray, List.getElem?_cons_zero, List.getElem?_cons_succ]; rfl)
          case hc131 => (simp only [List.getElem?_toArray, List.getElem?_cons_zero, List.getElem?_cons_succ]; rfl)
          case sc130 =>
           intro K hK
           refine step_append_srcN _ rfl (.tmp 102) (.tmp 104) 31 rfl w12.heap.size 25 j0 (.agg #[.int .i64 0, .int .i64 0, .int .i64 0]) 3 24 Try.underlying31 hj hy0 hy1 hy2 rfl (by omega) _ 0 [] rfl Oc478.out (some bd) m cb (V.mer.flatMap mgCells) rfl (HMS.out.src.below HBc477.out) (mgCells_one V.mer) (by unfold maxLen; omega) (by omega) ((HBc477.out).size) ?_
           intro vc487 uc481 hwc483 hgc482 hlc486
           obtain ⟨Ac484, cc485, rfl⟩ := own_slice hwc483
           rw [Nat.zero_add, List.nil_append] at hwc483
           rw [Nat.zero_add]
           have HBc488 := Lib.hid ((HBc477.out).grown hgc482 ((HBc477.out).size) (fun k e => (Oc478.out.lt k e).1))
           have Gc491 := Lib.hid ((Gc480.out).grown hgc482 (fun e => own_blk_ne Oc478.out Gc480.out (by decide) e.symm))
           have Oc489 := Lib.hid hwc483
           clear hgc482 hwc483 hlc486
           refine hK.out _ _ (⟨below_cells HBc488.out tt0, below_cells HBc488.out tt1, below_cells HBc488.out tt2, below_cells HBc488.out tt3, below_cells HBc488.out tt4⟩) (fun hc132 => ?_)
           clear hK K
           try simp only [Act.put, List.setIfInBounds_toArray, List.set_cons_zero, List.set_cons_succ]
           refine wpAnyH_ready (rs := [10]) (by kernel_rfl) (by simp) ?_
           refine AllReadyH.cons (o := ?oc133) ?hc133 ?sc133 AllReadyH.nil
           case hc133 => (simp only [List.getElem?_toArray, List.getElem?_cons_zero, List.getElem?_cons_succ]; rfl)
           case sc133 =>
            intro K hK
            go_simp
            obtain ⟨uc492, huc493⟩ : ∃ z, z = uc481.alloc (.cells #[.int .i64 ma, .int .i64 mb, .int .i64 mt] 25) := ⟨_, rfl⟩
            rw [← huc493]
            have hbc494 : Below uc481.heap.size uc481 uc492 := by rw [huc493]; exact (Below.refl _ uc481).alloc (Nat.le_refl _) _
            have HBc495 := Lib.hid ((HBc488.out).trans ((hbc494).mono (HBc488.out).size))
            have Gc498 := Lib.hid ((Gc491.out).below hbc494 (Gc491.out).lt)
            have Oc499 := Lib.hid (ownsRow_block (Oc489.out) (fun g hg => (hbc494).block g ((Oc489.out).lt g hg).2))
            have Kc496 := Lib.hid ((by rw [huc493]; exact Blk.new uc481 _ _ : Blk uc492 uc481.heap.size 25 #[.int .i64 ma, .int .i64 mb, .int .i64 mt]))
            clear huc493 hbc494
            refine hK.out _ _ (⟨below_cells HBc495.out tt0, below_cells HBc495.out tt1, below_cells HBc495.out tt2, below_cells HBc495.out tt3, below_cells HBc495.out tt4⟩) (fun hc134 => ?_)
            clear hK K
            try simp only [Act.put, List.setIfInBounds_toArray, List.set_cons_zero, List.set_cons_succ]
            refine wpAnyH_ready (rs := [11]) (by kernel_rfl) (by simp) ?_
            refine AllReadyH.cons (o := ?oc135) ?hc135 ?sc135 AllReadyH.nil
            case hc135 => (simp only [List.getElem?_toArray, List.getElem?_cons_zero, List.getElem?_cons_succ]; rfl)
            case sc135 =>
             intro K hK
             refine step_append_srcN _ rfl (.tmp 105) (.tmp 110) 31 rfl w12.heap.size 25 j0 (.agg #[.int .i64 0, .int .i64 0, .int .i64 0]) 3 24 Try.underlying31 hj hy0 hy1 hy2 rfl (by omega) _ m (V.mer.flatMap mgCells) rfl Oc499.out (some ⟨uc481.heap.size, 0, none⟩) 1 1 (mgCells ⟨ma, mb, mt⟩) rfl (⟨rfl, fun ad e j u hu => by cases e; rw [addr_add, Kc496.out.cell]; simpa [mgCells] using hu, fun e => by cases e⟩ : SrcN _ (some ⟨uc481.heap.size, 0, none⟩) 1 3 (mgCells ⟨ma, mb, mt⟩)) (by simp [mgCells, Value.oneCell']) (by unfold maxLen; omega) (by omega) ((HBc495.out).size) ?_
             intro vc506 uc500 hwc502 hgc501 hlc505
             obtain ⟨Ac503, cc504, rfl⟩ := own_slice hwc502

             have HBc507 := Lib.hid ((HBc495.out).grown hgc501 ((HBc495.out).size) (fun k e => (Oc499.out.lt k e).1))
             have Gc510 := Lib.hid ((Gc498.out).grown hgc501 (fun e => own_blk_ne Oc499.out Gc498.out (by decide) e.symm))
             have Oc508 := Lib.hid hwc502
             clear hgc501 hwc502 hlc505
             refine hK.out _ _ (⟨below_cells HBc507.out tt0, below_cells HBc507.out tt1, below_cells HBc507.out tt2, below_cells HBc507.out tt3, below_cells HBc507.out tt4⟩) (fun hc136 => ?_)
             clear hK K
             try simp only [Act.put, List.setIfInBounds_toArray, List.set_cons_zero, List.set_cons_succ]
             refine wpAnyH_take (i := 12) (oi := ?oic13712) (v := ?vc13712) ?hic13712 (by kernel_rfl) (by kernel_rfl) (by kernel_rfl) ?hQc13712 (Or.inl ⟨?hwc13712, ?hyc13712⟩) (by assumption) ?restc13712
             case hic13712 => (first | (simp only [List.getElem?_toArray, List.getElem?_cons_zero, List.getElem?_cons_succ]; rfl) | rfl)
             case hQc13712 => exact fun _ _ _ h => h
             case hwc13712 => rfl
             case hyc13712 => ((intro w hSw; go_simp); first | done | with_reducible rfl)
             try simp only [Act.put, List.setIfInBounds_toArray, List.set_cons_zero, List.set_cons_succ]
             refine wpAnyH_ready (rs := [14]) (by kernel_rfl) (by simp) ?_
             refine AllReadyH.cons (o := ?oc138) ?hc138 ?sc138 AllReadyH.nil
             case hc138 => (simp only [List.getElem?_toArray, List.getElem?_cons_zero, List.getElem?_cons_succ]; rfl)
             case sc138 =>
              intro K hK
              have zc5110 := Gc510.out.cell 0
              have zc5111 := Gc510.out.cell 1
              have zc5112 := Gc510.out.frozen 0
              have zc5113 := Gc510.out.frozen 1
              simp only [List.getElem?_toArray, List.getElem?_cons_zero, List.getElem?_cons_succ] at zc5110 zc5111
              go_simp
              have hgec517 : w12.heap.size ≤ u0c.heap.size := GEc473.out
              have kpc512 : Kept (fun i => i = u0c.heap.size) uc500 ((uc500.setCell ⟨u0c.heap.size, 0, none⟩ (.slice (some ad) k ca)).setCell ⟨u0c.heap.size, 1, none⟩ (.slice Ac503 (m + 1) cc504)) := ((Kept.refl (fun i => i = u0c.heap.size) uc500).setCell (p := ⟨u0c.heap.size, 0, none⟩) (.inl rfl) _).setCell (p := ⟨u0c.heap.size, 1, none⟩) (.inl rfl) _
              have HBc513 := Lib.hid (((HBc507.out).setCell (p := ⟨u0c.heap.size, 0, none⟩) hgec517 (.slice (some ad) k ca)).setCell (p := ⟨u0c.heap.size, 1, none⟩) hgec517 (.slice Ac503 (m + 1) cc504))
              have Gc514 := Lib.hid ((Gc510.out.set_ 0 (.slice (some ad) k ca)).set_ 1 (.slice Ac503 (m + 1) cc504))
              have Oc515 := Lib.hid (ownsRow_kept Oc508.out kpc512 (fun g hg e => own_blk_ne Oc508.out Gc510.out (by decide) (by rw [hg, e])))
              clear zc5110 zc5111 zc5112 zc5113 kpc512 hgec517
              refine hK.out _ _ (⟨below_cells HBc513.out tt0, below_cells HBc513.out tt1, below_cells HBc513.out tt2, below_cells HBc513.out tt3, below_cells HBc513.out tt4⟩) (fun hc139 => ?_)
              clear hK K
              try simp only [Act.put, List.setIfInBounds_toArray, List.set_cons_zero, List.set_cons_succ]
              refine wpAnyH_done (by kernel_rfl) ?_ _
              go_wp2_with fail
              go_meet
              case rel => exact ⟨_, Ac503, cc504, rfl, HBc513.out, by have h := Gc514.out; simpa [Blk] using h, MgSee.own (M := V.mer ++ [⟨ma, mb, mt⟩]) (by have h := Oc515.out; rw [List.flatMap_append, List.flatMap_singleton]; exact h) HLM.out (by unfold maxLen; omega) HFM.out⟩
          case sc131 =>
           intro K hK
           go_simp
           obtain ⟨uc518, huc519⟩ : ∃ z, z = uc474.alloc (.cells #[.int .i64 ma, .int .i64 mb, .int .i64 mt] 25) := ⟨_, rfl⟩
           rw [← huc519]
           have hbc520 : Below uc474.heap.size uc474 uc518 := by rw [huc519]; exact (Below.refl _ uc474).alloc (Nat.le_refl _) _
           have HBc521 := Lib.hid ((HBc477.out).trans ((hbc520).mono (HBc477.out).size))
           have Gc524 := Lib.hid ((Gc480.out).below hbc520 (Gc480.out).lt)
           have Oc525 := Lib.hid (ownsRow_block (Oc478.out) (fun g hg => (hbc520).block g ((Oc478.out).lt g hg).2))
           have Kc522 := Lib.hid ((by rw [huc519]; exact Blk.new uc474 _ _ : Blk uc518 uc474.heap.size 25 #[.int .i64 ma, .int .i64 mb, .int .i64 mt]))
           clear huc519 hbc520
           have ORc526 : Hid (uc467.heap.size < uc474.heap.size) := Lib.hid ((Oc478.out.lt _ rfl).2)
           refine hK.out _ _ (⟨below_cells HBc521.out tt0, below_cells HBc521.out tt1, below_cells HBc521.out tt2, below_cells HBc521.out tt3, below_cells HBc521.out tt4⟩) (fun hc140 => ?_)
           clear hK K
           try simp only [Act.put, List.setIfInBounds_toArray, List.set_cons_zero, List.set_cons_succ]
           refine wpAnyH_ready (rs := [5]) (by kernel_rfl) (by simp) ?_
           refine AllReadyH.cons (o := ?oc141) ?hc141 ?sc141 AllReadyH.nil
           case hc141 => (simp only [List.getElem?_toArray, List.getElem?_cons_zero, List.getElem?_cons_succ]; rfl)
           case sc141 =>
            intro K hK
            have NEKc522 := Lib.hid (show Value.ownBlock (.slice (some ⟨uc467.heap.size, 0, none⟩) 0 0) ≠ some uc474.heap.size from fun e => by have h1 : uc467.heap.size = uc474.heap.size := Option.some.inj e; have := ORc526.out; omega)
            refine step_append_srcN _ rfl (.tmp 102) (.tmp 104) 31 rfl w12.heap.size 25 j0 (.agg #[.int .i64 0, .int .i64 0, .int .i64 0]) 3 24 Try.underlying31 hj hy0 hy1 hy2 rfl (by omega) _ 0 [] rfl Oc525.out (some bd) m cb (V.mer.flatMap mgCells) rfl (HMS.out.src.below HBc521.out) (mgCells_one V.mer) (by unfold maxLen; omega) (by omega) ((HBc521.out).size) ?_
            intro vc533 uc527 hwc529 hgc528 hlc532
            obtain ⟨Ac530, cc531, rfl⟩ := own_slice hwc529
            rw [Nat.zero_add, List.nil_append] at hwc529
            rw [Nat.zero_add]
            have HBc534 := Lib.hid ((HBc521.out).grown hgc528 ((HBc521.out).size) (fun k e => (Oc525.out.lt k e).1))
            have Kc537 := Lib.hid ((Kc522.out).grown hgc528 (fun e => NEKc522.out e.symm))
            have Gc538 := Lib.hid ((Gc524.out).grown hgc528 (fun e => own_blk_ne Oc525.out Gc524.out (by decide) e.symm))
            have Oc535 := Lib.hid hwc529
            clear hgc528 hwc529 hlc532
            refine hK.out _ _ (⟨below_cells HBc534.out tt0, below_cells HBc534.out tt1, below_cells HBc534.out tt2, below_cells HBc534.out tt3, below_cells HBc534.out tt4⟩) (fun hc142 => ?_)
            clear hK K
            try simp only [Act.put, List.setIfInBounds_toArray, List.set_cons_zero, List.set_cons_succ]
            refine wpAnyH_ready (rs := [11]) (by kernel_rfl) (by simp) ?_
            refine AllReadyH.cons (o := ?oc143) ?hc143 ?sc143 AllReadyH.nil
            case hc143 => (simp only [List.getElem?_toArray, List.getElem?_cons_zero, List.getElem?_cons_succ]; rfl)
            case sc143 =>
             intro K hK
             refine step_append_srcN _ rfl (.tmp 105) (.tmp 110) 31 rfl w12.heap.size 25 j0 (.agg #[.int .i64 0, .int .i64 0, .int .i64 0]) 3 24 Try.underlying31 hj hy0 hy1 hy2 rfl (by omega) _ m (V.mer.flatMap mgCells) rfl Oc535.out (some ⟨uc474.heap.size, 0, none⟩) 1 1 (mgCells ⟨ma, mb, mt⟩) rfl (⟨rfl, fun ad e j u hu => by cases e; rw [addr_add, Kc537.out.cell]; simpa [mgCells] using hu, fun e => by cases e⟩ : SrcN _ (some ⟨uc474.heap.size, 0, none⟩) 1 3 (mgCells ⟨ma, mb, mt⟩)) (by simp [mgCells, Value.oneCell']) (by unfold maxLen; omega) (by omega) ((HBc534.out).size) ?_
             intro vc545 uc539 hwc541 hgc540 hlc544
             obtain ⟨Ac542, cc543, rfl⟩ := own_slice hwc541

             have HBc546 := Lib.hid ((HBc534.out).grown hgc540 ((HBc534.out).size) (fun k e => (Oc535.out.lt k e).1))
             have Gc549 := Lib.hid ((Gc538.out).grown hgc540 (fun e => own_blk_ne Oc535.out Gc538.out (by decide) e.symm))
             have Oc547 := Lib.hid hwc541
             clear hgc540 hwc541 hlc544
             refine hK.out _ _ (⟨below_cells HBc546.out tt0, below_cells HBc546.out tt1, below_cells HBc546.out tt2, below_cells HBc546.out tt3, below_cells HBc546.out tt4⟩) (fun hc144 => ?_)
             clear hK K
             try simp only [Act.put, List.setIfInBounds_toArray, List.set_cons_zero, List.set_cons_succ]
             refine wpAnyH_take (i := 12) (oi := ?oic14512) (v := ?vc14512) ?hic14512 (by kernel_rfl) (by kernel_rfl) (by kernel_rfl) ?hQc14512 (Or.inl ⟨?hwc14512, ?hyc14512⟩) (by assumption) ?restc14512
             case hic14512 => (first | (simp only [List.getElem?_toArray, List.getElem?_cons_zero, List.getElem?_cons_succ]; rfl) | rfl)
             case hQc14512 => exact fun _ _ _ h => h
             case hwc14512 => rfl
             case hyc14512 => ((intro w hSw; go_simp); first | done | with_reducible rfl)
             try simp only [Act.put, List.setIfInBounds_toArray, List.set_cons_zero, List.set_cons_succ]
             refine wpAnyH_ready (rs := [14]) (by kernel_rfl) (by simp) ?_
             refine AllReadyH.cons (o := ?oc146) ?hc146 ?sc146 AllReadyH.nil
             case hc146 => (simp only [List.getElem?_toArray, List.getElem?_cons_zero, List.getElem?_cons_succ]; rfl)
             case sc146 =>
              intro K hK
              have zc5500 := Gc549.out.cell 0
              have zc5501 := Gc549.out.cell 1
              have zc5502 := Gc549.out.frozen 0
              have zc5503 := Gc549.out.frozen 1
              simp only [List.getElem?_toArray, List.getElem?_cons_zero, List.getElem?_cons_succ] at zc5500 zc5501
              go_simp
              have hgec556 : w12.heap.size ≤ u0c.heap.size := GEc473.out
              have kpc551 : Kept (fun i => i = u0c.heap.size) uc539 ((uc539.setCell ⟨u0c.heap.size, 0, none⟩ (.slice (some ad) k ca)).setCell ⟨u0c.heap.size, 1, none⟩ (.slice Ac542 (m + 1) cc543)) := ((Kept.refl (fun i => i = u0c.heap.size) uc539).setCell (p := ⟨u0c.heap.size, 0, none⟩) (.inl rfl) _).setCell (p := ⟨u0c.heap.size, 1, none⟩) (.inl rfl) _
              have HBc552 := Lib.hid (((HBc546.out).setCell (p := ⟨u0c.heap.size, 0, none⟩) hgec556 (.slice (some ad) k ca)).setCell (p := ⟨u0c.heap.size, 1, none⟩) hgec556 (.slice Ac542 (m + 1) cc543))
              have Gc553 := Lib.hid ((Gc549.out.set_ 0 (.slice (some ad) k ca)).set_ 1 (.slice Ac542 (m + 1) cc543))
              have Oc554 := Lib.hid (ownsRow_kept Oc547.out kpc551 (fun g hg e => own_blk_ne Oc547.out Gc549.out (by decide) (by rw [hg, e])))
              clear zc5500 zc5501 zc5502 zc5503 kpc551 hgec556
              refine hK.out _ _ (⟨below_cells HBc552.out tt0, below_cells HBc552.out tt1, below_cells HBc552.out tt2, below_cells HBc552.out tt3, below_cells HBc552.out tt4⟩) (fun hc147 => ?_)
              clear hK K
              try simp only [Act.put, List.setIfInBounds_toArray, List.set_cons_zero, List.set_cons_succ]
              refine wpAnyH_done (by kernel_rfl) ?_ _
              go_wp2_with fail
              go_meet
              case rel => exact ⟨_, Ac542, cc543, rfl, HBc552.out, by have h := Gc553.out; simpa [Blk] using h, MgSee.own (M := V.mer ++ [⟨ma, mb, mt⟩]) (by have h := Oc554.out; rw [List.flatMap_append, List.flatMap_singleton]; exact h) HLM.out (by unfold maxLen; omega) HFM.out⟩
         case sc128 =>
          intro K hK
          go_simp
          obtain ⟨uc557, huc558⟩ : ∃ z, z = uc467.alloc (.cells #[.int .i64 ma, .int .i64 mb, .int .i64 mt] 25) := ⟨_, rfl⟩
          rw [← huc558]
          have hbc559 : Below uc467.heap.size uc467 uc557 := by rw [huc558]; exact (Below.refl _ uc467).alloc (Nat.le_refl _) _
          have HBc560 := Lib.hid ((HBc470.out).trans ((hbc559).mono (HBc470.out).size))
          have Gc563 := Lib.hid ((Gc471.out).below hbc559 (Gc471.out).lt)
          have Kc561 := Lib.hid ((by rw [huc558]; exact Blk.new uc467 _ _ : Blk uc557 uc467.heap.size 25 #[.int .i64 ma, .int .i64 mb, .int .i64 mt]))
          clear huc558 hbc559
          refine hK.out _ _ (⟨below_cells HBc560.out tt0, below_cells HBc560.out tt1, below_cells HBc560.out tt2, below_cells HBc560.out tt3, below_cells HBc560.out tt4⟩) (fun hc148 => ?_)
          clear hK K
          try simp only [Act.put, List.setIfInBounds_toArray, List.set_cons_zero, List.set_cons_succ]
          refine wpAnyH_ready (rs := [2]) (by kernel_rfl) (by simp) ?_
          refine AllReadyH.cons (o := ?oc149) ?hc149 ?sc149 AllReadyH.nil
          case hc149 => (simp only [List.getElem?_toArray, List.getElem?_cons_zero, List.getElem?_cons_succ]; rfl)
          case sc149 =>
           intro K hK
           go_simp
           obtain ⟨uc564, huc565⟩ : ∃ z, z = uc557.alloc (.cells #[] 25) := ⟨_, rfl⟩
           rw [← huc565]
           have hbc566 : Below uc557.heap.size uc557 uc564 := by rw [huc565]; exact (Below.refl _ uc557).alloc (Nat.le_refl _) _
           have HBc567 := Lib.hid ((HBc560.out).trans ((hbc566).mono (HBc560.out).size))
           have Gc570 := Lib.hid ((Gc563.out).below hbc566 (Gc563.out).lt)
           have Kc571 := Lib.hid ((Kc561.out).below hbc566 (Kc561.out).lt)
           have Oc568 := Lib.hid ((by rw [huc565]; exact World.ownsRow_made uc557 #[] 0 (HBc560.out).size (Nat.zero_le _) rfl : World.ownsRow uc564 w12.heap.size 25 3 (.slice (some ⟨uc557.heap.size, 0, none⟩) 0 0) 0 []))
           clear huc565 hbc566
           have ORc572 : Hid (uc467.heap.size < uc557.heap.size) := Lib.hid (Kc561.out.lt)
           refine hK.out _ _ (⟨below_cells HBc567.out tt0, below_cells HBc567.out tt1, below_cells HBc567.out tt2, below_cells HBc567.out tt3, below_cells HBc567.out tt4⟩) (fun hc150 => ?_)
           clear hK K
           try simp only [Act.put, List.setIfInBounds_toArray, List.set_cons_zero, List.set_cons_succ]
           refine wpAnyH_ready (rs := [5]) (by kernel_rfl) (by simp) ?_
           refine AllReadyH.cons (o := ?oc151) ?hc151 ?sc151 AllReadyH.nil
           case hc151 => (simp only [List.getElem?_toArray, List.getElem?_cons_zero, List.getElem?_cons_succ]; rfl)
           case sc151 =>
            intro K hK
            have NEKc571 := Lib.hid (show Value.ownBlock (.slice (some ⟨uc557.heap.size, 0, none⟩) 0 0) ≠ some uc467.heap.size from fun e => by have h1 : uc557.heap.size = uc467.heap.size := Option.some.inj e; have := ORc572.out; omega)
            refine step_append_srcN _ rfl (.tmp 102) (.tmp 104) 31 rfl w12.heap.size 25 j0 (.agg #[.int .i64 0, .int .i64 0, .int .i64 0]) 3 24 Try.underlying31 hj hy0 hy1 hy2 rfl (by omega) _ 0 [] rfl Oc568.out (some bd) m cb (V.mer.flatMap mgCells) rfl (HMS.out.src.below HBc567.out) (mgCells_one V.mer) (by unfold maxLen; omega) (by omega) ((HBc567.out).size) ?_
            intro vc579 uc573 hwc575 hgc574 hlc578
            obtain ⟨Ac576, cc577, rfl⟩ := own_slice hwc575
            rw [Nat.zero_add, List.nil_append] at hwc575
            rw [Nat.zero_add]
            have HBc580 := Lib.hid ((HBc567.out).grown hgc574 ((HBc567.out).size) (fun k e => (Oc568.out.lt k e).1))
            have Kc583 := Lib.hid ((Kc571.out).grown hgc574 (fun e => NEKc571.out e.symm))
            have Gc584 := Lib.hid ((Gc570.out).grown hgc574 (fun e => own_blk_ne Oc568.out Gc570.out (by decide) e.symm))
            have Oc581 := Lib.hid hwc575
            clear hgc574 hwc575 hlc578
            refine hK.out _ _ (⟨below_cells HBc580.out tt0, below_cells HBc580.out tt1, below_cells HBc580.out tt2, below_cells HBc580.out tt3, below_cells HBc580.out tt4⟩) (fun hc152 => ?_)
            clear hK K
            try simp only [Act.put, List.setIfInBounds_toArray, List.set_cons_zero, List.set_cons_succ]
            refine wpAnyH_ready (rs := [11]) (by kernel_rfl) (by simp) ?_
            refine AllReadyH.cons (o := ?oc153) ?hc153 ?sc153 AllReadyH.nil
            case hc153 => (simp only [List.getElem?_toArray, List.getElem?_cons_zero, List.getElem?_cons_succ]; rfl)
            case sc153 =>
             intro K hK
             refine step_append_srcN _ rfl (.tmp 105) (.tmp 110) 31 rfl w12.heap.size 25 j0 (.agg #[.int .i64 0, .int .i64 0, .int .i64 0]) 3 24 Try.underlying31 hj hy0 hy1 hy2 rfl (by omega) _ m (V.mer.flatMap mgCells) rfl Oc581.out (some ⟨uc467.heap.size, 0, none⟩) 1 1 (mgCells ⟨ma, mb, mt⟩) rfl (⟨rfl, fun ad e j u hu => by cases e; rw [addr_add, Kc583.out.cell]; simpa [mgCells] using hu, fun e => by cases e⟩ : SrcN _ (some ⟨uc467.heap.size, 0, none⟩) 1 3 (mgCells ⟨ma, mb, mt⟩)) (by simp [mgCells, Value.oneCell']) (by unfold maxLen; omega) (by omega) ((HBc580.out).size) ?_
             intro vc591 uc585 hwc587 hgc586 hlc590
             obtain ⟨Ac588, cc589, rfl⟩ := own_slice hwc587

             have HBc592 := Lib.hid ((HBc580.out).grown hgc586 ((HBc580.out).size) (fun k e => (Oc581.out.lt k e).1))
             have Gc595 := Lib.hid ((Gc584.out).grown hgc586 (fun e => own_blk_ne Oc581.out Gc584.out (by decide) e.symm))
             have Oc593 := Lib.hid hwc587
             clear hgc586 hwc587 hlc590
             refine hK.out _ _ (⟨below_cells HBc592.out tt0, below_cells HBc592.out tt1, below_cells HBc592.out tt2, below_cells HBc592.out tt3, below_cells HBc592.out tt4⟩) (fun hc154 => ?_)
             clear hK K
             try simp only [Act.put, List.setIfInBounds_toArray, List.set_cons_zero, List.set_cons_succ]
             refine wpAnyH_take (i := 12) (oi := ?oic15512) (v := ?vc15512) ?hic15512 (by kernel_rfl) (by kernel_rfl) (by kernel_rfl) ?hQc15512 (Or.inl ⟨?hwc15512, ?hyc15512⟩) (by assumption) ?restc15512
             case hic15512 => (first | (simp only [List.getElem?_toArray, List.getElem?_cons_zero, List.getElem?_cons_succ]; rfl) | rfl)
             case hQc15512 => exact fun _ _ _ h => h
             case hwc15512 => rfl
             case hyc15512 => ((intro w hSw; go_simp); first | done | with_reducible rfl)
             try simp only [Act.put, List.setIfInBounds_toArray, List.set_cons_zero, List.set_cons_succ]
             refine wpAnyH_ready (rs := [14]) (by kernel_rfl) (by simp) ?_
             refine AllReadyH.cons (o := ?oc156) ?hc156 ?sc156 AllReadyH.nil
             case hc156 => (simp only [List.getElem?_toArray, List.getElem?_cons_zero, List.getElem?_cons_succ]; rfl)
             case sc156 =>
              intro K hK
              have zc5960 := Gc595.out.cell 0
              have zc5961 := Gc595.out.cell 1
              have zc5962 := Gc595.out.frozen 0
              have zc5963 := Gc595.out.frozen 1
              simp only [List.getElem?_toArray, List.getElem?_cons_zero, List.getElem?_cons_succ] at zc5960 zc5961
              go_simp
              have hgec602 : w12.heap.size ≤ u0c.heap.size := GEc473.out
              have kpc597 : Kept (fun i => i = u0c.heap.size) uc585 ((uc585.setCell ⟨u0c.heap.size, 0, none⟩ (.slice (some ad) k ca)).setCell ⟨u0c.heap.size, 1, none⟩ (.slice Ac588 (m + 1) cc589)) := ((Kept.refl (fun i => i = u0c.heap.size) uc585).setCell (p := ⟨u0c.heap.size, 0, none⟩) (.inl rfl) _).setCell (p := ⟨u0c.heap.size, 1, none⟩) (.inl rfl) _
              have HBc598 := Lib.hid (((HBc592.out).setCell (p := ⟨u0c.heap.size, 0, none⟩) hgec602 (.slice (some ad) k ca)).setCell (p := ⟨u0c.heap.size, 1, none⟩) hgec602 (.slice Ac588 (m + 1) cc589))
              have Gc599 := Lib.hid ((Gc595.out.set_ 0 (.slice (some ad) k ca)).set_ 1 (.slice Ac588 (m + 1) cc589))
              have Oc600 := Lib.hid (ownsRow_kept Oc593.out kpc597 (fun g hg e => own_blk_ne Oc593.out Gc595.out (by decide) (by rw [hg, e])))
              clear zc5960 zc5961 zc5962 zc5963 kpc597 hgec602
              refine hK.out _ _ (⟨below_cells HBc598.out tt0, below_cells HBc598.out tt1, below_cells HBc598.out tt2, below_cells HBc598.out tt3, below_cells HBc598.out tt4⟩) (fun hc157 => ?_)
              clear hK K
              try simp only [Act.put, List.setIfInBounds_toArray, List.set_cons_zero, List.set_cons_succ]
              refine wpAnyH_done (by kernel_rfl) ?_ _
              go_wp2_with fail
              go_meet
              case rel => exact ⟨_, Ac588, cc589, rfl, HBc598.out, by have h := Gc599.out; simpa [Blk] using h, MgSee.own (M := V.mer ++ [⟨ma, mb, mt⟩]) (by have h := Oc600.out; rw [List.flatMap_append, List.flatMap_singleton]; exact h) HLM.out (by unfold maxLen; omega) HFM.out⟩
      case rest =>
        obtain ⟨g11, B11, c11, rfl, hbW, hv11, hs11, hc11⟩ := hcut
        have HBL := Lib.hid (below_then HBK.out hbW HBK.out.size)
        have HS11 := Lib.hid (⟨HS5.out.tok.below hbW, hs11, HS5.out.capT, hc11⟩ : VocSee wc (some ad) B11 k (m + 1) ca c11 ⟨V.tok, V.mer ++ [⟨ma, mb, mt⟩]⟩)
        have x5 := hv11.cell 0
        have x6 := hv11.cell 1
        simp only [List.getElem?_toArray, List.getElem?_cons_zero, List.getElem?_cons_succ] at x5 x6
        clear hbW hv11 hs11 hc11 tt0 tt1 tt2 tt3 tt4
        go_wp2_with fail
        refine (vCheck_is wc (some ad) B11 k (m + 1) ca c11 ⟨V.tok, V.mer ++ [⟨ma, mb, mt⟩]⟩ HS11.out (check_again HOK.out HMG.out (by rw [HM.out]; exact hmlt))).mono ?_
        rintro e w14 ⟨rfl, hb⟩
        have HBN := Lib.hid (below_then HBL.out hb HBL.out.size)
        clear hb x5 x6
        go_wp2
        go_ret
        exact ⟨rfl, HBN.out⟩
end Go.Proofs.Ytecpihghlelefaa
