/- VocabMore, walked. -/
import Derived.Test.YtecpihghlelefaaVRows
import Derived.Test.YtecpihghlelefaaVLaws1
import Derived.Deep.DeepCutAuto
import Derived.Deep.RegionHeld3
namespace Go.Proofs.Ytecpihghlelefaa
open Go.RowKit Go.Maps Go.WideMaps
set_option linter.unusedSimpArgs false

set_option maxHeartbeats 16000000 in
set_option maxRecDepth 100000 in
theorem vocabMore_any (w : World) (A : Option Addr) (n c : Nat) (l : List (Int × Int)) (hl : PairsIn w A n l) (x y : Int) (hx : fits64 x) (hy : fits64 y) :
    Calls Try.prog 6 #[.slice A n c, .agg #[.int .i64 x, .int .i64 y]] w fun e w' => e = .returned (.bool true) ∧ Below w.heap.size w w' := by
  obtain ⟨i0, hi, hz0, hz1, hz2⟩ := info_parts pairInfo
  have HL := Lib.hid hl
  have hn63 : n ≤ 9223372036854775807 := hl.fit
  obtain ⟨V, E, hB⟩ : ∃ V E, buildAll l = (V, E) := ⟨_, _, rfl⟩
  obtain ⟨V2, E2, hB2⟩ : ∃ V E, buildAll (l ++ [(x, y)]) = (V, E) := ⟨_, _, rfl⟩
  obtain ⟨k, hk⟩ : ∃ k, V.tok.length = k := ⟨_, rfl⟩
  obtain ⟨m, hm⟩ : ∃ m, V.mer.length = m := ⟨_, rfl⟩
  obtain ⟨k2, hk2⟩ : ∃ k, V2.tok.length = k := ⟨_, rfl⟩
  obtain ⟨m2, hm2⟩ : ∃ m, V2.mer.length = m := ⟨_, rfl⟩
  have hsh2 : ∀ s ∈ V2.tok, 1 ≤ s.length := by
    by_cases he : E2 = 0
    · have h := build_ok (l ++ [(x, y)]) ⟨ones, []⟩ ones_ok (by show (buildAll _).2 = 0; rw [hB2]; exact he)
      have e : buildV ⟨ones, []⟩ (l ++ [(x, y)]) = (V2, E2) := hB2
      rw [e] at h
      exact fun s hs => (h.short s hs).1
    · have h := build_none (l ++ [(x, y)]) ⟨ones, []⟩ (by show (buildAll _).2 ≠ 0; rw [hB2]; exact he)
      have e : buildV ⟨ones, []⟩ (l ++ [(x, y)]) = (V2, E2) := hB2
      rw [e] at h
      have h' : V2 = ⟨[], []⟩ := h
      rw [h']
      exact fun s hs => by simp at hs
  have HBA := Lib.hid hB
  have HBA2 := Lib.hid hB2
  have HK := Lib.hid hk
  have HM := Lib.hid hm
  have HK2 := Lib.hid hk2
  have HM2 := Lib.hid hm2
  have HLN := Lib.hid hl.len
  have HXY := Lib.hid (⟨hx, hy⟩ : fits64 x ∧ fits64 y)
  have HSH2 := Lib.hid hsh2
  have hq := Blk.new w 45 #[.int .i64 x, .int .i64 y]
  have b0 := (Below.refl w.heap.size w).alloc (Nat.le_refl _) (.cells #[.int .i64 x, .int .i64 y] 45)
  obtain ⟨W0, hW0⟩ : ∃ W, W = w.alloc (.cells #[.int .i64 x, .int .i64 y] 45) := ⟨_, rfl⟩
  rw [← hW0] at hq b0
  have HW0 := Lib.hid hW0
  have HQ := Lib.hid hq
  have HB0 := Lib.hid b0
  have HL0' := Lib.hid (hl.below b0)
  clear hl hB hB2 hk hm hk2 hm2 hsh2 hW0 hq b0 hx hy
  go_enter Try.func6, Try.ntmps6
  go_wp2_with fail
  rw [← HW0.out]
  refine (vocabHead_any W0).mono ?_
  rintro e w1 ⟨rfl, hb⟩
  have HB1 := Lib.hid (below_then HB0.out hb HB0.out.size)
  have HL1 := Lib.hid (HL0'.out.below hb)
  have HQ1 := Lib.hid (HQ.out.below hb HQ.out.lt)
  clear hb
  by_cases hbig : 600 < n
  · have hbz : (600 : Int) < (n : Int) := by omega
    go_wp2
    go_ret
    exact ⟨rfl, HB1.out⟩
  have hbz : ¬ (600 : Int) < (n : Int) := by omega
  go_wp2_with fail
  refine (vBuild_is w1 A n c l HL1.out HBA.out HK.out HM.out).mono ?_
  rintro e w2 ⟨AT, BM, ca, cb, rfl, hsee, hb⟩
  have HB2 := Lib.hid (below_then HB1.out hb HB1.out.size)
  have HL2 := Lib.hid (HL1.out.below hb)
  have HQ2 := Lib.hid (HQ1.out.below hb HQ1.out.lt)
  have hb3 := (Below.refl w2.heap.size w2).alloc (Nat.le_refl _) (.cells #[.slice AT k ca, .slice BM m cb] 33)
  obtain ⟨W, hW⟩ : ∃ W, W = w2.alloc (.cells #[.slice AT k ca, .slice BM m cb] 33) := ⟨_, rfl⟩
  have hv3 : Blk W w2.heap.size 33 #[.slice AT k ca, .slice BM m cb] := by rw [hW]; exact Blk.new _ _ _
  rw [← hW] at hb3
  have HS3 := Lib.hid (hsee.below hb3)
  have HB3 := Lib.hid (below_then HB2.out hb3 HB2.out.size)
  have HLW := Lib.hid (HL2.out.below hb3)
  have HV3 := Lib.hid hv3
  have HQ3 := Lib.hid (HQ2.out.below hb3 HQ2.out.lt)
  have HW := Lib.hid hW
  clear hsee hb hb3 hW hv3 HL HL0' HL1 HL2 HQ HQ1 HQ2
  have m0 := HQ3.out.cell 0
  have m1 := HQ3.out.cell 1
  simp only [List.getElem?_toArray, List.getElem?_cons_zero, List.getElem?_cons_succ] at m0 m1
  have hS : W.cell? ⟨w.heap.size, 0, none⟩ = some (.int .i64 x) ∧ W.cell? ⟨w.heap.size, 1, none⟩ = some (.int .i64 y) := ⟨m0, m1⟩
  go_wp2_with fail
  rw [← HW.out]
  go_cut [8, 9] (fun p f wx => ∃ g A2 B2 ca2 cb2, p = .pointer (some ⟨g, 0, none⟩) ∧ f = .int .i64 E2 ∧ Below W.heap.size W wx ∧ Blk wx g 33 #[.slice A2 k2 ca2, .slice B2 m2 cb2] ∧ VocSee wx A2 B2 k2 m2 ca2 cb2 V2)
  case first =>
    refine wp_region_held_drew (S := fun w' => w'.cell? ⟨w.heap.size, 0, none⟩ = some (.int .i64 x) ∧ w'.cell? ⟨w.heap.size, 1, none⟩ = some (.int .i64 y)) (by kernel_rfl) ?_ (fun hHeld => ?_)
    · exact hS
    obtain ⟨u0, hu0⟩ : ∃ z, z = W.drew := ⟨_, rfl⟩
    rw [← hu0] at hHeld ⊢
    have HBW : Hid (Below W.heap.size W u0) := Lib.hid (by rw [hu0]; exact (Below.refl _ W).drew)
    have HL0 := Lib.hid (HLW.out.below HBW.out)
    clear hu0
    refine wpAnyH_take (i := 1) (oi := ?oio11) (v := ?vo11) ?hio11 (by kernel_rfl) (by kernel_rfl) (by kernel_rfl) ?hQo11 (Or.inl ⟨?hwo11, ?hyo11⟩) (by assumption) ?resto11
    case hio11 => (first | (simp only [List.getElem?_toArray, List.getElem?_cons_zero, List.getElem?_cons_succ]; rfl) | rfl)
    case hQo11 => exact fun _ _ _ h => h
    case hwo11 => rfl
    case hyo11 => ((intro w hSw; go_simp); first | done | with_reducible rfl)
    try simp only [Act.put, List.setIfInBounds_toArray, List.set_cons_zero, List.set_cons_succ]
    refine wpAnyH_take (i := 3) (oi := ?oio23) (v := ?vo23) ?hio23 (by kernel_rfl) (by kernel_rfl) (by kernel_rfl) ?hQo23 (Or.inl ⟨?hwo23, ?hyo23⟩) (by assumption) ?resto23
    case hio23 => (first | (simp only [List.getElem?_toArray, List.getElem?_cons_zero, List.getElem?_cons_succ]; rfl) | rfl)
    case hQo23 => exact fun _ _ _ h => h
    case hwo23 => rfl
    case hyo23 => ((intro w hSw; go_simp); first | done | with_reducible rfl)
    try simp only [Act.put, List.setIfInBounds_toArray, List.set_cons_zero, List.set_cons_succ]
    refine wpAnyH_ready (rs := [0, 4, 10]) (by kernel_rfl) (by simp) ?_
    refine AllReadyH.cons (o := ?oo3) ?ho3 ?so3 (AllReadyH.cons (o := ?oo4) ?ho4 ?so4 (AllReadyH.cons (o := ?oo5) ?ho5 ?so5 AllReadyH.nil))
    case ho3 => (simp only [List.getElem?_toArray, List.getElem?_cons_zero, List.getElem?_cons_succ]; rfl)
    case ho4 => (simp only [List.getElem?_toArray, List.getElem?_cons_zero, List.getElem?_cons_succ]; rfl)
    case ho5 => (simp only [List.getElem?_toArray, List.getElem?_cons_zero, List.getElem?_cons_succ]; rfl)
    case so3 =>
      intro K hK
      go_simp
      obtain ⟨u1, hu2⟩ : ∃ z, z = u0.alloc (.cells #[] 45) := ⟨_, rfl⟩
      rw [← hu2]
      have hb3 : Below u0.heap.size u0 u1 := by rw [hu2]; exact (Below.refl _ u0).alloc (Nat.le_refl _) _
      have HB4 := Lib.hid ((HBW.out).trans ((hb3).mono (HBW.out).size))
      have HL5 := Lib.hid ((HL0.out).below hb3)
      have O236 := Lib.hid ((by rw [hu2]; exact World.ownsRow_made u0 #[] 0 (HBW.out).size (Nat.zero_le _) rfl : World.ownsRow u1 W.heap.size 45 2 (.slice (some ⟨u0.heap.size, 0, none⟩) 0 0) 0 []))
      have hS7 : (fun w' => w'.cell? ⟨w.heap.size, 0, none⟩ = some (.int .i64 x) ∧ w'.cell? ⟨w.heap.size, 1, none⟩ = some (.int .i64 y)) u1 := ⟨below_cells hb3 hHeld.1, below_cells hb3 hHeld.2⟩
      clear hu2 hb3
      refine hK.out _ _ hS7 (fun ho6 => ?_)
      clear hK K
      try simp only [Act.put, List.setIfInBounds_toArray, List.set_cons_zero, List.set_cons_succ]
      refine wpAnyH_ready (rs := [2, 4, 10]) (by kernel_rfl) (by simp) ?_
      refine AllReadyH.cons (o := ?oo7) ?ho7 ?so7 (AllReadyH.cons (o := ?oo8) ?ho8 ?so8 (AllReadyH.cons (o := ?oo9) ?ho9 ?so9 AllReadyH.nil))
      case ho7 => (simp only [List.getElem?_toArray, List.getElem?_cons_zero, List.getElem?_cons_succ]; rfl)
      case ho8 => (simp only [List.getElem?_toArray, List.getElem?_cons_zero, List.getElem?_cons_succ]; rfl)
      case ho9 => (simp only [List.getElem?_toArray, List.getElem?_cons_zero, List.getElem?_cons_succ]; rfl)
      case so7 =>
        intro K hK
        refine step_append_srcN _ rfl (.tmp 23) (.tmp 24) 22 rfl W.heap.size 45 i0 (.agg #[.int .i64 0, .int .i64 0]) 2 16 Try.underlying22 hi hz0 hz1 hz2 rfl (by omega) _ 0 [] rfl O236.out A n c (l.flatMap prCells) rfl (HL5.out.src) (prCells_one l) (by unfold maxLen; omega) (by omega) ((HB4.out).size) ?_
        intro v14 u8 hw10 hg9 hl13
        obtain ⟨A11, c12, rfl⟩ := own_slice hw10
        rw [Nat.zero_add, List.nil_append] at hw10
        rw [Nat.zero_add]
        have HB15 := Lib.hid ((HB4.out).grown hg9 ((HB4.out).size) (fun k e => (O236.out.lt k e).1))
        have HL16 := Lib.hid (HLW.out.below HB15.out)
        have O2517 := Lib.hid hw10
        have hS18 : (fun w' => w'.cell? ⟨w.heap.size, 0, none⟩ = some (.int .i64 x) ∧ w'.cell? ⟨w.heap.size, 1, none⟩ = some (.int .i64 y)) u8 := ⟨below_cells HB15.out hS.1, below_cells HB15.out hS.2⟩
        clear hg9 hw10 hl13
        refine hK.out _ _ hS18 (fun ho10 => ?_)
        clear hK K
        try simp only [Act.put, List.setIfInBounds_toArray, List.set_cons_zero, List.set_cons_succ]
        refine wpAnyH_ready (rs := [4, 10]) (by kernel_rfl) (by simp) ?_
        refine AllReadyH.cons (o := ?oo11) ?ho11 ?so11 (AllReadyH.cons (o := ?oo12) ?ho12 ?so12 AllReadyH.nil)
        case ho11 => (simp only [List.getElem?_toArray, List.getElem?_cons_zero, List.getElem?_cons_succ]; rfl)
        case ho12 => (simp only [List.getElem?_toArray, List.getElem?_cons_zero, List.getElem?_cons_succ]; rfl)
        case so11 =>
          intro K hK
          go_simp
          obtain ⟨u19, hu20⟩ : ∃ z, z = u8.alloc (.cells #[.int .i64 x, .int .i64 y] 45) := ⟨_, rfl⟩
          rw [← hu20]
          have hb21 : Below u8.heap.size u8 u19 := by rw [hu20]; exact (Below.refl _ u8).alloc (Nat.le_refl _) _
          have HB22 := Lib.hid ((HB15.out).trans ((hb21).mono (HB15.out).size))
          have HL23 := Lib.hid ((HL16.out).below hb21)
          have O2524 := Lib.hid (ownsRow_block (O2517.out) (fun g hg => (hb21).block g ((O2517.out).lt g hg).2))
          have K2725 := Lib.hid ((by rw [hu20]; exact Blk.new u8 _ _ : Blk u19 u8.heap.size 45 #[.int .i64 x, .int .i64 y]))
          have hS26 : (fun w' => w'.cell? ⟨w.heap.size, 0, none⟩ = some (.int .i64 x) ∧ w'.cell? ⟨w.heap.size, 1, none⟩ = some (.int .i64 y)) u19 := ⟨below_cells hb21 hS18.1, below_cells hb21 hS18.2⟩
          clear hu20 hb21
          refine hK.out _ _ hS26 (fun ho13 => ?_)
          clear hK K
          try simp only [Act.put, List.setIfInBounds_toArray, List.set_cons_zero, List.set_cons_succ]
          refine wpAnyH_ready (rs := [5, 10]) (by kernel_rfl) (by simp) ?_
          refine AllReadyH.cons (o := ?oo14) ?ho14 ?so14 (AllReadyH.cons (o := ?oo15) ?ho15 ?so15 AllReadyH.nil)
          case ho14 => (simp only [List.getElem?_toArray, List.getElem?_cons_zero, List.getElem?_cons_succ]; rfl)
          case ho15 => (simp only [List.getElem?_toArray, List.getElem?_cons_zero, List.getElem?_cons_succ]; rfl)
          case so14 =>
            intro K hK
            refine step_append_srcN _ rfl (.tmp 25) (.tmp 27) 22 rfl W.heap.size 45 i0 (.agg #[.int .i64 0, .int .i64 0]) 2 16 Try.underlying22 hi hz0 hz1 hz2 rfl (by omega) _ n (l.flatMap prCells) rfl O2524.out (some ⟨u8.heap.size, 0, none⟩) 1 1 (prCells (x, y)) rfl (⟨rfl, fun ad e j u hu => by cases e; rw [addr_add, K2725.out.cell]; simpa [prCells] using hu, fun e => by cases e⟩ : SrcN _ (some ⟨u8.heap.size, 0, none⟩) 1 2 (prCells (x, y))) (by simp [prCells, Value.oneCell']) (by unfold maxLen; omega) (by omega) ((HB22.out).size) ?_
            intro v33 u27 hw29 hg28 hl32
            obtain ⟨A30, c31, rfl⟩ := own_slice hw29
            have HB34 := Lib.hid ((HB22.out).grown hg28 ((HB22.out).size) (fun k e => (O2524.out.lt k e).1))
            have HL35 := Lib.hid (HLW.out.below HB34.out)
            have O2837 := Lib.hid hw29
            have hS38 : (fun w' => w'.cell? ⟨w.heap.size, 0, none⟩ = some (.int .i64 x) ∧ w'.cell? ⟨w.heap.size, 1, none⟩ = some (.int .i64 y)) u27 := ⟨below_cells HB34.out hS.1, below_cells HB34.out hS.2⟩
            clear hg28 hw29 hl32
            refine hK.out _ _ hS38 (fun ho16 => ?_)
            clear hK K
            try simp only [Act.put, List.setIfInBounds_toArray, List.set_cons_zero, List.set_cons_succ]
            refine wpAnyH_ready (rs := [6, 10]) (by kernel_rfl) (by simp) ?_
            refine AllReadyH.cons (o := ?oo17) ?ho17 ?so17 (AllReadyH.cons (o := ?oo18) ?ho18 ?so18 AllReadyH.nil)
            case ho17 => (simp only [List.getElem?_toArray, List.getElem?_cons_zero, List.getElem?_cons_succ]; rfl)
            case ho18 => (simp only [List.getElem?_toArray, List.getElem?_cons_zero, List.getElem?_cons_succ]; rfl)
            case so17 =>
              intro K hK
              have P46 := Lib.hid (PairsIn.own (l := l ++ [(x, y)]) (n := n + 1) (c := c31) (by have h := O2837.out; rw [List.flatMap_append, List.flatMap_singleton]; exact h) (by rw [List.length_append, HLN.out]; rfl) (by unfold maxLen; omega) (fun p hp => by
                rcases List.mem_append.1 hp with h | h
                · exact HLW.out.vals p h
                · rw [List.mem_singleton.1 h]; exact HXY.out))
              go_simp
              refine (vBuild_is u27 A30 (n + 1) c31 (l ++ [(x, y)]) P46.out HBA2.out HK2.out HM2.out).mono ?_
              rintro e u39 ⟨A43, B41, c44, c42, rfl, hs45, hb40⟩
              have HS47 := Lib.hid hs45
              have HB48 := Lib.hid (below_then HB34.out hb40 (HB34.out).size)
              have hS49 : (fun w' => w'.cell? ⟨w.heap.size, 0, none⟩ = some (.int .i64 x) ∧ w'.cell? ⟨w.heap.size, 1, none⟩ = some (.int .i64 y)) u39 := ⟨below_cells HB48.out hS.1, below_cells HB48.out hS.2⟩
              clear hs45 hb40
              go_wp2_with fail
              refine hK.out _ _ hS49 (fun ho19 => ?_)
              clear hK K
              try simp only [Act.put, List.setIfInBounds_toArray, List.set_cons_zero, List.set_cons_succ]
              refine wpAnyH_take (i := 7) (oi := ?oio207) (v := ?vo207) ?hio207 (by kernel_rfl) (by kernel_rfl) (by kernel_rfl) ?hQo207 (Or.inl ⟨?hwo207, ?hyo207⟩) (by assumption) ?resto207
              case hio207 => (first | (simp only [List.getElem?_toArray, List.getElem?_cons_zero, List.getElem?_cons_succ]; rfl) | rfl)
              case hQo207 => exact fun _ _ _ h => h
              case hwo207 => rfl
              case hyo207 => ((intro w hSw; go_simp); first | done | with_reducible rfl)
              try simp only [Act.put, List.setIfInBounds_toArray, List.set_cons_zero, List.set_cons_succ]
              refine wpAnyH_take (i := 8) (oi := ?oio218) (v := ?vo218) ?hio218 (by kernel_rfl) (by kernel_rfl) (by kernel_rfl) ?hQo218 (Or.inl ⟨?hwo218, ?hyo218⟩) (by assumption) ?resto218
              case hio218 => (first | (simp only [List.getElem?_toArray, List.getElem?_cons_zero, List.getElem?_cons_succ]; rfl) | rfl)
              case hQo218 => exact fun _ _ _ h => h
              case hwo218 => rfl
              case hyo218 => ((intro w hSw; go_simp); first | done | with_reducible rfl)
              try simp only [Act.put, List.setIfInBounds_toArray, List.set_cons_zero, List.set_cons_succ]
              refine wpAnyH_take (i := 9) (oi := ?oio229) (v := ?vo229) ?hio229 (by kernel_rfl) (by kernel_rfl) (by kernel_rfl) ?hQo229 (Or.inl ⟨?hwo229, ?hyo229⟩) (by assumption) ?resto229
              case hio229 => (first | (simp only [List.getElem?_toArray, List.getElem?_cons_zero, List.getElem?_cons_succ]; rfl) | rfl)
              case hQo229 => exact fun _ _ _ h => h
              case hwo229 => rfl
              case hyo229 => ((intro w hSw; go_simp); first | done | with_reducible rfl)
              try simp only [Act.put, List.setIfInBounds_toArray, List.set_cons_zero, List.set_cons_succ]
              refine wpAnyH_ready (rs := [10]) (by kernel_rfl) (by simp) ?_
              refine AllReadyH.cons (o := ?oo23) ?ho23 ?so23 AllReadyH.nil
              case ho23 => (simp only [List.getElem?_toArray, List.getElem?_cons_zero, List.getElem?_cons_succ]; rfl)
              case so23 =>
                intro K hK
                go_simp
                obtain ⟨u50, hu51⟩ : ∃ z, z = u39.alloc (.cells #[.slice none 0 0, .slice none 0 0] 33) := ⟨_, rfl⟩
                rw [← hu51]
                have hb52 : Below u39.heap.size u39 u50 := by rw [hu51]; exact (Below.refl _ u39).alloc (Nat.le_refl _) _
                have HB53 := Lib.hid ((HB48.out).trans ((hb52).mono (HB48.out).size))
                have VS54 := Lib.hid ((HS47.out).below hb52)
                have G855 := Lib.hid ((by rw [hu51]; exact Blk.new u39 _ _ : Blk u50 u39.heap.size 33 #[.slice none 0 0, .slice none 0 0]))
                have hS56 : (fun w' => w'.cell? ⟨w.heap.size, 0, none⟩ = some (.int .i64 x) ∧ w'.cell? ⟨w.heap.size, 1, none⟩ = some (.int .i64 y)) u50 := ⟨below_cells hb52 hS49.1, below_cells hb52 hS49.2⟩
                clear hu51 hb52
                have GE57 := Lib.hid ((HB48.out).size)
                refine hK.out _ _ hS56 (fun ho24 => ?_)
                clear hK K
                try simp only [Act.put, List.setIfInBounds_toArray, List.set_cons_zero, List.set_cons_succ]
                refine wpAnyH_ready (rs := [11]) (by kernel_rfl) (by simp) ?_
                refine AllReadyH.cons (o := ?oo25) ?ho25 ?so25 AllReadyH.nil
                case ho25 => (simp only [List.getElem?_toArray, List.getElem?_cons_zero, List.getElem?_cons_succ]; rfl)
                case so25 =>
                  intro K hK
                  have z580 := G855.out.cell 0
                  have z581 := G855.out.cell 1
                  have z582 := G855.out.frozen 0
                  have z583 := G855.out.frozen 1
                  simp only [List.getElem?_toArray, List.getElem?_cons_zero, List.getElem?_cons_succ] at z580 z581
                  go_simp
                  have hge64 : W.heap.size ≤ u39.heap.size := GE57.out
                  have kp59 : Kept (fun i => i = u39.heap.size) u50 ((u50.setCell ⟨u39.heap.size, 0, none⟩ (.slice A43 k2 c44)).setCell ⟨u39.heap.size, 1, none⟩ (.slice B41 m2 c42)) := ((Kept.refl (fun i => i = u39.heap.size) u50).setCell (p := ⟨u39.heap.size, 0, none⟩) (.inl rfl) _).setCell (p := ⟨u39.heap.size, 1, none⟩) (.inl rfl) _
                  have HB60 := Lib.hid (((HB53.out).setCell (p := ⟨u39.heap.size, 0, none⟩) hge64 (.slice A43 k2 c44)).setCell (p := ⟨u39.heap.size, 1, none⟩) hge64 (.slice B41 m2 c42))
                  have G861 := Lib.hid ((G855.out.set_ 0 (.slice A43 k2 c44)).set_ 1 (.slice B41 m2 c42))
                  have VS62 := Lib.hid (VS54.out.far HSH2.out G855.out kp59)
                  have hS63 : (fun w' => w'.cell? ⟨w.heap.size, 0, none⟩ = some (.int .i64 x) ∧ w'.cell? ⟨w.heap.size, 1, none⟩ = some (.int .i64 y)) ((u50.setCell ⟨u39.heap.size, 0, none⟩ (.slice A43 k2 c44)).setCell ⟨u39.heap.size, 1, none⟩ (.slice B41 m2 c42)) := ⟨below_cells HB60.out hS.1, below_cells HB60.out hS.2⟩
                  clear z580 z581 z582 z583 kp59 hge64
                  refine hK.out _ _ hS63 (fun ho26 => ?_)
                  clear hK K
                  try simp only [Act.put, List.setIfInBounds_toArray, List.set_cons_zero, List.set_cons_succ]
                  refine wpAnyH_take (i := 12) (oi := ?oio2712) (v := ?vo2712) ?hio2712 (by kernel_rfl) (by kernel_rfl) (by kernel_rfl) ?hQo2712 (Or.inl ⟨?hwo2712, ?hyo2712⟩) (by assumption) ?resto2712
                  case hio2712 => (first | (simp only [List.getElem?_toArray, List.getElem?_cons_zero, List.getElem?_cons_succ]; rfl) | rfl)
                  case hQo2712 => exact fun _ _ _ h => h
                  case hwo2712 => rfl
                  case hyo2712 => ((intro w hSw; go_simp); first | done | with_reducible rfl)
                  try simp only [Act.put, List.setIfInBounds_toArray, List.set_cons_zero, List.set_cons_succ]
                  refine wpAnyH_done (by kernel_rfl) ?_ _
                  go_wp2_with fail
                  go_meet
                  case rel => exact ⟨_, A43, B41, c44, c42, rfl, rfl, HB60.out, by have h := G861.out; simpa [Blk] using h, VS62.out⟩
            case so18 =>
              intro K hK
              go_simp
              obtain ⟨u65, hu66⟩ : ∃ z, z = u27.alloc (.cells #[.slice none 0 0, .slice none 0 0] 33) := ⟨_, rfl⟩
              rw [← hu66]
              have hb67 : Below u27.heap.size u27 u65 := by rw [hu66]; exact (Below.refl _ u27).alloc (Nat.le_refl _) _
              have HB68 := Lib.hid ((HB34.out).trans ((hb67).mono (HB34.out).size))
              have HL69 := Lib.hid ((HL35.out).below hb67)
              have O2870 := Lib.hid (ownsRow_block (O2837.out) (fun g hg => (hb67).block g ((O2837.out).lt g hg).2))
              have G871 := Lib.hid ((by rw [hu66]; exact Blk.new u27 _ _ : Blk u65 u27.heap.size 33 #[.slice none 0 0, .slice none 0 0]))
              have hS72 : (fun w' => w'.cell? ⟨w.heap.size, 0, none⟩ = some (.int .i64 x) ∧ w'.cell? ⟨w.heap.size, 1, none⟩ = some (.int .i64 y)) u65 := ⟨below_cells hb67 hS38.1, below_cells hb67 hS38.2⟩
              clear hu66 hb67
              have GE73 := Lib.hid ((HB34.out).size)
              refine hK.out _ _ hS72 (fun ho28 => ?_)
              clear hK K
              try simp only [Act.put, List.setIfInBounds_toArray, List.set_cons_zero, List.set_cons_succ]
              refine wpAnyH_ready (rs := [6]) (by kernel_rfl) (by simp) ?_
              refine AllReadyH.cons (o := ?oo29) ?ho29 ?so29 AllReadyH.nil
              case ho29 => (simp only [List.getElem?_toArray, List.getElem?_cons_zero, List.getElem?_cons_succ]; rfl)
              case so29 =>
                intro K hK
                have P81 := Lib.hid (PairsIn.own (l := l ++ [(x, y)]) (n := n + 1) (c := c31) (by have h := O2870.out; rw [List.flatMap_append, List.flatMap_singleton]; exact h) (by rw [List.length_append, HLN.out]; rfl) (by unfold maxLen; omega) (fun p hp => by
                  rcases List.mem_append.1 hp with h | h
                  · exact HLW.out.vals p h
                  · rw [List.mem_singleton.1 h]; exact HXY.out))
                go_simp
                refine (vBuild_is u65 A30 (n + 1) c31 (l ++ [(x, y)]) P81.out HBA2.out HK2.out HM2.out).mono ?_
                rintro e u74 ⟨A78, B76, c79, c77, rfl, hs80, hb75⟩
                have HS82 := Lib.hid hs80
                have G883 := Lib.hid ((G871.out).below hb75 (G871.out).lt)
                have HB84 := Lib.hid (below_then HB68.out hb75 (HB68.out).size)
                have hS85 : (fun w' => w'.cell? ⟨w.heap.size, 0, none⟩ = some (.int .i64 x) ∧ w'.cell? ⟨w.heap.size, 1, none⟩ = some (.int .i64 y)) u74 := ⟨below_cells HB84.out hS.1, below_cells HB84.out hS.2⟩
                clear hs80 hb75
                go_wp2_with fail
                refine hK.out _ _ hS85 (fun ho30 => ?_)
                clear hK K
                try simp only [Act.put, List.setIfInBounds_toArray, List.set_cons_zero, List.set_cons_succ]
                refine wpAnyH_take (i := 7) (oi := ?oio317) (v := ?vo317) ?hio317 (by kernel_rfl) (by kernel_rfl) (by kernel_rfl) ?hQo317 (Or.inl ⟨?hwo317, ?hyo317⟩) (by assumption) ?resto317
                case hio317 => (first | (simp only [List.getElem?_toArray, List.getElem?_cons_zero, List.getElem?_cons_succ]; rfl) | rfl)
                case hQo317 => exact fun _ _ _ h => h
                case hwo317 => rfl
                case hyo317 => ((intro w hSw; go_simp); first | done | with_reducible rfl)
                try simp only [Act.put, List.setIfInBounds_toArray, List.set_cons_zero, List.set_cons_succ]
                refine wpAnyH_take (i := 8) (oi := ?oio328) (v := ?vo328) ?hio328 (by kernel_rfl) (by kernel_rfl) (by kernel_rfl) ?hQo328 (Or.inl ⟨?hwo328, ?hyo328⟩) (by assumption) ?resto328
                case hio328 => (first | (simp only [List.getElem?_toArray, List.getElem?_cons_zero, List.getElem?_cons_succ]; rfl) | rfl)
                case hQo328 => exact fun _ _ _ h => h
                case hwo328 => rfl
                case hyo328 => ((intro w hSw; go_simp); first | done | with_reducible rfl)
                try simp only [Act.put, List.setIfInBounds_toArray, List.set_cons_zero, List.set_cons_succ]
                refine wpAnyH_take (i := 9) (oi := ?oio339) (v := ?vo339) ?hio339 (by kernel_rfl) (by kernel_rfl) (by kernel_rfl) ?hQo339 (Or.inl ⟨?hwo339, ?hyo339⟩) (by assumption) ?resto339
                case hio339 => (first | (simp only [List.getElem?_toArray, List.getElem?_cons_zero, List.getElem?_cons_succ]; rfl) | rfl)
                case hQo339 => exact fun _ _ _ h => h
                case hwo339 => rfl
                case hyo339 => ((intro w hSw; go_simp); first | done | with_reducible rfl)
                try simp only [Act.put, List.setIfInBounds_toArray, List.set_cons_zero, List.set_cons_succ]
                refine wpAnyH_ready (rs := [11]) (by kernel_rfl) (by simp) ?_
                refine AllReadyH.cons (o := ?oo34) ?ho34 ?so34 AllReadyH.nil
                case ho34 => (simp only [List.getElem?_toArray, List.getElem?_cons_zero, List.getElem?_cons_succ]; rfl)
                case so34 =>
                  intro K hK
                  have z860 := G883.out.cell 0
                  have z861 := G883.out.cell 1
                  have z862 := G883.out.frozen 0
                  have z863 := G883.out.frozen 1
                  simp only [List.getElem?_toArray, List.getElem?_cons_zero, List.getElem?_cons_succ] at z860 z861
                  go_simp
                  have hge92 : W.heap.size ≤ u27.heap.size := GE73.out
                  have kp87 : Kept (fun i => i = u27.heap.size) u74 ((u74.setCell ⟨u27.heap.size, 0, none⟩ (.slice A78 k2 c79)).setCell ⟨u27.heap.size, 1, none⟩ (.slice B76 m2 c77)) := ((Kept.refl (fun i => i = u27.heap.size) u74).setCell (p := ⟨u27.heap.size, 0, none⟩) (.inl rfl) _).setCell (p := ⟨u27.heap.size, 1, none⟩) (.inl rfl) _
                  have HB88 := Lib.hid (((HB84.out).setCell (p := ⟨u27.heap.size, 0, none⟩) hge92 (.slice A78 k2 c79)).setCell (p := ⟨u27.heap.size, 1, none⟩) hge92 (.slice B76 m2 c77))
                  have G889 := Lib.hid ((G883.out.set_ 0 (.slice A78 k2 c79)).set_ 1 (.slice B76 m2 c77))
                  have VS90 := Lib.hid (HS82.out.far HSH2.out G883.out kp87)
                  have hS91 : (fun w' => w'.cell? ⟨w.heap.size, 0, none⟩ = some (.int .i64 x) ∧ w'.cell? ⟨w.heap.size, 1, none⟩ = some (.int .i64 y)) ((u74.setCell ⟨u27.heap.size, 0, none⟩ (.slice A78 k2 c79)).setCell ⟨u27.heap.size, 1, none⟩ (.slice B76 m2 c77)) := ⟨below_cells HB88.out hS.1, below_cells HB88.out hS.2⟩
                  clear z860 z861 z862 z863 kp87 hge92
                  refine hK.out _ _ hS91 (fun ho35 => ?_)
                  clear hK K
                  try simp only [Act.put, List.setIfInBounds_toArray, List.set_cons_zero, List.set_cons_succ]
                  refine wpAnyH_take (i := 12) (oi := ?oio3612) (v := ?vo3612) ?hio3612 (by kernel_rfl) (by kernel_rfl) (by kernel_rfl) ?hQo3612 (Or.inl ⟨?hwo3612, ?hyo3612⟩) (by assumption) ?resto3612
                  case hio3612 => (first | (simp only [List.getElem?_toArray, List.getElem?_cons_zero, List.getElem?_cons_succ]; rfl) | rfl)
                  case hQo3612 => exact fun _ _ _ h => h
                  case hwo3612 => rfl
                  case hyo3612 => ((intro w hSw; go_simp); first | done | with_reducible rfl)
                  try simp only [Act.put, List.setIfInBounds_toArray, List.set_cons_zero, List.set_cons_succ]
                  refine wpAnyH_done (by kernel_rfl) ?_ _
                  go_wp2_with fail
                  go_meet
                  case rel => exact ⟨_, A78, B76, c79, c77, rfl, rfl, HB88.out, by have h := G889.out; simpa [Blk] using h, VS90.out⟩
          case so15 =>
            intro K hK
            go_simp
            obtain ⟨u93, hu94⟩ : ∃ z, z = u19.alloc (.cells #[.slice none 0 0, .slice none 0 0] 33) := ⟨_, rfl⟩
            rw [← hu94]
            have hb95 : Below u19.heap.size u19 u93 := by rw [hu94]; exact (Below.refl _ u19).alloc (Nat.le_refl _) _
            have HB96 := Lib.hid ((HB22.out).trans ((hb95).mono (HB22.out).size))
            have HL97 := Lib.hid ((HL23.out).below hb95)
            have O2598 := Lib.hid (ownsRow_block (O2524.out) (fun g hg => (hb95).block g ((O2524.out).lt g hg).2))
            have K2799 := Lib.hid ((K2725.out).below hb95 (K2725.out).lt)
            have G8100 := Lib.hid ((by rw [hu94]; exact Blk.new u19 _ _ : Blk u93 u19.heap.size 33 #[.slice none 0 0, .slice none 0 0]))
            have hS101 : (fun w' => w'.cell? ⟨w.heap.size, 0, none⟩ = some (.int .i64 x) ∧ w'.cell? ⟨w.heap.size, 1, none⟩ = some (.int .i64 y)) u93 := ⟨below_cells hb95 hS26.1, below_cells hb95 hS26.2⟩
            clear hu94 hb95
            have GE102 := Lib.hid ((HB22.out).size)
            refine hK.out _ _ hS101 (fun ho37 => ?_)
            clear hK K
            try simp only [Act.put, List.setIfInBounds_toArray, List.set_cons_zero, List.set_cons_succ]
            refine wpAnyH_ready (rs := [5]) (by kernel_rfl) (by simp) ?_
            refine AllReadyH.cons (o := ?oo38) ?ho38 ?so38 AllReadyH.nil
            case ho38 => (simp only [List.getElem?_toArray, List.getElem?_cons_zero, List.getElem?_cons_succ]; rfl)
            case so38 =>
              intro K hK
              refine step_append_srcN _ rfl (.tmp 25) (.tmp 27) 22 rfl W.heap.size 45 i0 (.agg #[.int .i64 0, .int .i64 0]) 2 16 Try.underlying22 hi hz0 hz1 hz2 rfl (by omega) _ n (l.flatMap prCells) rfl O2598.out (some ⟨u8.heap.size, 0, none⟩) 1 1 (prCells (x, y)) rfl (⟨rfl, fun ad e j u hu => by cases e; rw [addr_add, K2799.out.cell]; simpa [prCells] using hu, fun e => by cases e⟩ : SrcN _ (some ⟨u8.heap.size, 0, none⟩) 1 2 (prCells (x, y))) (by simp [prCells, Value.oneCell']) (by unfold maxLen; omega) (by omega) ((HB96.out).size) ?_
              intro v109 u103 hw105 hg104 hl108
              obtain ⟨A106, c107, rfl⟩ := own_slice hw105
              have HB110 := Lib.hid ((HB96.out).grown hg104 ((HB96.out).size) (fun k e => (O2598.out.lt k e).1))
              have HL111 := Lib.hid (HLW.out.below HB110.out)
              have G8113 := Lib.hid ((G8100.out).grown hg104 (fun e => own_blk_ne O2598.out G8100.out (by decide) e.symm))
              have O28114 := Lib.hid hw105
              have hS115 : (fun w' => w'.cell? ⟨w.heap.size, 0, none⟩ = some (.int .i64 x) ∧ w'.cell? ⟨w.heap.size, 1, none⟩ = some (.int .i64 y)) u103 := ⟨below_cells HB110.out hS.1, below_cells HB110.out hS.2⟩
              clear hg104 hw105 hl108
              refine hK.out _ _ hS115 (fun ho39 => ?_)
              clear hK K
              try simp only [Act.put, List.setIfInBounds_toArray, List.set_cons_zero, List.set_cons_succ]
              refine wpAnyH_ready (rs := [6]) (by kernel_rfl) (by simp) ?_
              refine AllReadyH.cons (o := ?oo40) ?ho40 ?so40 AllReadyH.nil
              case ho40 => (simp only [List.getElem?_toArray, List.getElem?_cons_zero, List.getElem?_cons_succ]; rfl)
              case so40 =>
                intro K hK
                have P123 := Lib.hid (PairsIn.own (l := l ++ [(x, y)]) (n := n + 1) (c := c107) (by have h := O28114.out; rw [List.flatMap_append, List.flatMap_singleton]; exact h) (by rw [List.length_append, HLN.out]; rfl) (by unfold maxLen; omega) (fun p hp => by
                  rcases List.mem_append.1 hp with h | h
                  · exact HLW.out.vals p h
                  · rw [List.mem_singleton.1 h]; exact HXY.out))
                go_simp
                refine (vBuild_is u103 A106 (n + 1) c107 (l ++ [(x, y)]) P123.out HBA2.out HK2.out HM2.out).mono ?_
                rintro e u116 ⟨A120, B118, c121, c119, rfl, hs122, hb117⟩
                have HS124 := Lib.hid hs122
                have G8125 := Lib.hid ((G8113.out).below hb117 (G8113.out).lt)
                have HB126 := Lib.hid (below_then HB110.out hb117 (HB110.out).size)
                have hS127 : (fun w' => w'.cell? ⟨w.heap.size, 0, none⟩ = some (.int .i64 x) ∧ w'.cell? ⟨w.heap.size, 1, none⟩ = some (.int .i64 y)) u116 := ⟨below_cells HB126.out hS.1, below_cells HB126.out hS.2⟩
                clear hs122 hb117
                go_wp2_with fail
                refine hK.out _ _ hS127 (fun ho41 => ?_)
                clear hK K
                try simp only [Act.put, List.setIfInBounds_toArray, List.set_cons_zero, List.set_cons_succ]
                refine wpAnyH_take (i := 7) (oi := ?oio427) (v := ?vo427) ?hio427 (by kernel_rfl) (by kernel_rfl) (by kernel_rfl) ?hQo427 (Or.inl ⟨?hwo427, ?hyo427⟩) (by assumption) ?resto427
                case hio427 => (first | (simp only [List.getElem?_toArray, List.getElem?_cons_zero, List.getElem?_cons_succ]; rfl) | rfl)
                case hQo427 => exact fun _ _ _ h => h
                case hwo427 => rfl
                case hyo427 => ((intro w hSw; go_simp); first | done | with_reducible rfl)
                try simp only [Act.put, List.setIfInBounds_toArray, List.set_cons_zero, List.set_cons_succ]
                refine wpAnyH_take (i := 8) (oi := ?oio438) (v := ?vo438) ?hio438 (by kernel_rfl) (by kernel_rfl) (by kernel_rfl) ?hQo438 (Or.inl ⟨?hwo438, ?hyo438⟩) (by assumption) ?resto438
                case hio438 => (first | (simp only [List.getElem?_toArray, List.getElem?_cons_zero, List.getElem?_cons_succ]; rfl) | rfl)
                case hQo438 => exact fun _ _ _ h => h
                case hwo438 => rfl
                case hyo438 => ((intro w hSw; go_simp); first | done | with_reducible rfl)
                try simp only [Act.put, List.setIfInBounds_toArray, List.set_cons_zero, List.set_cons_succ]
                refine wpAnyH_take (i := 9) (oi := ?oio449) (v := ?vo449) ?hio449 (by kernel_rfl) (by kernel_rfl) (by kernel_rfl) ?hQo449 (Or.inl ⟨?hwo449, ?hyo449⟩) (by assumption) ?resto449
                case hio449 => (first | (simp only [List.getElem?_toArray, List.getElem?_cons_zero, List.getElem?_cons_succ]; rfl) | rfl)
                case hQo449 => exact fun _ _ _ h => h
                case hwo449 => rfl
                case hyo449 => ((intro w hSw; go_simp); first | done | with_reducible rfl)
                try simp only [Act.put, List.setIfInBounds_toArray, List.set_cons_zero, List.set_cons_succ]
                refine wpAnyH_ready (rs := [11]) (by kernel_rfl) (by simp) ?_
                refine AllReadyH.cons (o := ?oo45) ?ho45 ?so45 AllReadyH.nil
                case ho45 => (simp only [List.getElem?_toArray, List.getElem?_cons_zero, List.getElem?_cons_succ]; rfl)
                case so45 =>
                  intro K hK
                  have z1280 := G8125.out.cell 0
                  have z1281 := G8125.out.cell 1
                  have z1282 := G8125.out.frozen 0
                  have z1283 := G8125.out.frozen 1
                  simp only [List.getElem?_toArray, List.getElem?_cons_zero, List.getElem?_cons_succ] at z1280 z1281
                  go_simp
                  have hge134 : W.heap.size ≤ u19.heap.size := GE102.out
                  have kp129 : Kept (fun i => i = u19.heap.size) u116 ((u116.setCell ⟨u19.heap.size, 0, none⟩ (.slice A120 k2 c121)).setCell ⟨u19.heap.size, 1, none⟩ (.slice B118 m2 c119)) := ((Kept.refl (fun i => i = u19.heap.size) u116).setCell (p := ⟨u19.heap.size, 0, none⟩) (.inl rfl) _).setCell (p := ⟨u19.heap.size, 1, none⟩) (.inl rfl) _
                  have HB130 := Lib.hid (((HB126.out).setCell (p := ⟨u19.heap.size, 0, none⟩) hge134 (.slice A120 k2 c121)).setCell (p := ⟨u19.heap.size, 1, none⟩) hge134 (.slice B118 m2 c119))
                  have G8131 := Lib.hid ((G8125.out.set_ 0 (.slice A120 k2 c121)).set_ 1 (.slice B118 m2 c119))
                  have VS132 := Lib.hid (HS124.out.far HSH2.out G8125.out kp129)
                  have hS133 : (fun w' => w'.cell? ⟨w.heap.size, 0, none⟩ = some (.int .i64 x) ∧ w'.cell? ⟨w.heap.size, 1, none⟩ = some (.int .i64 y)) ((u116.setCell ⟨u19.heap.size, 0, none⟩ (.slice A120 k2 c121)).setCell ⟨u19.heap.size, 1, none⟩ (.slice B118 m2 c119)) := ⟨below_cells HB130.out hS.1, below_cells HB130.out hS.2⟩
                  clear z1280 z1281 z1282 z1283 kp129 hge134
                  refine hK.out _ _ hS133 (fun ho46 => ?_)
                  clear hK K
                  try simp only [Act.put, List.setIfInBounds_toArray, List.set_cons_zero, List.set_cons_succ]
                  refine wpAnyH_take (i := 12) (oi := ?oio4712) (v := ?vo4712) ?hio4712 (by kernel_rfl) (by kernel_rfl) (by kernel_rfl) ?hQo4712 (Or.inl ⟨?hwo4712, ?hyo4712⟩) (by assumption) ?resto4712
                  case hio4712 => (first | (simp only [List.getElem?_toArray, List.getElem?_cons_zero, List.getElem?_cons_succ]; rfl) | rfl)
                  case hQo4712 => exact fun _ _ _ h => h
                  case hwo4712 => rfl
                  case hyo4712 => ((intro w hSw; go_simp); first | done | with_reducible rfl)
                  try simp only [Act.put, List.setIfInBounds_toArray, List.set_cons_zero, List.set_cons_succ]
                  refine wpAnyH_done (by kernel_rfl) ?_ _
                  go_wp2_with fail
                  go_meet
                  case rel => exact ⟨_, A120, B118, c121, c119, rfl, rfl, HB130.out, by have h := G8131.out; simpa [Blk] using h, VS132.out⟩
        case so12 =>
          intro K hK
          go_simp
          obtain ⟨u135, hu136⟩ : ∃ z, z = u8.alloc (.cells #[.slice none 0 0, .slice none 0 0] 33) := ⟨_, rfl⟩
          rw [← hu136]
          have hb137 : Below u8.heap.size u8 u135 := by rw [hu136]; exact (Below.refl _ u8).alloc (Nat.le_refl _) _
          have HB138 := Lib.hid ((HB15.out).trans ((hb137).mono (HB15.out).size))
          have HL139 := Lib.hid ((HL16.out).below hb137)
          have O25140 := Lib.hid (ownsRow_block (O2517.out) (fun g hg => (hb137).block g ((O2517.out).lt g hg).2))
          have G8141 := Lib.hid ((by rw [hu136]; exact Blk.new u8 _ _ : Blk u135 u8.heap.size 33 #[.slice none 0 0, .slice none 0 0]))
          have hS142 : (fun w' => w'.cell? ⟨w.heap.size, 0, none⟩ = some (.int .i64 x) ∧ w'.cell? ⟨w.heap.size, 1, none⟩ = some (.int .i64 y)) u135 := ⟨below_cells hb137 hS18.1, below_cells hb137 hS18.2⟩
          clear hu136 hb137
          have GE143 := Lib.hid ((HB15.out).size)
          refine hK.out _ _ hS142 (fun ho48 => ?_)
          clear hK K
          try simp only [Act.put, List.setIfInBounds_toArray, List.set_cons_zero, List.set_cons_succ]
          refine wpAnyH_ready (rs := [4]) (by kernel_rfl) (by simp) ?_
          refine AllReadyH.cons (o := ?oo49) ?ho49 ?so49 AllReadyH.nil
          case ho49 => (simp only [List.getElem?_toArray, List.getElem?_cons_zero, List.getElem?_cons_succ]; rfl)
          case so49 =>
            intro K hK
            go_simp
            obtain ⟨u144, hu145⟩ : ∃ z, z = u135.alloc (.cells #[.int .i64 x, .int .i64 y] 45) := ⟨_, rfl⟩
            rw [← hu145]
            have hb146 : Below u135.heap.size u135 u144 := by rw [hu145]; exact (Below.refl _ u135).alloc (Nat.le_refl _) _
            have HB147 := Lib.hid ((HB138.out).trans ((hb146).mono (HB138.out).size))
            have HL148 := Lib.hid ((HL139.out).below hb146)
            have O25149 := Lib.hid (ownsRow_block (O25140.out) (fun g hg => (hb146).block g ((O25140.out).lt g hg).2))
            have G8150 := Lib.hid ((G8141.out).below hb146 (G8141.out).lt)
            have K27151 := Lib.hid ((by rw [hu145]; exact Blk.new u135 _ _ : Blk u144 u135.heap.size 45 #[.int .i64 x, .int .i64 y]))
            have hS152 : (fun w' => w'.cell? ⟨w.heap.size, 0, none⟩ = some (.int .i64 x) ∧ w'.cell? ⟨w.heap.size, 1, none⟩ = some (.int .i64 y)) u144 := ⟨below_cells hb146 hS142.1, below_cells hb146 hS142.2⟩
            clear hu145 hb146
            refine hK.out _ _ hS152 (fun ho50 => ?_)
            clear hK K
            try simp only [Act.put, List.setIfInBounds_toArray, List.set_cons_zero, List.set_cons_succ]
            refine wpAnyH_ready (rs := [5]) (by kernel_rfl) (by simp) ?_
            refine AllReadyH.cons (o := ?oo51) ?ho51 ?so51 AllReadyH.nil
            case ho51 => (simp only [List.getElem?_toArray, List.getElem?_cons_zero, List.getElem?_cons_succ]; rfl)
            case so51 =>
              intro K hK
              refine step_append_srcN _ rfl (.tmp 25) (.tmp 27) 22 rfl W.heap.size 45 i0 (.agg #[.int .i64 0, .int .i64 0]) 2 16 Try.underlying22 hi hz0 hz1 hz2 rfl (by omega) _ n (l.flatMap prCells) rfl O25149.out (some ⟨u135.heap.size, 0, none⟩) 1 1 (prCells (x, y)) rfl (⟨rfl, fun ad e j u hu => by cases e; rw [addr_add, K27151.out.cell]; simpa [prCells] using hu, fun e => by cases e⟩ : SrcN _ (some ⟨u135.heap.size, 0, none⟩) 1 2 (prCells (x, y))) (by simp [prCells, Value.oneCell']) (by unfold maxLen; omega) (by omega) ((HB147.out).size) ?_
              intro v159 u153 hw155 hg154 hl158
              obtain ⟨A156, c157, rfl⟩ := own_slice hw155
              have HB160 := Lib.hid ((HB147.out).grown hg154 ((HB147.out).size) (fun k e => (O25149.out.lt k e).1))
              have HL161 := Lib.hid (HLW.out.below HB160.out)
              have G8162 := Lib.hid ((G8150.out).grown hg154 (fun e => own_blk_ne O25149.out G8150.out (by decide) e.symm))
              have O28164 := Lib.hid hw155
              have hS165 : (fun w' => w'.cell? ⟨w.heap.size, 0, none⟩ = some (.int .i64 x) ∧ w'.cell? ⟨w.heap.size, 1, none⟩ = some (.int .i64 y)) u153 := ⟨below_cells HB160.out hS.1, below_cells HB160.out hS.2⟩
              clear hg154 hw155 hl158
              refine hK.out _ _ hS165 (fun ho52 => ?_)
              clear hK K
              try simp only [Act.put, List.setIfInBounds_toArray, List.set_cons_zero, List.set_cons_succ]
              refine wpAnyH_ready (rs := [6]) (by kernel_rfl) (by simp) ?_
              refine AllReadyH.cons (o := ?oo53) ?ho53 ?so53 AllReadyH.nil
              case ho53 => (simp only [List.getElem?_toArray, List.getElem?_cons_zero, List.getElem?_cons_succ]; rfl)
              case so53 =>
                intro K hK
                have P173 := Lib.hid (PairsIn.own (l := l ++ [(x, y)]) (n := n + 1) (c := c157) (by have h := O28164.out; rw [List.flatMap_append, List.flatMap_singleton]; exact h) (by rw [List.length_append, HLN.out]; rfl) (by unfold maxLen; omega) (fun p hp => by
                  rcases List.mem_append.1 hp with h | h
                  · exact HLW.out.vals p h
                  · rw [List.mem_singleton.1 h]; exact HXY.out))
                go_simp
                refine (vBuild_is u153 A156 (n + 1) c157 (l ++ [(x, y)]) P173.out HBA2.out HK2.out HM2.out).mono ?_
                rintro e u166 ⟨A170, B168, c171, c169, rfl, hs172, hb167⟩
                have HS174 := Lib.hid hs172
                have G8175 := Lib.hid ((G8162.out).below hb167 (G8162.out).lt)
                have HB176 := Lib.hid (below_then HB160.out hb167 (HB160.out).size)
                have hS177 : (fun w' => w'.cell? ⟨w.heap.size, 0, none⟩ = some (.int .i64 x) ∧ w'.cell? ⟨w.heap.size, 1, none⟩ = some (.int .i64 y)) u166 := ⟨below_cells HB176.out hS.1, below_cells HB176.out hS.2⟩
                clear hs172 hb167
                go_wp2_with fail
                refine hK.out _ _ hS177 (fun ho54 => ?_)
                clear hK K
                try simp only [Act.put, List.setIfInBounds_toArray, List.set_cons_zero, List.set_cons_succ]
                refine wpAnyH_take (i := 7) (oi := ?oio557) (v := ?vo557) ?hio557 (by kernel_rfl) (by kernel_rfl) (by kernel_rfl) ?hQo557 (Or.inl ⟨?hwo557, ?hyo557⟩) (by assumption) ?resto557
                case hio557 => (first | (simp only [List.getElem?_toArray, List.getElem?_cons_zero, List.getElem?_cons_succ]; rfl) | rfl)
                case hQo557 => exact fun _ _ _ h => h
                case hwo557 => rfl
                case hyo557 => ((intro w hSw; go_simp); first | done | with_reducible rfl)
                try simp only [Act.put, List.setIfInBounds_toArray, List.set_cons_zero, List.set_cons_succ]
                refine wpAnyH_take (i := 8) (oi := ?oio568) (v := ?vo568) ?hio568 (by kernel_rfl) (by kernel_rfl) (by kernel_rfl) ?hQo568 (Or.inl ⟨?hwo568, ?hyo568⟩) (by assumption) ?resto568
                case hio568 => (first | (simp only [List.getElem?_toArray, List.getElem?_cons_zero, List.getElem?_cons_succ]; rfl) | rfl)
                case hQo568 => exact fun _ _ _ h => h
                case hwo568 => rfl
                case hyo568 => ((intro w hSw; go_simp); first | done | with_reducible rfl)
                try simp only [Act.put, List.setIfInBounds_toArray, List.set_cons_zero, List.set_cons_succ]
                refine wpAnyH_take (i := 9) (oi := ?oio579) (v := ?vo579) ?hio579 (by kernel_rfl) (by kernel_rfl) (by kernel_rfl) ?hQo579 (Or.inl ⟨?hwo579, ?hyo579⟩) (by assumption) ?resto579
                case hio579 => (first | (simp only [List.getElem?_toArray, List.getElem?_cons_zero, List.getElem?_cons_succ]; rfl) | rfl)
                case hQo579 => exact fun _ _ _ h => h
                case hwo579 => rfl
                case hyo579 => ((intro w hSw; go_simp); first | done | with_reducible rfl)
                try simp only [Act.put, List.setIfInBounds_toArray, List.set_cons_zero, List.set_cons_succ]
                refine wpAnyH_ready (rs := [11]) (by kernel_rfl) (by simp) ?_
                refine AllReadyH.cons (o := ?oo58) ?ho58 ?so58 AllReadyH.nil
                case ho58 => (simp only [List.getElem?_toArray, List.getElem?_cons_zero, List.getElem?_cons_succ]; rfl)
                case so58 =>
                  intro K hK
                  have z1780 := G8175.out.cell 0
                  have z1781 := G8175.out.cell 1
                  have z1782 := G8175.out.frozen 0
                  have z1783 := G8175.out.frozen 1
                  simp only [List.getElem?_toArray, List.getElem?_cons_zero, List.getElem?_cons_succ] at z1780 z1781
                  go_simp
                  have hge184 : W.heap.size ≤ u8.heap.size := GE143.out
                  have kp179 : Kept (fun i => i = u8.heap.size) u166 ((u166.setCell ⟨u8.heap.size, 0, none⟩ (.slice A170 k2 c171)).setCell ⟨u8.heap.size, 1, none⟩ (.slice B168 m2 c169)) := ((Kept.refl (fun i => i = u8.heap.size) u166).setCell (p := ⟨u8.heap.size, 0, none⟩) (.inl rfl) _).setCell (p := ⟨u8.heap.size, 1, none⟩) (.inl rfl) _
                  have HB180 := Lib.hid (((HB176.out).setCell (p := ⟨u8.heap.size, 0, none⟩) hge184 (.slice A170 k2 c171)).setCell (p := ⟨u8.heap.size, 1, none⟩) hge184 (.slice B168 m2 c169))
                  have G8181 := Lib.hid ((G8175.out.set_ 0 (.slice A170 k2 c171)).set_ 1 (.slice B168 m2 c169))
                  have VS182 := Lib.hid (HS174.out.far HSH2.out G8175.out kp179)
                  have hS183 : (fun w' => w'.cell? ⟨w.heap.size, 0, none⟩ = some (.int .i64 x) ∧ w'.cell? ⟨w.heap.size, 1, none⟩ = some (.int .i64 y)) ((u166.setCell ⟨u8.heap.size, 0, none⟩ (.slice A170 k2 c171)).setCell ⟨u8.heap.size, 1, none⟩ (.slice B168 m2 c169)) := ⟨below_cells HB180.out hS.1, below_cells HB180.out hS.2⟩
                  clear z1780 z1781 z1782 z1783 kp179 hge184
                  refine hK.out _ _ hS183 (fun ho59 => ?_)
                  clear hK K
                  try simp only [Act.put, List.setIfInBounds_toArray, List.set_cons_zero, List.set_cons_succ]
                  refine wpAnyH_take (i := 12) (oi := ?oio6012) (v := ?vo6012) ?hio6012 (by kernel_rfl) (by kernel_rfl) (by kernel_rfl) ?hQo6012 (Or.inl ⟨?hwo6012, ?hyo6012⟩) (by assumption) ?resto6012
                  case hio6012 => (first | (simp only [List.getElem?_toArray, List.getElem?_cons_zero, List.getElem?_cons_succ]; rfl) | rfl)
                  case hQo6012 => exact fun _ _ _ h => h
                  case hwo6012 => rfl
                  case hyo6012 => ((intro w hSw; go_simp); first | done | with_reducible rfl)
                  try simp only [Act.put, List.setIfInBounds_toArray, List.set_cons_zero, List.set_cons_succ]
                  refine wpAnyH_done (by kernel_rfl) ?_ _
                  go_wp2_with fail
                  go_meet
                  case rel => exact ⟨_, A170, B168, c171, c169, rfl, rfl, HB180.out, by have h := G8181.out; simpa [Blk] using h, VS182.out⟩
      case so8 =>
        intro K hK
        go_simp
        obtain ⟨u185, hu186⟩ : ∃ z, z = u1.alloc (.cells #[.int .i64 x, .int .i64 y] 45) := ⟨_, rfl⟩
        rw [← hu186]
        have hb187 : Below u1.heap.size u1 u185 := by rw [hu186]; exact (Below.refl _ u1).alloc (Nat.le_refl _) _
        have HB188 := Lib.hid ((HB4.out).trans ((hb187).mono (HB4.out).size))
        have HL189 := Lib.hid ((HL5.out).below hb187)
        have O23190 := Lib.hid (ownsRow_block (O236.out) (fun g hg => (hb187).block g ((O236.out).lt g hg).2))
        have K27191 := Lib.hid ((by rw [hu186]; exact Blk.new u1 _ _ : Blk u185 u1.heap.size 45 #[.int .i64 x, .int .i64 y]))
        have hS192 : (fun w' => w'.cell? ⟨w.heap.size, 0, none⟩ = some (.int .i64 x) ∧ w'.cell? ⟨w.heap.size, 1, none⟩ = some (.int .i64 y)) u185 := ⟨below_cells hb187 hS7.1, below_cells hb187 hS7.2⟩
        clear hu186 hb187
        have OR193 : Hid (u0.heap.size < u1.heap.size) := Lib.hid ((O236.out.lt _ rfl).2)
        refine hK.out _ _ hS192 (fun ho61 => ?_)
        clear hK K
        try simp only [Act.put, List.setIfInBounds_toArray, List.set_cons_zero, List.set_cons_succ]
        refine wpAnyH_ready (rs := [2, 10]) (by kernel_rfl) (by simp) ?_
        refine AllReadyH.cons (o := ?oo62) ?ho62 ?so62 (AllReadyH.cons (o := ?oo63) ?ho63 ?so63 AllReadyH.nil)
        case ho62 => (simp only [List.getElem?_toArray, List.getElem?_cons_zero, List.getElem?_cons_succ]; rfl)
        case ho63 => (simp only [List.getElem?_toArray, List.getElem?_cons_zero, List.getElem?_cons_succ]; rfl)
        case so62 =>
          intro K hK
          have NE27194 := Lib.hid (show Value.ownBlock (.slice (some ⟨u0.heap.size, 0, none⟩) 0 0) ≠ some u1.heap.size from fun e => by have h1 : u0.heap.size = u1.heap.size := Option.some.inj e; have := OR193.out; omega)
          refine step_append_srcN _ rfl (.tmp 23) (.tmp 24) 22 rfl W.heap.size 45 i0 (.agg #[.int .i64 0, .int .i64 0]) 2 16 Try.underlying22 hi hz0 hz1 hz2 rfl (by omega) _ 0 [] rfl O23190.out A n c (l.flatMap prCells) rfl (HL189.out.src) (prCells_one l) (by unfold maxLen; omega) (by omega) ((HB188.out).size) ?_
          intro v201 u195 hw197 hg196 hl200
          obtain ⟨A198, c199, rfl⟩ := own_slice hw197
          rw [Nat.zero_add, List.nil_append] at hw197
          rw [Nat.zero_add]
          have HB202 := Lib.hid ((HB188.out).grown hg196 ((HB188.out).size) (fun k e => (O23190.out.lt k e).1))
          have HL203 := Lib.hid (HLW.out.below HB202.out)
          have K27204 := Lib.hid ((K27191.out).grown hg196 (fun e => NE27194.out e.symm))
          have O25205 := Lib.hid hw197
          have hS206 : (fun w' => w'.cell? ⟨w.heap.size, 0, none⟩ = some (.int .i64 x) ∧ w'.cell? ⟨w.heap.size, 1, none⟩ = some (.int .i64 y)) u195 := ⟨below_cells HB202.out hS.1, below_cells HB202.out hS.2⟩
          clear hg196 hw197 hl200
          refine hK.out _ _ hS206 (fun ho64 => ?_)
          clear hK K
          try simp only [Act.put, List.setIfInBounds_toArray, List.set_cons_zero, List.set_cons_succ]
          refine wpAnyH_ready (rs := [5, 10]) (by kernel_rfl) (by simp) ?_
          refine AllReadyH.cons (o := ?oo65) ?ho65 ?so65 (AllReadyH.cons (o := ?oo66) ?ho66 ?so66 AllReadyH.nil)
          case ho65 => (simp only [List.getElem?_toArray, List.getElem?_cons_zero, List.getElem?_cons_succ]; rfl)
          case ho66 => (simp only [List.getElem?_toArray, List.getElem?_cons_zero, List.getElem?_cons_succ]; rfl)
          case so65 =>
            intro K hK
            refine step_append_srcN _ rfl (.tmp 25) (.tmp 27) 22 rfl W.heap.size 45 i0 (.agg #[.int .i64 0, .int .i64 0]) 2 16 Try.underlying22 hi hz0 hz1 hz2 rfl (by omega) _ n (l.flatMap prCells) rfl O25205.out (some ⟨u1.heap.size, 0, none⟩) 1 1 (prCells (x, y)) rfl (⟨rfl, fun ad e j u hu => by cases e; rw [addr_add, K27204.out.cell]; simpa [prCells] using hu, fun e => by cases e⟩ : SrcN _ (some ⟨u1.heap.size, 0, none⟩) 1 2 (prCells (x, y))) (by simp [prCells, Value.oneCell']) (by unfold maxLen; omega) (by omega) ((HB202.out).size) ?_
            intro v213 u207 hw209 hg208 hl212
            obtain ⟨A210, c211, rfl⟩ := own_slice hw209
            have HB214 := Lib.hid ((HB202.out).grown hg208 ((HB202.out).size) (fun k e => (O25205.out.lt k e).1))
            have HL215 := Lib.hid (HLW.out.below HB214.out)
            have O28217 := Lib.hid hw209
            have hS218 : (fun w' => w'.cell? ⟨w.heap.size, 0, none⟩ = some (.int .i64 x) ∧ w'.cell? ⟨w.heap.size, 1, none⟩ = some (.int .i64 y)) u207 := ⟨below_cells HB214.out hS.1, below_cells HB214.out hS.2⟩
            clear hg208 hw209 hl212
            refine hK.out _ _ hS218 (fun ho67 => ?_)
            clear hK K
            try simp only [Act.put, List.setIfInBounds_toArray, List.set_cons_zero, List.set_cons_succ]
            refine wpAnyH_ready (rs := [6, 10]) (by kernel_rfl) (by simp) ?_
            refine AllReadyH.cons (o := ?oo68) ?ho68 ?so68 (AllReadyH.cons (o := ?oo69) ?ho69 ?so69 AllReadyH.nil)
            case ho68 => (simp only [List.getElem?_toArray, List.getElem?_cons_zero, List.getElem?_cons_succ]; rfl)
            case ho69 => (simp only [List.getElem?_toArray, List.getElem?_cons_zero, List.getElem?_cons_succ]; rfl)
            case so68 =>
              intro K hK
              have P226 := Lib.hid (PairsIn.own (l := l ++ [(x, y)]) (n := n + 1) (c := c211) (by have h := O28217.out; rw [List.flatMap_append, List.flatMap_singleton]; exact h) (by rw [List.length_append, HLN.out]; rfl) (by unfold maxLen; omega) (fun p hp => by
                rcases List.mem_append.1 hp with h | h
                · exact HLW.out.vals p h
                · rw [List.mem_singleton.1 h]; exact HXY.out))
              go_simp
              refine (vBuild_is u207 A210 (n + 1) c211 (l ++ [(x, y)]) P226.out HBA2.out HK2.out HM2.out).mono ?_
              rintro e u219 ⟨A223, B221, c224, c222, rfl, hs225, hb220⟩
              have HS227 := Lib.hid hs225
              have HB228 := Lib.hid (below_then HB214.out hb220 (HB214.out).size)
              have hS229 : (fun w' => w'.cell? ⟨w.heap.size, 0, none⟩ = some (.int .i64 x) ∧ w'.cell? ⟨w.heap.size, 1, none⟩ = some (.int .i64 y)) u219 := ⟨below_cells HB228.out hS.1, below_cells HB228.out hS.2⟩
              clear hs225 hb220
              go_wp2_with fail
              refine hK.out _ _ hS229 (fun ho70 => ?_)
              clear hK K
              try simp only [Act.put, List.setIfInBounds_toArray, List.set_cons_zero, List.set_cons_succ]
              refine wpAnyH_take (i := 7) (oi := ?oio717) (v := ?vo717) ?hio717 (by kernel_rfl) (by kernel_rfl) (by kernel_rfl) ?hQo717 (Or.inl ⟨?hwo717, ?hyo717⟩) (by assumption) ?resto717
              case hio717 => (first | (simp only [List.getElem?_toArray, List.getElem?_cons_zero, List.getElem?_cons_succ]; rfl) | rfl)
              case hQo717 => exact fun _ _ _ h => h
              case hwo717 => rfl
              case hyo717 => ((intro w hSw; go_simp); first | done | with_reducible rfl)
              try simp only [Act.put, List.setIfInBounds_toArray, List.set_cons_zero, List.set_cons_succ]
              refine wpAnyH_take (i := 8) (oi := ?oio728) (v := ?vo728) ?hio728 (by kernel_rfl) (by kernel_rfl) (by kernel_rfl) ?hQo728 (Or.inl ⟨?hwo728, ?hyo728⟩) (by assumption) ?resto728
              case hio728 => (first | (simp only [List.getElem?_toArray, List.getElem?_cons_zero, List.getElem?_cons_succ]; rfl) | rfl)
              case hQo728 => exact fun _ _ _ h => h
              case hwo728 => rfl
              case hyo728 => ((intro w hSw; go_simp); first | done | with_reducible rfl)
              try simp only [Act.put, List.setIfInBounds_toArray, List.set_cons_zero, List.set_cons_succ]
              refine wpAnyH_take (i := 9) (oi := ?oio739) (v := ?vo739) ?hio739 (by kernel_rfl) (by kernel_rfl) (by kernel_rfl) ?hQo739 (Or.inl ⟨?hwo739, ?hyo739⟩) (by assumption) ?resto739
              case hio739 => (first | (simp only [List.getElem?_toArray, List.getElem?_cons_zero, List.getElem?_cons_succ]; rfl) | rfl)
              case hQo739 => exact fun _ _ _ h => h
              case hwo739 => rfl
              case hyo739 => ((intro w hSw; go_simp); first | done | with_reducible rfl)
              try simp only [Act.put, List.setIfInBounds_toArray, List.set_cons_zero, List.set_cons_succ]
              refine wpAnyH_ready (rs := [10]) (by kernel_rfl) (by simp) ?_
              refine AllReadyH.cons (o := ?oo74) ?ho74 ?so74 AllReadyH.nil
              case ho74 => (simp only [List.getElem?_toArray, List.getElem?_cons_zero, List.getElem?_cons_succ]; rfl)
              case so74 =>
                intro K hK
                go_simp
                obtain ⟨u230, hu231⟩ : ∃ z, z = u219.alloc (.cells #[.slice none 0 0, .slice none 0 0] 33) := ⟨_, rfl⟩
                rw [← hu231]
                have hb232 : Below u219.heap.size u219 u230 := by rw [hu231]; exact (Below.refl _ u219).alloc (Nat.le_refl _) _
                have HB233 := Lib.hid ((HB228.out).trans ((hb232).mono (HB228.out).size))
                have VS234 := Lib.hid ((HS227.out).below hb232)
                have G8235 := Lib.hid ((by rw [hu231]; exact Blk.new u219 _ _ : Blk u230 u219.heap.size 33 #[.slice none 0 0, .slice none 0 0]))
                have hS236 : (fun w' => w'.cell? ⟨w.heap.size, 0, none⟩ = some (.int .i64 x) ∧ w'.cell? ⟨w.heap.size, 1, none⟩ = some (.int .i64 y)) u230 := ⟨below_cells hb232 hS229.1, below_cells hb232 hS229.2⟩
                clear hu231 hb232
                have GE237 := Lib.hid ((HB228.out).size)
                refine hK.out _ _ hS236 (fun ho75 => ?_)
                clear hK K
                try simp only [Act.put, List.setIfInBounds_toArray, List.set_cons_zero, List.set_cons_succ]
                refine wpAnyH_ready (rs := [11]) (by kernel_rfl) (by simp) ?_
                refine AllReadyH.cons (o := ?oo76) ?ho76 ?so76 AllReadyH.nil
                case ho76 => (simp only [List.getElem?_toArray, List.getElem?_cons_zero, List.getElem?_cons_succ]; rfl)
                case so76 =>
                  intro K hK
                  have z2380 := G8235.out.cell 0
                  have z2381 := G8235.out.cell 1
                  have z2382 := G8235.out.frozen 0
                  have z2383 := G8235.out.frozen 1
                  simp only [List.getElem?_toArray, List.getElem?_cons_zero, List.getElem?_cons_succ] at z2380 z2381
                  go_simp
                  have hge244 : W.heap.size ≤ u219.heap.size := GE237.out
                  have kp239 : Kept (fun i => i = u219.heap.size) u230 ((u230.setCell ⟨u219.heap.size, 0, none⟩ (.slice A223 k2 c224)).setCell ⟨u219.heap.size, 1, none⟩ (.slice B221 m2 c222)) := ((Kept.refl (fun i => i = u219.heap.size) u230).setCell (p := ⟨u219.heap.size, 0, none⟩) (.inl rfl) _).setCell (p := ⟨u219.heap.size, 1, none⟩) (.inl rfl) _
                  have HB240 := Lib.hid (((HB233.out).setCell (p := ⟨u219.heap.size, 0, none⟩) hge244 (.slice A223 k2 c224)).setCell (p := ⟨u219.heap.size, 1, none⟩) hge244 (.slice B221 m2 c222))
                  have G8241 := Lib.hid ((G8235.out.set_ 0 (.slice A223 k2 c224)).set_ 1 (.slice B221 m2 c222))
                  have VS242 := Lib.hid (VS234.out.far HSH2.out G8235.out kp239)
                  have hS243 : (fun w' => w'.cell? ⟨w.heap.size, 0, none⟩ = some (.int .i64 x) ∧ w'.cell? ⟨w.heap.size, 1, none⟩ = some (.int .i64 y)) ((u230.setCell ⟨u219.heap.size, 0, none⟩ (.slice A223 k2 c224)).setCell ⟨u219.heap.size, 1, none⟩ (.slice B221 m2 c222)) := ⟨below_cells HB240.out hS.1, below_cells HB240.out hS.2⟩
                  clear z2380 z2381 z2382 z2383 kp239 hge244
                  refine hK.out _ _ hS243 (fun ho77 => ?_)
                  clear hK K
                  try simp only [Act.put, List.setIfInBounds_toArray, List.set_cons_zero, List.set_cons_succ]
                  refine wpAnyH_take (i := 12) (oi := ?oio7812) (v := ?vo7812) ?hio7812 (by kernel_rfl) (by kernel_rfl) (by kernel_rfl) ?hQo7812 (Or.inl ⟨?hwo7812, ?hyo7812⟩) (by assumption) ?resto7812
                  case hio7812 => (first | (simp only [List.getElem?_toArray, List.getElem?_cons_zero, List.getElem?_cons_succ]; rfl) | rfl)
                  case hQo7812 => exact fun _ _ _ h => h
                  case hwo7812 => rfl
                  case hyo7812 => ((intro w hSw; go_simp); first | done | with_reducible rfl)
                  try simp only [Act.put, List.setIfInBounds_toArray, List.set_cons_zero, List.set_cons_succ]
                  refine wpAnyH_done (by kernel_rfl) ?_ _
                  go_wp2_with fail
                  go_meet
                  case rel => exact ⟨_, A223, B221, c224, c222, rfl, rfl, HB240.out, by have h := G8241.out; simpa [Blk] using h, VS242.out⟩
            case so69 =>
              intro K hK
              go_simp
              obtain ⟨u245, hu246⟩ : ∃ z, z = u207.alloc (.cells #[.slice none 0 0, .slice none 0 0] 33) := ⟨_, rfl⟩
              rw [← hu246]
              have hb247 : Below u207.heap.size u207 u245 := by rw [hu246]; exact (Below.refl _ u207).alloc (Nat.le_refl _) _
              have HB248 := Lib.hid ((HB214.out).trans ((hb247).mono (HB214.out).size))
              have HL249 := Lib.hid ((HL215.out).below hb247)
              have O28250 := Lib.hid (ownsRow_block (O28217.out) (fun g hg => (hb247).block g ((O28217.out).lt g hg).2))
              have G8251 := Lib.hid ((by rw [hu246]; exact Blk.new u207 _ _ : Blk u245 u207.heap.size 33 #[.slice none 0 0, .slice none 0 0]))
              have hS252 : (fun w' => w'.cell? ⟨w.heap.size, 0, none⟩ = some (.int .i64 x) ∧ w'.cell? ⟨w.heap.size, 1, none⟩ = some (.int .i64 y)) u245 := ⟨below_cells hb247 hS218.1, below_cells hb247 hS218.2⟩
              clear hu246 hb247
              have GE253 := Lib.hid ((HB214.out).size)
              refine hK.out _ _ hS252 (fun ho79 => ?_)
              clear hK K
              try simp only [Act.put, List.setIfInBounds_toArray, List.set_cons_zero, List.set_cons_succ]
              refine wpAnyH_ready (rs := [6]) (by kernel_rfl) (by simp) ?_
              refine AllReadyH.cons (o := ?oo80) ?ho80 ?so80 AllReadyH.nil
              case ho80 => (simp only [List.getElem?_toArray, List.getElem?_cons_zero, List.getElem?_cons_succ]; rfl)
              case so80 =>
                intro K hK
                have P261 := Lib.hid (PairsIn.own (l := l ++ [(x, y)]) (n := n + 1) (c := c211) (by have h := O28250.out; rw [List.flatMap_append, List.flatMap_singleton]; exact h) (by rw [List.length_append, HLN.out]; rfl) (by unfold maxLen; omega) (fun p hp => by
                  rcases List.mem_append.1 hp with h | h
                  · exact HLW.out.vals p h
                  · rw [List.mem_singleton.1 h]; exact HXY.out))
                go_simp
                refine (vBuild_is u245 A210 (n + 1) c211 (l ++ [(x, y)]) P261.out HBA2.out HK2.out HM2.out).mono ?_
                rintro e u254 ⟨A258, B256, c259, c257, rfl, hs260, hb255⟩
                have HS262 := Lib.hid hs260
                have G8263 := Lib.hid ((G8251.out).below hb255 (G8251.out).lt)
                have HB264 := Lib.hid (below_then HB248.out hb255 (HB248.out).size)
                have hS265 : (fun w' => w'.cell? ⟨w.heap.size, 0, none⟩ = some (.int .i64 x) ∧ w'.cell? ⟨w.heap.size, 1, none⟩ = some (.int .i64 y)) u254 := ⟨below_cells HB264.out hS.1, below_cells HB264.out hS.2⟩
                clear hs260 hb255
                go_wp2_with fail
                refine hK.out _ _ hS265 (fun ho81 => ?_)
                clear hK K
                try simp only [Act.put, List.setIfInBounds_toArray, List.set_cons_zero, List.set_cons_succ]
                refine wpAnyH_take (i := 7) (oi := ?oio827) (v := ?vo827) ?hio827 (by kernel_rfl) (by kernel_rfl) (by kernel_rfl) ?hQo827 (Or.inl ⟨?hwo827, ?hyo827⟩) (by assumption) ?resto827
                case hio827 => (first | (simp only [List.getElem?_toArray, List.getElem?_cons_zero, List.getElem?_cons_succ]; rfl) | rfl)
                case hQo827 => exact fun _ _ _ h => h
                case hwo827 => rfl
                case hyo827 => ((intro w hSw; go_simp); first | done | with_reducible rfl)
                try simp only [Act.put, List.setIfInBounds_toArray, List.set_cons_zero, List.set_cons_succ]
                refine wpAnyH_take (i := 8) (oi := ?oio838) (v := ?vo838) ?hio838 (by kernel_rfl) (by kernel_rfl) (by kernel_rfl) ?hQo838 (Or.inl ⟨?hwo838, ?hyo838⟩) (by assumption) ?resto838
                case hio838 => (first | (simp only [List.getElem?_toArray, List.getElem?_cons_zero, List.getElem?_cons_succ]; rfl) | rfl)
                case hQo838 => exact fun _ _ _ h => h
                case hwo838 => rfl
                case hyo838 => ((intro w hSw; go_simp); first | done | with_reducible rfl)
                try simp only [Act.put, List.setIfInBounds_toArray, List.set_cons_zero, List.set_cons_succ]
                refine wpAnyH_take (i := 9) (oi := ?oio849) (v := ?vo849) ?hio849 (by kernel_rfl) (by kernel_rfl) (by kernel_rfl) ?hQo849 (Or.inl ⟨?hwo849, ?hyo849⟩) (by assumption) ?resto849
                case hio849 => (first | (simp only [List.getElem?_toArray, List.getElem?_cons_zero, List.getElem?_cons_succ]; rfl) | rfl)
                case hQo849 => exact fun _ _ _ h => h
                case hwo849 => rfl
                case hyo849 => ((intro w hSw; go_simp); first | done | with_reducible rfl)
                try simp only [Act.put, List.setIfInBounds_toArray, List.set_cons_zero, List.set_cons_succ]
                refine wpAnyH_ready (rs := [11]) (by kernel_rfl) (by simp) ?_
                refine AllReadyH.cons (o := ?oo85) ?ho85 ?so85 AllReadyH.nil
                case ho85 => (simp only [List.getElem?_toArray, List.getElem?_cons_zero, List.getElem?_cons_succ]; rfl)
                case so85 =>
                  intro K hK
                  have z2660 := G8263.out.cell 0
                  have z2661 := G8263.out.cell 1
                  have z2662 := G8263.out.frozen 0
                  have z2663 := G8263.out.frozen 1
                  simp only [List.getElem?_toArray, List.getElem?_cons_zero, List.getElem?_cons_succ] at z2660 z2661
                  go_simp
                  have hge272 : W.heap.size ≤ u207.heap.size := GE253.out
                  have kp267 : Kept (fun i => i = u207.heap.size) u254 ((u254.setCell ⟨u207.heap.size, 0, none⟩ (.slice A258 k2 c259)).setCell ⟨u207.heap.size, 1, none⟩ (.slice B256 m2 c257)) := ((Kept.refl (fun i => i = u207.heap.size) u254).setCell (p := ⟨u207.heap.size, 0, none⟩) (.inl rfl) _).setCell (p := ⟨u207.heap.size, 1, none⟩) (.inl rfl) _
                  have HB268 := Lib.hid (((HB264.out).setCell (p := ⟨u207.heap.size, 0, none⟩) hge272 (.slice A258 k2 c259)).setCell (p := ⟨u207.heap.size, 1, none⟩) hge272 (.slice B256 m2 c257))
                  have G8269 := Lib.hid ((G8263.out.set_ 0 (.slice A258 k2 c259)).set_ 1 (.slice B256 m2 c257))
                  have VS270 := Lib.hid (HS262.out.far HSH2.out G8263.out kp267)
                  have hS271 : (fun w' => w'.cell? ⟨w.heap.size, 0, none⟩ = some (.int .i64 x) ∧ w'.cell? ⟨w.heap.size, 1, none⟩ = some (.int .i64 y)) ((u254.setCell ⟨u207.heap.size, 0, none⟩ (.slice A258 k2 c259)).setCell ⟨u207.heap.size, 1, none⟩ (.slice B256 m2 c257)) := ⟨below_cells HB268.out hS.1, below_cells HB268.out hS.2⟩
                  clear z2660 z2661 z2662 z2663 kp267 hge272
                  refine hK.out _ _ hS271 (fun ho86 => ?_)
                  clear hK K
                  try simp only [Act.put, List.setIfInBounds_toArray, List.set_cons_zero, List.set_cons_succ]
                  refine wpAnyH_take (i := 12) (oi := ?oio8712) (v := ?vo8712) ?hio8712 (by kernel_rfl) (by kernel_rfl) (by kernel_rfl) ?hQo8712 (Or.inl ⟨?hwo8712, ?hyo8712⟩) (by assumption) ?resto8712
                  case hio8712 => (first | (simp only [List.getElem?_toArray, List.getElem?_cons_zero, List.getElem?_cons_succ]; rfl) | rfl)
                  case hQo8712 => exact fun _ _ _ h => h
                  case hwo8712 => rfl
                  case hyo8712 => ((intro w hSw; go_simp); first | done | with_reducible rfl)
                  try simp only [Act.put, List.setIfInBounds_toArray, List.set_cons_zero, List.set_cons_succ]
                  refine wpAnyH_done (by kernel_rfl) ?_ _
                  go_wp2_with fail
                  go_meet
                  case rel => exact ⟨_, A258, B256, c259, c257, rfl, rfl, HB268.out, by have h := G8269.out; simpa [Blk] using h, VS270.out⟩
          case so66 =>
            intro K hK
            go_simp
            obtain ⟨u273, hu274⟩ : ∃ z, z = u195.alloc (.cells #[.slice none 0 0, .slice none 0 0] 33) := ⟨_, rfl⟩
            rw [← hu274]
            have hb275 : Below u195.heap.size u195 u273 := by rw [hu274]; exact (Below.refl _ u195).alloc (Nat.le_refl _) _
            have HB276 := Lib.hid ((HB202.out).trans ((hb275).mono (HB202.out).size))
            have HL277 := Lib.hid ((HL203.out).below hb275)
            have K27278 := Lib.hid ((K27204.out).below hb275 (K27204.out).lt)
            have O25279 := Lib.hid (ownsRow_block (O25205.out) (fun g hg => (hb275).block g ((O25205.out).lt g hg).2))
            have G8280 := Lib.hid ((by rw [hu274]; exact Blk.new u195 _ _ : Blk u273 u195.heap.size 33 #[.slice none 0 0, .slice none 0 0]))
            have hS281 : (fun w' => w'.cell? ⟨w.heap.size, 0, none⟩ = some (.int .i64 x) ∧ w'.cell? ⟨w.heap.size, 1, none⟩ = some (.int .i64 y)) u273 := ⟨below_cells hb275 hS206.1, below_cells hb275 hS206.2⟩
            clear hu274 hb275
            have GE282 := Lib.hid ((HB202.out).size)
            refine hK.out _ _ hS281 (fun ho88 => ?_)
            clear hK K
            try simp only [Act.put, List.setIfInBounds_toArray, List.set_cons_zero, List.set_cons_succ]
            refine wpAnyH_ready (rs := [5]) (by kernel_rfl) (by simp) ?_
            refine AllReadyH.cons (o := ?oo89) ?ho89 ?so89 AllReadyH.nil
            case ho89 => (simp only [List.getElem?_toArray, List.getElem?_cons_zero, List.getElem?_cons_succ]; rfl)
            case so89 =>
              intro K hK
              refine step_append_srcN _ rfl (.tmp 25) (.tmp 27) 22 rfl W.heap.size 45 i0 (.agg #[.int .i64 0, .int .i64 0]) 2 16 Try.underlying22 hi hz0 hz1 hz2 rfl (by omega) _ n (l.flatMap prCells) rfl O25279.out (some ⟨u1.heap.size, 0, none⟩) 1 1 (prCells (x, y)) rfl (⟨rfl, fun ad e j u hu => by cases e; rw [addr_add, K27278.out.cell]; simpa [prCells] using hu, fun e => by cases e⟩ : SrcN _ (some ⟨u1.heap.size, 0, none⟩) 1 2 (prCells (x, y))) (by simp [prCells, Value.oneCell']) (by unfold maxLen; omega) (by omega) ((HB276.out).size) ?_
              intro v289 u283 hw285 hg284 hl288
              obtain ⟨A286, c287, rfl⟩ := own_slice hw285
              have HB290 := Lib.hid ((HB276.out).grown hg284 ((HB276.out).size) (fun k e => (O25279.out.lt k e).1))
              have HL291 := Lib.hid (HLW.out.below HB290.out)
              have G8293 := Lib.hid ((G8280.out).grown hg284 (fun e => own_blk_ne O25279.out G8280.out (by decide) e.symm))
              have O28294 := Lib.hid hw285
              have hS295 : (fun w' => w'.cell? ⟨w.heap.size, 0, none⟩ = some (.int .i64 x) ∧ w'.cell? ⟨w.heap.size, 1, none⟩ = some (.int .i64 y)) u283 := ⟨below_cells HB290.out hS.1, below_cells HB290.out hS.2⟩
              clear hg284 hw285 hl288
              refine hK.out _ _ hS295 (fun ho90 => ?_)
              clear hK K
              try simp only [Act.put, List.setIfInBounds_toArray, List.set_cons_zero, List.set_cons_succ]
              refine wpAnyH_ready (rs := [6]) (by kernel_rfl) (by simp) ?_
              refine AllReadyH.cons (o := ?oo91) ?ho91 ?so91 AllReadyH.nil
              case ho91 => (simp only [List.getElem?_toArray, List.getElem?_cons_zero, List.getElem?_cons_succ]; rfl)
              case so91 =>
                intro K hK
                have P303 := Lib.hid (PairsIn.own (l := l ++ [(x, y)]) (n := n + 1) (c := c287) (by have h := O28294.out; rw [List.flatMap_append, List.flatMap_singleton]; exact h) (by rw [List.length_append, HLN.out]; rfl) (by unfold maxLen; omega) (fun p hp => by
                  rcases List.mem_append.1 hp with h | h
                  · exact HLW.out.vals p h
                  · rw [List.mem_singleton.1 h]; exact HXY.out))
                go_simp
                refine (vBuild_is u283 A286 (n + 1) c287 (l ++ [(x, y)]) P303.out HBA2.out HK2.out HM2.out).mono ?_
                rintro e u296 ⟨A300, B298, c301, c299, rfl, hs302, hb297⟩
                have HS304 := Lib.hid hs302
                have G8305 := Lib.hid ((G8293.out).below hb297 (G8293.out).lt)
                have HB306 := Lib.hid (below_then HB290.out hb297 (HB290.out).size)
                have hS307 : (fun w' => w'.cell? ⟨w.heap.size, 0, none⟩ = some (.int .i64 x) ∧ w'.cell? ⟨w.heap.size, 1, none⟩ = some (.int .i64 y)) u296 := ⟨below_cells HB306.out hS.1, below_cells HB306.out hS.2⟩
                clear hs302 hb297
                go_wp2_with fail
                refine hK.out _ _ hS307 (fun ho92 => ?_)
                clear hK K
                try simp only [Act.put, List.setIfInBounds_toArray, List.set_cons_zero, List.set_cons_succ]
                refine wpAnyH_take (i := 7) (oi := ?oio937) (v := ?vo937) ?hio937 (by kernel_rfl) (by kernel_rfl) (by kernel_rfl) ?hQo937 (Or.inl ⟨?hwo937, ?hyo937⟩) (by assumption) ?resto937
                case hio937 => (first | (simp only [List.getElem?_toArray, List.getElem?_cons_zero, List.getElem?_cons_succ]; rfl) | rfl)
                case hQo937 => exact fun _ _ _ h => h
                case hwo937 => rfl
                case hyo937 => ((intro w hSw; go_simp); first | done | with_reducible rfl)
                try simp only [Act.put, List.setIfInBounds_toArray, List.set_cons_zero, List.set_cons_succ]
                refine wpAnyH_take (i := 8) (oi := ?oio948) (v := ?vo948) ?hio948 (by kernel_rfl) (by kernel_rfl) (by kernel_rfl) ?hQo948 (Or.inl ⟨?hwo948, ?hyo948⟩) (by assumption) ?resto948
                case hio948 => (first | (simp only [List.getElem?_toArray, List.getElem?_cons_zero, List.getElem?_cons_succ]; rfl) | rfl)
                case hQo948 => exact fun _ _ _ h => h
                case hwo948 => rfl
                case hyo948 => ((intro w hSw; go_simp); first | done | with_reducible rfl)
                try simp only [Act.put, List.setIfInBounds_toArray, List.set_cons_zero, List.set_cons_succ]
                refine wpAnyH_take (i := 9) (oi := ?oio959) (v := ?vo959) ?hio959 (by kernel_rfl) (by kernel_rfl) (by kernel_rfl) ?hQo959 (Or.inl ⟨?hwo959, ?hyo959⟩) (by assumption) ?resto959
                case hio959 => (first | (simp only [List.getElem?_toArray, List.getElem?_cons_zero, List.getElem?_cons_succ]; rfl) | rfl)
                case hQo959 => exact fun _ _ _ h => h
                case hwo959 => rfl
                case hyo959 => ((intro w hSw; go_simp); first | done | with_reducible rfl)
                try simp only [Act.put, List.setIfInBounds_toArray, List.set_cons_zero, List.set_cons_succ]
                refine wpAnyH_ready (rs := [11]) (by kernel_rfl) (by simp) ?_
                refine AllReadyH.cons (o := ?oo96) ?ho96 ?so96 AllReadyH.nil
                case ho96 => (simp only [List.getElem?_toArray, List.getElem?_cons_zero, List.getElem?_cons_succ]; rfl)
                case so96 =>
                  intro K hK
                  have z3080 := G8305.out.cell 0
                  have z3081 := G8305.out.cell 1
                  have z3082 := G8305.out.frozen 0
                  have z3083 := G8305.out.frozen 1
                  simp only [List.getElem?_toArray, List.getElem?_cons_zero, List.getElem?_cons_succ] at z3080 z3081
                  go_simp
                  have hge314 : W.heap.size ≤ u195.heap.size := GE282.out
                  have kp309 : Kept (fun i => i = u195.heap.size) u296 ((u296.setCell ⟨u195.heap.size, 0, none⟩ (.slice A300 k2 c301)).setCell ⟨u195.heap.size, 1, none⟩ (.slice B298 m2 c299)) := ((Kept.refl (fun i => i = u195.heap.size) u296).setCell (p := ⟨u195.heap.size, 0, none⟩) (.inl rfl) _).setCell (p := ⟨u195.heap.size, 1, none⟩) (.inl rfl) _
                  have HB310 := Lib.hid (((HB306.out).setCell (p := ⟨u195.heap.size, 0, none⟩) hge314 (.slice A300 k2 c301)).setCell (p := ⟨u195.heap.size, 1, none⟩) hge314 (.slice B298 m2 c299))
                  have G8311 := Lib.hid ((G8305.out.set_ 0 (.slice A300 k2 c301)).set_ 1 (.slice B298 m2 c299))
                  have VS312 := Lib.hid (HS304.out.far HSH2.out G8305.out kp309)
                  have hS313 : (fun w' => w'.cell? ⟨w.heap.size, 0, none⟩ = some (.int .i64 x) ∧ w'.cell? ⟨w.heap.size, 1, none⟩ = some (.int .i64 y)) ((u296.setCell ⟨u195.heap.size, 0, none⟩ (.slice A300 k2 c301)).setCell ⟨u195.heap.size, 1, none⟩ (.slice B298 m2 c299)) := ⟨below_cells HB310.out hS.1, below_cells HB310.out hS.2⟩
                  clear z3080 z3081 z3082 z3083 kp309 hge314
                  refine hK.out _ _ hS313 (fun ho97 => ?_)
                  clear hK K
                  try simp only [Act.put, List.setIfInBounds_toArray, List.set_cons_zero, List.set_cons_succ]
                  refine wpAnyH_take (i := 12) (oi := ?oio9812) (v := ?vo9812) ?hio9812 (by kernel_rfl) (by kernel_rfl) (by kernel_rfl) ?hQo9812 (Or.inl ⟨?hwo9812, ?hyo9812⟩) (by assumption) ?resto9812
                  case hio9812 => (first | (simp only [List.getElem?_toArray, List.getElem?_cons_zero, List.getElem?_cons_succ]; rfl) | rfl)
                  case hQo9812 => exact fun _ _ _ h => h
                  case hwo9812 => rfl
                  case hyo9812 => ((intro w hSw; go_simp); first | done | with_reducible rfl)
                  try simp only [Act.put, List.setIfInBounds_toArray, List.set_cons_zero, List.set_cons_succ]
                  refine wpAnyH_done (by kernel_rfl) ?_ _
                  go_wp2_with fail
                  go_meet
                  case rel => exact ⟨_, A300, B298, c301, c299, rfl, rfl, HB310.out, by have h := G8311.out; simpa [Blk] using h, VS312.out⟩
        case so63 =>
          intro K hK
          go_simp
          obtain ⟨u315, hu316⟩ : ∃ z, z = u185.alloc (.cells #[.slice none 0 0, .slice none 0 0] 33) := ⟨_, rfl⟩
          rw [← hu316]
          have hb317 : Below u185.heap.size u185 u315 := by rw [hu316]; exact (Below.refl _ u185).alloc (Nat.le_refl _) _
          have HB318 := Lib.hid ((HB188.out).trans ((hb317).mono (HB188.out).size))
          have HL319 := Lib.hid ((HL189.out).below hb317)
          have O23320 := Lib.hid (ownsRow_block (O23190.out) (fun g hg => (hb317).block g ((O23190.out).lt g hg).2))
          have K27321 := Lib.hid ((K27191.out).below hb317 (K27191.out).lt)
          have G8322 := Lib.hid ((by rw [hu316]; exact Blk.new u185 _ _ : Blk u315 u185.heap.size 33 #[.slice none 0 0, .slice none 0 0]))
          have hS323 : (fun w' => w'.cell? ⟨w.heap.size, 0, none⟩ = some (.int .i64 x) ∧ w'.cell? ⟨w.heap.size, 1, none⟩ = some (.int .i64 y)) u315 := ⟨below_cells hb317 hS192.1, below_cells hb317 hS192.2⟩
          clear hu316 hb317
          have GE324 := Lib.hid ((HB188.out).size)
          refine hK.out _ _ hS323 (fun ho99 => ?_)
          clear hK K
          try simp only [Act.put, List.setIfInBounds_toArray, List.set_cons_zero, List.set_cons_succ]
          refine wpAnyH_ready (rs := [2]) (by kernel_rfl) (by simp) ?_
          refine AllReadyH.cons (o := ?oo100) ?ho100 ?so100 AllReadyH.nil
          case ho100 => (simp only [List.getElem?_toArray, List.getElem?_cons_zero, List.getElem?_cons_succ]; rfl)
          case so100 =>
            intro K hK
            have NE27325 := Lib.hid (show Value.ownBlock (.slice (some ⟨u0.heap.size, 0, none⟩) 0 0) ≠ some u1.heap.size from fun e => by have h1 : u0.heap.size = u1.heap.size := Option.some.inj e; have := OR193.out; omega)
            refine step_append_srcN _ rfl (.tmp 23) (.tmp 24) 22 rfl W.heap.size 45 i0 (.agg #[.int .i64 0, .int .i64 0]) 2 16 Try.underlying22 hi hz0 hz1 hz2 rfl (by omega) _ 0 [] rfl O23320.out A n c (l.flatMap prCells) rfl (HL319.out.src) (prCells_one l) (by unfold maxLen; omega) (by omega) ((HB318.out).size) ?_
            intro v332 u326 hw328 hg327 hl331
            obtain ⟨A329, c330, rfl⟩ := own_slice hw328
            rw [Nat.zero_add, List.nil_append] at hw328
            rw [Nat.zero_add]
            have HB333 := Lib.hid ((HB318.out).grown hg327 ((HB318.out).size) (fun k e => (O23320.out.lt k e).1))
            have HL334 := Lib.hid (HLW.out.below HB333.out)
            have K27335 := Lib.hid ((K27321.out).grown hg327 (fun e => NE27325.out e.symm))
            have G8336 := Lib.hid ((G8322.out).grown hg327 (fun e => own_blk_ne O23320.out G8322.out (by decide) e.symm))
            have O25337 := Lib.hid hw328
            have hS338 : (fun w' => w'.cell? ⟨w.heap.size, 0, none⟩ = some (.int .i64 x) ∧ w'.cell? ⟨w.heap.size, 1, none⟩ = some (.int .i64 y)) u326 := ⟨below_cells HB333.out hS.1, below_cells HB333.out hS.2⟩
            clear hg327 hw328 hl331
            refine hK.out _ _ hS338 (fun ho101 => ?_)
            clear hK K
            try simp only [Act.put, List.setIfInBounds_toArray, List.set_cons_zero, List.set_cons_succ]
            refine wpAnyH_ready (rs := [5]) (by kernel_rfl) (by simp) ?_
            refine AllReadyH.cons (o := ?oo102) ?ho102 ?so102 AllReadyH.nil
            case ho102 => (simp only [List.getElem?_toArray, List.getElem?_cons_zero, List.getElem?_cons_succ]; rfl)
            case so102 =>
              intro K hK
              refine step_append_srcN _ rfl (.tmp 25) (.tmp 27) 22 rfl W.heap.size 45 i0 (.agg #[.int .i64 0, .int .i64 0]) 2 16 Try.underlying22 hi hz0 hz1 hz2 rfl (by omega) _ n (l.flatMap prCells) rfl O25337.out (some ⟨u1.heap.size, 0, none⟩) 1 1 (prCells (x, y)) rfl (⟨rfl, fun ad e j u hu => by cases e; rw [addr_add, K27335.out.cell]; simpa [prCells] using hu, fun e => by cases e⟩ : SrcN _ (some ⟨u1.heap.size, 0, none⟩) 1 2 (prCells (x, y))) (by simp [prCells, Value.oneCell']) (by unfold maxLen; omega) (by omega) ((HB333.out).size) ?_
              intro v345 u339 hw341 hg340 hl344
              obtain ⟨A342, c343, rfl⟩ := own_slice hw341
              have HB346 := Lib.hid ((HB333.out).grown hg340 ((HB333.out).size) (fun k e => (O25337.out.lt k e).1))
              have HL347 := Lib.hid (HLW.out.below HB346.out)
              have G8349 := Lib.hid ((G8336.out).grown hg340 (fun e => own_blk_ne O25337.out G8336.out (by decide) e.symm))
              have O28350 := Lib.hid hw341
              have hS351 : (fun w' => w'.cell? ⟨w.heap.size, 0, none⟩ = some (.int .i64 x) ∧ w'.cell? ⟨w.heap.size, 1, none⟩ = some (.int .i64 y)) u339 := ⟨below_cells HB346.out hS.1, below_cells HB346.out hS.2⟩
              clear hg340 hw341 hl344
              refine hK.out _ _ hS351 (fun ho103 => ?_)
              clear hK K
              try simp only [Act.put, List.setIfInBounds_toArray, List.set_cons_zero, List.set_cons_succ]
              refine wpAnyH_ready (rs := [6]) (by kernel_rfl) (by simp) ?_
              refine AllReadyH.cons (o := ?oo104) ?ho104 ?so104 AllReadyH.nil
              case ho104 => (simp only [List.getElem?_toArray, List.getElem?_cons_zero, List.getElem?_cons_succ]; rfl)
              case so104 =>
                intro K hK
                have P359 := Lib.hid (PairsIn.own (l := l ++ [(x, y)]) (n := n + 1) (c := c343) (by have h := O28350.out; rw [List.flatMap_append, List.flatMap_singleton]; exact h) (by rw [List.length_append, HLN.out]; rfl) (by unfold maxLen; omega) (fun p hp => by
                  rcases List.mem_append.1 hp with h | h
                  · exact HLW.out.vals p h
                  · rw [List.mem_singleton.1 h]; exact HXY.out))
                go_simp
                refine (vBuild_is u339 A342 (n + 1) c343 (l ++ [(x, y)]) P359.out HBA2.out HK2.out HM2.out).mono ?_
                rintro e u352 ⟨A356, B354, c357, c355, rfl, hs358, hb353⟩
                have HS360 := Lib.hid hs358
                have G8361 := Lib.hid ((G8349.out).below hb353 (G8349.out).lt)
                have HB362 := Lib.hid (below_then HB346.out hb353 (HB346.out).size)
                have hS363 : (fun w' => w'.cell? ⟨w.heap.size, 0, none⟩ = some (.int .i64 x) ∧ w'.cell? ⟨w.heap.size, 1, none⟩ = some (.int .i64 y)) u352 := ⟨below_cells HB362.out hS.1, below_cells HB362.out hS.2⟩
                clear hs358 hb353
                go_wp2_with fail
                refine hK.out _ _ hS363 (fun ho105 => ?_)
                clear hK K
                try simp only [Act.put, List.setIfInBounds_toArray, List.set_cons_zero, List.set_cons_succ]
                refine wpAnyH_take (i := 7) (oi := ?oio1067) (v := ?vo1067) ?hio1067 (by kernel_rfl) (by kernel_rfl) (by kernel_rfl) ?hQo1067 (Or.inl ⟨?hwo1067, ?hyo1067⟩) (by assumption) ?resto1067
                case hio1067 => (first | (simp only [List.getElem?_toArray, List.getElem?_cons_zero, List.getElem?_cons_succ]; rfl) | rfl)
                case hQo1067 => exact fun _ _ _ h => h
                case hwo1067 => rfl
                case hyo1067 => ((intro w hSw; go_simp); first | done | with_reducible rfl)
                try simp only [Act.put, List.setIfInBounds_toArray, List.set_cons_zero, List.set_cons_succ]
                refine wpAnyH_take (i := 8) (oi := ?oio1078) (v := ?vo1078) ?hio1078 (by kernel_rfl) (by kernel_rfl) (by kernel_rfl) ?hQo1078 (Or.inl ⟨?hwo1078, ?hyo1078⟩) (by assumption) ?resto1078
                case hio1078 => (first | (simp only [List.getElem?_toArray, List.getElem?_cons_zero, List.getElem?_cons_succ]; rfl) | rfl)
                case hQo1078 => exact fun _ _ _ h => h
                case hwo1078 => rfl
                case hyo1078 => ((intro w hSw; go_simp); first | done | with_reducible rfl)
                try simp only [Act.put, List.setIfInBounds_toArray, List.set_cons_zero, List.set_cons_succ]
                refine wpAnyH_take (i := 9) (oi := ?oio1089) (v := ?vo1089) ?hio1089 (by kernel_rfl) (by kernel_rfl) (by kernel_rfl) ?hQo1089 (Or.inl ⟨?hwo1089, ?hyo1089⟩) (by assumption) ?resto1089
                case hio1089 => (first | (simp only [List.getElem?_toArray, List.getElem?_cons_zero, List.getElem?_cons_succ]; rfl) | rfl)
                case hQo1089 => exact fun _ _ _ h => h
                case hwo1089 => rfl
                case hyo1089 => ((intro w hSw; go_simp); first | done | with_reducible rfl)
                try simp only [Act.put, List.setIfInBounds_toArray, List.set_cons_zero, List.set_cons_succ]
                refine wpAnyH_ready (rs := [11]) (by kernel_rfl) (by simp) ?_
                refine AllReadyH.cons (o := ?oo109) ?ho109 ?so109 AllReadyH.nil
                case ho109 => (simp only [List.getElem?_toArray, List.getElem?_cons_zero, List.getElem?_cons_succ]; rfl)
                case so109 =>
                  intro K hK
                  have z3640 := G8361.out.cell 0
                  have z3641 := G8361.out.cell 1
                  have z3642 := G8361.out.frozen 0
                  have z3643 := G8361.out.frozen 1
                  simp only [List.getElem?_toArray, List.getElem?_cons_zero, List.getElem?_cons_succ] at z3640 z3641
                  go_simp
                  have hge370 : W.heap.size ≤ u185.heap.size := GE324.out
                  have kp365 : Kept (fun i => i = u185.heap.size) u352 ((u352.setCell ⟨u185.heap.size, 0, none⟩ (.slice A356 k2 c357)).setCell ⟨u185.heap.size, 1, none⟩ (.slice B354 m2 c355)) := ((Kept.refl (fun i => i = u185.heap.size) u352).setCell (p := ⟨u185.heap.size, 0, none⟩) (.inl rfl) _).setCell (p := ⟨u185.heap.size, 1, none⟩) (.inl rfl) _
                  have HB366 := Lib.hid (((HB362.out).setCell (p := ⟨u185.heap.size, 0, none⟩) hge370 (.slice A356 k2 c357)).setCell (p := ⟨u185.heap.size, 1, none⟩) hge370 (.slice B354 m2 c355))
                  have G8367 := Lib.hid ((G8361.out.set_ 0 (.slice A356 k2 c357)).set_ 1 (.slice B354 m2 c355))
                  have VS368 := Lib.hid (HS360.out.far HSH2.out G8361.out kp365)
                  have hS369 : (fun w' => w'.cell? ⟨w.heap.size, 0, none⟩ = some (.int .i64 x) ∧ w'.cell? ⟨w.heap.size, 1, none⟩ = some (.int .i64 y)) ((u352.setCell ⟨u185.heap.size, 0, none⟩ (.slice A356 k2 c357)).setCell ⟨u185.heap.size, 1, none⟩ (.slice B354 m2 c355)) := ⟨below_cells HB366.out hS.1, below_cells HB366.out hS.2⟩
                  clear z3640 z3641 z3642 z3643 kp365 hge370
                  refine hK.out _ _ hS369 (fun ho110 => ?_)
                  clear hK K
                  try simp only [Act.put, List.setIfInBounds_toArray, List.set_cons_zero, List.set_cons_succ]
                  refine wpAnyH_take (i := 12) (oi := ?oio11112) (v := ?vo11112) ?hio11112 (by kernel_rfl) (by kernel_rfl) (by kernel_rfl) ?hQo11112 (Or.inl ⟨?hwo11112, ?hyo11112⟩) (by assumption) ?resto11112
                  case hio11112 => (first | (simp only [List.getElem?_toArray, List.getElem?_cons_zero, List.getElem?_cons_succ]; rfl) | rfl)
                  case hQo11112 => exact fun _ _ _ h => h
                  case hwo11112 => rfl
                  case hyo11112 => ((intro w hSw; go_simp); first | done | with_reducible rfl)
                  try simp only [Act.put, List.setIfInBounds_toArray, List.set_cons_zero, List.set_cons_succ]
                  refine wpAnyH_done (by kernel_rfl) ?_ _
                  go_wp2_with fail
                  go_meet
                  case rel => exact ⟨_, A356, B354, c357, c355, rfl, rfl, HB366.out, by have h := G8367.out; simpa [Blk] using h, VS368.out⟩
      case so9 =>
        intro K hK
        go_simp
        obtain ⟨u371, hu372⟩ : ∃ z, z = u1.alloc (.cells #[.slice none 0 0, .slice none 0 0] 33) := ⟨_, rfl⟩
        rw [← hu372]
        have hb373 : Below u1.heap.size u1 u371 := by rw [hu372]; exact (Below.refl _ u1).alloc (Nat.le_refl _) _
        have HB374 := Lib.hid ((HB4.out).trans ((hb373).mono (HB4.out).size))
        have HL375 := Lib.hid ((HL5.out).below hb373)
        have O23376 := Lib.hid (ownsRow_block (O236.out) (fun g hg => (hb373).block g ((O236.out).lt g hg).2))
        have G8377 := Lib.hid ((by rw [hu372]; exact Blk.new u1 _ _ : Blk u371 u1.heap.size 33 #[.slice none 0 0, .slice none 0 0]))
        have hS378 : (fun w' => w'.cell? ⟨w.heap.size, 0, none⟩ = some (.int .i64 x) ∧ w'.cell? ⟨w.heap.size, 1, none⟩ = some (.int .i64 y)) u371 := ⟨below_cells hb373 hS7.1, below_cells hb373 hS7.2⟩
        clear hu372 hb373
        have GE379 := Lib.hid ((HB4.out).size)
        refine hK.out _ _ hS378 (fun ho112 => ?_)
        clear hK K
        try simp only [Act.put, List.setIfInBounds_toArray, List.set_cons_zero, List.set_cons_succ]
        refine wpAnyH_ready (rs := [2, 4]) (by kernel_rfl) (by simp) ?_
        refine AllReadyH.cons (o := ?oo113) ?ho113 ?so113 (AllReadyH.cons (o := ?oo114) ?ho114 ?so114 AllReadyH.nil)
        case ho113 => (simp only [List.getElem?_toArray, List.getElem?_cons_zero, List.getElem?_cons_succ]; rfl)
        case ho114 => (simp only [List.getElem?_toArray, List.getElem?_cons_zero, List.getElem?_cons_succ]; rfl)
        case so113 =>
          intro K hK
          refine step_append_srcN _ rfl (.tmp 23) (.tmp 24) 22 rfl W.heap.size 45 i0 (.agg #[.int .i64 0, .int .i64 0]) 2 16 Try.underlying22 hi hz0 hz1 hz2 rfl (by omega) _ 0 [] rfl O23376.out A n c (l.flatMap prCells) rfl (HL375.out.src) (prCells_one l) (by unfold maxLen; omega) (by omega) ((HB374.out).size) ?_
          intro v386 u380 hw382 hg381 hl385
          obtain ⟨A383, c384, rfl⟩ := own_slice hw382
          rw [Nat.zero_add, List.nil_append] at hw382
          rw [Nat.zero_add]
          have HB387 := Lib.hid ((HB374.out).grown hg381 ((HB374.out).size) (fun k e => (O23376.out.lt k e).1))
          have HL388 := Lib.hid (HLW.out.below HB387.out)
          have G8389 := Lib.hid ((G8377.out).grown hg381 (fun e => own_blk_ne O23376.out G8377.out (by decide) e.symm))
          have O25390 := Lib.hid hw382
          have hS391 : (fun w' => w'.cell? ⟨w.heap.size, 0, none⟩ = some (.int .i64 x) ∧ w'.cell? ⟨w.heap.size, 1, none⟩ = some (.int .i64 y)) u380 := ⟨below_cells HB387.out hS.1, below_cells HB387.out hS.2⟩
          clear hg381 hw382 hl385
          refine hK.out _ _ hS391 (fun ho115 => ?_)
          clear hK K
          try simp only [Act.put, List.setIfInBounds_toArray, List.set_cons_zero, List.set_cons_succ]
          refine wpAnyH_ready (rs := [4]) (by kernel_rfl) (by simp) ?_
          refine AllReadyH.cons (o := ?oo116) ?ho116 ?so116 AllReadyH.nil
          case ho116 => (simp only [List.getElem?_toArray, List.getElem?_cons_zero, List.getElem?_cons_succ]; rfl)
          case so116 =>
            intro K hK
            go_simp
            obtain ⟨u392, hu393⟩ : ∃ z, z = u380.alloc (.cells #[.int .i64 x, .int .i64 y] 45) := ⟨_, rfl⟩
            rw [← hu393]
            have hb394 : Below u380.heap.size u380 u392 := by rw [hu393]; exact (Below.refl _ u380).alloc (Nat.le_refl _) _
            have HB395 := Lib.hid ((HB387.out).trans ((hb394).mono (HB387.out).size))
            have HL396 := Lib.hid ((HL388.out).below hb394)
            have G8397 := Lib.hid ((G8389.out).below hb394 (G8389.out).lt)
            have O25398 := Lib.hid (ownsRow_block (O25390.out) (fun g hg => (hb394).block g ((O25390.out).lt g hg).2))
            have K27399 := Lib.hid ((by rw [hu393]; exact Blk.new u380 _ _ : Blk u392 u380.heap.size 45 #[.int .i64 x, .int .i64 y]))
            have hS400 : (fun w' => w'.cell? ⟨w.heap.size, 0, none⟩ = some (.int .i64 x) ∧ w'.cell? ⟨w.heap.size, 1, none⟩ = some (.int .i64 y)) u392 := ⟨below_cells hb394 hS391.1, below_cells hb394 hS391.2⟩
            clear hu393 hb394
            refine hK.out _ _ hS400 (fun ho117 => ?_)
            clear hK K
            try simp only [Act.put, List.setIfInBounds_toArray, List.set_cons_zero, List.set_cons_succ]
            refine wpAnyH_ready (rs := [5]) (by kernel_rfl) (by simp) ?_
            refine AllReadyH.cons (o := ?oo118) ?ho118 ?so118 AllReadyH.nil
            case ho118 => (simp only [List.getElem?_toArray, List.getElem?_cons_zero, List.getElem?_cons_succ]; rfl)
            case so118 =>
              intro K hK
              refine step_append_srcN _ rfl (.tmp 25) (.tmp 27) 22 rfl W.heap.size 45 i0 (.agg #[.int .i64 0, .int .i64 0]) 2 16 Try.underlying22 hi hz0 hz1 hz2 rfl (by omega) _ n (l.flatMap prCells) rfl O25398.out (some ⟨u380.heap.size, 0, none⟩) 1 1 (prCells (x, y)) rfl (⟨rfl, fun ad e j u hu => by cases e; rw [addr_add, K27399.out.cell]; simpa [prCells] using hu, fun e => by cases e⟩ : SrcN _ (some ⟨u380.heap.size, 0, none⟩) 1 2 (prCells (x, y))) (by simp [prCells, Value.oneCell']) (by unfold maxLen; omega) (by omega) ((HB395.out).size) ?_
              intro v407 u401 hw403 hg402 hl406
              obtain ⟨A404, c405, rfl⟩ := own_slice hw403
              have HB408 := Lib.hid ((HB395.out).grown hg402 ((HB395.out).size) (fun k e => (O25398.out.lt k e).1))
              have HL409 := Lib.hid (HLW.out.below HB408.out)
              have G8410 := Lib.hid ((G8397.out).grown hg402 (fun e => own_blk_ne O25398.out G8397.out (by decide) e.symm))
              have O28412 := Lib.hid hw403
              have hS413 : (fun w' => w'.cell? ⟨w.heap.size, 0, none⟩ = some (.int .i64 x) ∧ w'.cell? ⟨w.heap.size, 1, none⟩ = some (.int .i64 y)) u401 := ⟨below_cells HB408.out hS.1, below_cells HB408.out hS.2⟩
              clear hg402 hw403 hl406
              refine hK.out _ _ hS413 (fun ho119 => ?_)
              clear hK K
              try simp only [Act.put, List.setIfInBounds_toArray, List.set_cons_zero, List.set_cons_succ]
              refine wpAnyH_ready (rs := [6]) (by kernel_rfl) (by simp) ?_
              refine AllReadyH.cons (o := ?oo120) ?ho120 ?so120 AllReadyH.nil
              case ho120 => (simp only [List.getElem?_toArray, List.getElem?_cons_zero, List.getElem?_cons_succ]; rfl)
              case so120 =>
                intro K hK
                have P421 := Lib.hid (PairsIn.own (l := l ++ [(x, y)]) (n := n + 1) (c := c405) (by have h := O28412.out; rw [List.flatMap_append, List.flatMap_singleton]; exact h) (by rw [List.length_append, HLN.out]; rfl) (by unfold maxLen; omega) (fun p hp => by
                  rcases List.mem_append.1 hp with h | h
                  · exact HLW.out.vals p h
                  · rw [List.mem_singleton.1 h]; exact HXY.out))
                go_simp
                refine (vBuild_is u401 A404 (n + 1) c405 (l ++ [(x, y)]) P421.out HBA2.out HK2.out HM2.out).mono ?_
                rintro e u414 ⟨A418, B416, c419, c417, rfl, hs420, hb415⟩
                have HS422 := Lib.hid hs420
                have G8423 := Lib.hid ((G8410.out).below hb415 (G8410.out).lt)
                have HB424 := Lib.hid (below_then HB408.out hb415 (HB408.out).size)
                have hS425 : (fun w' => w'.cell? ⟨w.heap.size, 0, none⟩ = some (.int .i64 x) ∧ w'.cell? ⟨w.heap.size, 1, none⟩ = some (.int .i64 y)) u414 := ⟨below_cells HB424.out hS.1, below_cells HB424.out hS.2⟩
                clear hs420 hb415
                go_wp2_with fail
                refine hK.out _ _ hS425 (fun ho121 => ?_)
                clear hK K
                try simp only [Act.put, List.setIfInBounds_toArray, List.set_cons_zero, List.set_cons_succ]
                refine wpAnyH_take (i := 7) (oi := ?oio1227) (v := ?vo1227) ?hio1227 (by kernel_rfl) (by kernel_rfl) (by kernel_rfl) ?hQo1227 (Or.inl ⟨?hwo1227, ?hyo1227⟩) (by assumption) ?resto1227
                case hio1227 => (first | (simp only [List.getElem?_toArray, List.getElem?_cons_zero, List.getElem?_cons_succ]; rfl) | rfl)
                case hQo1227 => exact fun _ _ _ h => h
                case hwo1227 => rfl
                case hyo1227 => ((intro w hSw; go_simp); first | done | with_reducible rfl)
                try simp only [Act.put, List.setIfInBounds_toArray, List.set_cons_zero, List.set_cons_succ]
                refine wpAnyH_take (i := 8) (oi := ?oio1238) (v := ?vo1238) ?hio1238 (by kernel_rfl) (by kernel_rfl) (by kernel_rfl) ?hQo1238 (Or.inl ⟨?hwo1238, ?hyo1238⟩) (by assumption) ?resto1238
                case hio1238 => (first | (simp only [List.getElem?_toArray, List.getElem?_cons_zero, List.getElem?_cons_succ]; rfl) | rfl)
                case hQo1238 => exact fun _ _ _ h => h
                case hwo1238 => rfl
                case hyo1238 => ((intro w hSw; go_simp); first | done | with_reducible rfl)
                try simp only [Act.put, List.setIfInBounds_toArray, List.set_cons_zero, List.set_cons_succ]
                refine wpAnyH_take (i := 9) (oi := ?oio1249) (v := ?vo1249) ?hio1249 (by kernel_rfl) (by kernel_rfl) (by kernel_rfl) ?hQo1249 (Or.inl ⟨?hwo1249, ?hyo1249⟩) (by assumption) ?resto1249
                case hio1249 => (first | (simp only [List.getElem?_toArray, List.getElem?_cons_zero, List.getElem?_cons_succ]; rfl) | rfl)
                case hQo1249 => exact fun _ _ _ h => h
                case hwo1249 => rfl
                case hyo1249 => ((intro w hSw; go_simp); first | done | with_reducible rfl)
                try simp only [Act.put, List.setIfInBounds_toArray, List.set_cons_zero, List.set_cons_succ]
                refine wpAnyH_ready (rs := [11]) (by kernel_rfl) (by simp) ?_
                refine AllReadyH.cons (o := ?oo125) ?ho125 ?so125 AllReadyH.nil
                case ho125 => (simp only [List.getElem?_toArray, List.getElem?_cons_zero, List.getElem?_cons_succ]; rfl)
                case so125 =>
                  intro K hK
                  have z4260 := G8423.out.cell 0
                  have z4261 := G8423.out.cell 1
                  have z4262 := G8423.out.frozen 0
                  have z4263 := G8423.out.frozen 1
                  simp only [List.getElem?_toArray, List.getElem?_cons_zero, List.getElem?_cons_succ] at z4260 z4261
                  go_simp
                  have hge432 : W.heap.size ≤ u1.heap.size := GE379.out
                  have kp427 : Kept (fun i => i = u1.heap.size) u414 ((u414.setCell ⟨u1.heap.size, 0, none⟩ (.slice A418 k2 c419)).setCell ⟨u1.heap.size, 1, none⟩ (.slice B416 m2 c417)) := ((Kept.refl (fun i => i = u1.heap.size) u414).setCell (p := ⟨u1.heap.size, 0, none⟩) (.inl rfl) _).setCell (p := ⟨u1.heap.size, 1, none⟩) (.inl rfl) _
                  have HB428 := Lib.hid (((HB424.out).setCell (p := ⟨u1.heap.size, 0, none⟩) hge432 (.slice A418 k2 c419)).setCell (p := ⟨u1.heap.size, 1, none⟩) hge432 (.slice B416 m2 c417))
                  have G8429 := Lib.hid ((G8423.out.set_ 0 (.slice A418 k2 c419)).set_ 1 (.slice B416 m2 c417))
                  have VS430 := Lib.hid (HS422.out.far HSH2.out G8423.out kp427)
                  have hS431 : (fun w' => w'.cell? ⟨w.heap.size, 0, none⟩ = some (.int .i64 x) ∧ w'.cell? ⟨w.heap.size, 1, none⟩ = some (.int .i64 y)) ((u414.setCell ⟨u1.heap.size, 0, none⟩ (.slice A418 k2 c419)).setCell ⟨u1.heap.size, 1, none⟩ (.slice B416 m2 c417)) := ⟨below_cells HB428.out hS.1, below_cells HB428.out hS.2⟩
                  clear z4260 z4261 z4262 z4263 kp427 hge432
                  refine hK.out _ _ hS431 (fun ho126 => ?_)
                  clear hK K
                  try simp only [Act.put, List.setIfInBounds_toArray, List.set_cons_zero, List.set_cons_succ]
                  refine wpAnyH_take (i := 12) (oi := ?oio12712) (v := ?vo12712) ?hio12712 (by kernel_rfl) (by kernel_rfl) (by kernel_rfl) ?hQo12712 (Or.inl ⟨?hwo12712, ?hyo12712⟩) (by assumption) ?resto12712
                  case hio12712 => (first | (simp only [List.getElem?_toArray, List.getElem?_cons_zero, List.getElem?_cons_succ]; rfl) | rfl)
                  case hQo12712 => exact fun _ _ _ h => h
                  case hwo12712 => rfl
                  case hyo12712 => ((intro w hSw; go_simp); first | done | with_reducible rfl)
                  try simp only [Act.put, List.setIfInBounds_toArray, List.set_cons_zero, List.set_cons_succ]
                  refine wpAnyH_done (by kernel_rfl) ?_ _
                  go_wp2_with fail
                  go_meet
                  case rel => exact ⟨_, A418, B416, c419, c417, rfl, rfl, HB428.out, by have h := G8429.out; simpa [Blk] using h, VS430.out⟩
        case so114 =>
          intro K hK
          go_simp
          obtain ⟨u433, hu434⟩ : ∃ z, z = u371.alloc (.cells #[.int .i64 x, .int .i64 y] 45) := ⟨_, rfl⟩
          rw [← hu434]
          have hb435 : Below u371.heap.size u371 u433 := by rw [hu434]; exact (Below.refl _ u371).alloc (Nat.le_refl _) _
          have HB436 := Lib.hid ((HB374.out).trans ((hb435).mono (HB374.out).size))
          have HL437 := Lib.hid ((HL375.out).below hb435)
          have O23438 := Lib.hid (ownsRow_block (O23376.out) (fun g hg => (hb435).block g ((O23376.out).lt g hg).2))
          have G8439 := Lib.hid ((G8377.out).below hb435 (G8377.out).lt)
          have K27440 := Lib.hid ((by rw [hu434]; exact Blk.new u371 _ _ : Blk u433 u371.heap.size 45 #[.int .i64 x, .int .i64 y]))
          have hS441 : (fun w' => w'.cell? ⟨w.heap.size, 0, none⟩ = some (.int .i64 x) ∧ w'.cell? ⟨w.heap.size, 1, none⟩ = some (.int .i64 y)) u433 := ⟨below_cells hb435 hS378.1, below_cells hb435 hS378.2⟩
          clear hu434 hb435
          have OR442 : Hid (u0.heap.size < u371.heap.size) := Lib.hid ((O23376.out.lt _ rfl).2)
          refine hK.out _ _ hS441 (fun ho128 => ?_)
          clear hK K
          try simp only [Act.put, List.setIfInBounds_toArray, List.set_cons_zero, List.set_cons_succ]
          refine wpAnyH_ready (rs := [2]) (by kernel_rfl) (by simp) ?_
          refine AllReadyH.cons (o := ?oo129) ?ho129 ?so129 AllReadyH.nil
          case ho129 => (simp only [List.getElem?_toArray, List.getElem?_cons_zero, List.getElem?_cons_succ]; rfl)
          case so129 =>
            intro K hK
            have NE27443 := Lib.hid (show Value.ownBlock (.slice (some ⟨u0.heap.size, 0, none⟩) 0 0) ≠ some u371.heap.size from fun e => by have h1 : u0.heap.size = u371.heap.size := Option.some.inj e; have := OR442.out; omega)
            refine step_append_srcN _ rfl (.tmp 23) (.tmp 24) 22 rfl W.heap.size 45 i0 (.agg #[.int .i64 0, .int .i64 0]) 2 16 Try.underlying22 hi hz0 hz1 hz2 rfl (by omega) _ 0 [] rfl O23438.out A n c (l.flatMap prCells) rfl (HL437.out.src) (prCells_one l) (by unfold maxLen; omega) (by omega) ((HB436.out).size) ?_
            intro v450 u444 hw446 hg445 hl449
            obtain ⟨A447, c448, rfl⟩ := own_slice hw446
            rw [Nat.zero_add, List.nil_append] at hw446
            rw [Nat.zero_add]
            have HB451 := Lib.hid ((HB436.out).grown hg445 ((HB436.out).size) (fun k e => (O23438.out.lt k e).1))
            have HL452 := Lib.hid (HLW.out.below HB451.out)
            have G8453 := Lib.hid ((G8439.out).grown hg445 (fun e => own_blk_ne O23438.out G8439.out (by decide) e.symm))
            have K27454 := Lib.hid ((K27440.out).grown hg445 (fun e => NE27443.out e.symm))
            have O25455 := Lib.hid hw446
            have hS456 : (fun w' => w'.cell? ⟨w.heap.size, 0, none⟩ = some (.int .i64 x) ∧ w'.cell? ⟨w.heap.size, 1, none⟩ = some (.int .i64 y)) u444 := ⟨below_cells HB451.out hS.1, below_cells HB451.out hS.2⟩
            clear hg445 hw446 hl449
            refine hK.out _ _ hS456 (fun ho130 => ?_)
            clear hK K
            try simp only [Act.put, List.setIfInBounds_toArray, List.set_cons_zero, List.set_cons_succ]
            refine wpAnyH_ready (rs := [5]) (by kernel_rfl) (by simp) ?_
            refine AllReadyH.cons (o := ?oo131) ?ho131 ?so131 AllReadyH.nil
            case ho131 => (simp only [List.getElem?_toArray, List.getElem?_cons_zero, List.getElem?_cons_succ]; rfl)
            case so131 =>
              intro K hK
              refine step_append_srcN _ rfl (.tmp 25) (.tmp 27) 22 rfl W.heap.size 45 i0 (.agg #[.int .i64 0, .int .i64 0]) 2 16 Try.underlying22 hi hz0 hz1 hz2 rfl (by omega) _ n (l.flatMap prCells) rfl O25455.out (some ⟨u371.heap.size, 0, none⟩) 1 1 (prCells (x, y)) rfl (⟨rfl, fun ad e j u hu => by cases e; rw [addr_add, K27454.out.cell]; simpa [prCells] using hu, fun e => by cases e⟩ : SrcN _ (some ⟨u371.heap.size, 0, none⟩) 1 2 (prCells (x, y))) (by simp [prCells, Value.oneCell']) (by unfold maxLen; omega) (by omega) ((HB451.out).size) ?_
              intro v463 u457 hw459 hg458 hl462
              obtain ⟨A460, c461, rfl⟩ := own_slice hw459
              have HB464 := Lib.hid ((HB451.out).grown hg458 ((HB451.out).size) (fun k e => (O25455.out.lt k e).1))
              have HL465 := Lib.hid (HLW.out.below HB464.out)
              have G8466 := Lib.hid ((G8453.out).grown hg458 (fun e => own_blk_ne O25455.out G8453.out (by decide) e.symm))
              have O28468 := Lib.hid hw459
              have hS469 : (fun w' => w'.cell? ⟨w.heap.size, 0, none⟩ = some (.int .i64 x) ∧ w'.cell? ⟨w.heap.size, 1, none⟩ = some (.int .i64 y)) u457 := ⟨below_cells HB464.out hS.1, below_cells HB464.out hS.2⟩
              clear hg458 hw459 hl462
              refine hK.out _ _ hS469 (fun ho132 => ?_)
              clear hK K
              try simp only [Act.put, List.setIfInBounds_toArray, List.set_cons_zero, List.set_cons_succ]
              refine wpAnyH_ready (rs := [6]) (by kernel_rfl) (by simp) ?_
              refine AllReadyH.cons (o := ?oo133) ?ho133 ?so133 AllReadyH.nil
              case ho133 => (simp only [List.getElem?_toArray, List.getElem?_cons_zero, List.getElem?_cons_succ]; rfl)
              case so133 =>
                intro K hK
                have P477 := Lib.hid (PairsIn.own (l := l ++ [(x, y)]) (n := n + 1) (c := c461) (by have h := O28468.out; rw [List.flatMap_append, List.flatMap_singleton]; exact h) (by rw [List.length_append, HLN.out]; rfl) (by unfold maxLen; omega) (fun p hp => by
                  rcases List.mem_append.1 hp with h | h
                  · exact HLW.out.vals p h
                  · rw [List.mem_singleton.1 h]; exact HXY.out))
                go_simp
                refine (vBuild_is u457 A460 (n + 1) c461 (l ++ [(x, y)]) P477.out HBA2.out HK2.out HM2.out).mono ?_
                rintro e u470 ⟨A474, B472, c475, c473, rfl, hs476, hb471⟩
                have HS478 := Lib.hid hs476
                have G8479 := Lib.hid ((G8466.out).below hb471 (G8466.out).lt)
                have HB480 := Lib.hid (below_then HB464.out hb471 (HB464.out).size)
                have hS481 : (fun w' => w'.cell? ⟨w.heap.size, 0, none⟩ = some (.int .i64 x) ∧ w'.cell? ⟨w.heap.size, 1, none⟩ = some (.int .i64 y)) u470 := ⟨below_cells HB480.out hS.1, below_cells HB480.out hS.2⟩
                clear hs476 hb471
                go_wp2_with fail
                refine hK.out _ _ hS481 (fun ho134 => ?_)
                clear hK K
                try simp only [Act.put, List.setIfInBounds_toArray, List.set_cons_zero, List.set_cons_succ]
                refine wpAnyH_take (i := 7) (oi := ?oio1357) (v := ?vo1357) ?hio1357 (by kernel_rfl) (by kernel_rfl) (by kernel_rfl) ?hQo1357 (Or.inl ⟨?hwo1357, ?hyo1357⟩) (by assumption) ?resto1357
                case hio1357 => (first | (simp only [List.getElem?_toArray, List.getElem?_cons_zero, List.getElem?_cons_succ]; rfl) | rfl)
                case hQo1357 => exact fun _ _ _ h => h
                case hwo1357 => rfl
                case hyo1357 => ((intro w hSw; go_simp); first | done | with_reducible rfl)
                try simp only [Act.put, List.setIfInBounds_toArray, List.set_cons_zero, List.set_cons_succ]
                refine wpAnyH_take (i := 8) (oi := ?oio1368) (v := ?vo1368) ?hio1368 (by kernel_rfl) (by kernel_rfl) (by kernel_rfl) ?hQo1368 (Or.inl ⟨?hwo1368, ?hyo1368⟩) (by assumption) ?resto1368
                case hio1368 => (first | (simp only [List.getElem?_toArray, List.getElem?_cons_zero, List.getElem?_cons_succ]; rfl) | rfl)
                case hQo1368 => exact fun _ _ _ h => h
                case hwo1368 => rfl
                case hyo1368 => ((intro w hSw; go_simp); first | done | with_reducible rfl)
                try simp only [Act.put, List.setIfInBounds_toArray, List.set_cons_zero, List.set_cons_succ]
                refine wpAnyH_take (i := 9) (oi := ?oio1379) (v := ?vo1379) ?hio1379 (by kernel_rfl) (by kernel_rfl) (by kernel_rfl) ?hQo1379 (Or.inl ⟨?hwo1379, ?hyo1379⟩) (by assumption) ?resto1379
                case hio1379 => (first | (simp only [List.getElem?_toArray, List.getElem?_cons_zero, List.getElem?_cons_succ]; rfl) | rfl)
                case hQo1379 => exact fun _ _ _ h => h
                case hwo1379 => rfl
                case hyo1379 => ((intro w hSw; go_simp); first | done | with_reducible rfl)
                try simp only [Act.put, List.setIfInBounds_toArray, List.set_cons_zero, List.set_cons_succ]
                refine wpAnyH_ready (rs := [11]) (by kernel_rfl) (by simp) ?_
                refine AllReadyH.cons (o := ?oo138) ?ho138 ?so138 AllReadyH.nil
                case ho138 => (simp only [List.getElem?_toArray, List.getElem?_cons_zero, List.getElem?_cons_succ]; rfl)
                case so138 =>
                  intro K hK
                  have z4820 := G8479.out.cell 0
                  have z4821 := G8479.out.cell 1
                  have z4822 := G8479.out.frozen 0
                  have z4823 := G8479.out.frozen 1
                  simp only [List.getElem?_toArray, List.getElem?_cons_zero, List.getElem?_cons_succ] at z4820 z4821
                  go_simp
                  have hge488 : W.heap.size ≤ u1.heap.size := GE379.out
                  have kp483 : Kept (fun i => i = u1.heap.size) u470 ((u470.setCell ⟨u1.heap.size, 0, none⟩ (.slice A474 k2 c475)).setCell ⟨u1.heap.size, 1, none⟩ (.slice B472 m2 c473)) := ((Kept.refl (fun i => i = u1.heap.size) u470).setCell (p := ⟨u1.heap.size, 0, none⟩) (.inl rfl) _).setCell (p := ⟨u1.heap.size, 1, none⟩) (.inl rfl) _
                  have HB484 := Lib.hid (((HB480.out).setCell (p := ⟨u1.heap.size, 0, none⟩) hge488 (.slice A474 k2 c475)).setCell (p := ⟨u1.heap.size, 1, none⟩) hge488 (.slice B472 m2 c473))
                  have G8485 := Lib.hid ((G8479.out.set_ 0 (.slice A474 k2 c475)).set_ 1 (.slice B472 m2 c473))
                  have VS486 := Lib.hid (HS478.out.far HSH2.out G8479.out kp483)
                  have hS487 : (fun w' => w'.cell? ⟨w.heap.size, 0, none⟩ = some (.int .i64 x) ∧ w'.cell? ⟨w.heap.size, 1, none⟩ = some (.int .i64 y)) ((u470.setCell ⟨u1.heap.size, 0, none⟩ (.slice A474 k2 c475)).setCell ⟨u1.heap.size, 1, none⟩ (.slice B472 m2 c473)) := ⟨below_cells HB484.out hS.1, below_cells HB484.out hS.2⟩
                  clear z4820 z4821 z4822 z4823 kp483 hge488
                  refine hK.out _ _ hS487 (fun ho139 => ?_)
                  clear hK K
                  try simp only [Act.put, List.setIfInBounds_toArray, List.set_cons_zero, List.set_cons_succ]
                  refine wpAnyH_take (i := 12) (oi := ?oio14012) (v := ?vo14012) ?hio14012 (by kernel_rfl) (by kernel_rfl) (by kernel_rfl) ?hQo14012 (Or.inl ⟨?hwo14012, ?hyo14012⟩) (by assumption) ?resto14012
                  case hio14012 => (first | (simp only [List.getElem?_toArray, List.getElem?_cons_zero, List.getElem?_cons_succ]; rfl) | rfl)
                  case hQo14012 => exact fun _ _ _ h => h
                  case hwo14012 => rfl
                  case hyo14012 => ((intro w hSw; go_simp); first | done | with_reducible rfl)
                  try simp only [Act.put, List.setIfInBounds_toArray, List.set_cons_zero, List.set_cons_succ]
                  refine wpAnyH_done (by kernel_rfl) ?_ _
                  go_wp2_with fail
                  go_meet
                  case rel => exact ⟨_, A474, B472, c475, c473, rfl, rfl, HB484.out, by have h := G8485.out; simpa [Blk] using h, VS486.out⟩
    case so4 =>
      intro K hK
      go_simp
      obtain ⟨u489, hu490⟩ : ∃ z, z = u0.alloc (.cells #[.int .i64 x, .int .i64 y] 45) := ⟨_, rfl⟩
      rw [← hu490]
      have hb491 : Below u0.heap.size u0 u489 := by rw [hu490]; exact (Below.refl _ u0).alloc (Nat.le_refl _) _
      have HB492 := Lib.hid ((HBW.out).trans ((hb491).mono (HBW.out).size))
      have HL493 := Lib.hid ((HL0.out).below hb491)
      have K27494 := Lib.hid ((by rw [hu490]; exact Blk.new u0 _ _ : Blk u489 u0.heap.size 45 #[.int .i64 x, .int .i64 y]))
      have hS495 : (fun w' => w'.cell? ⟨w.heap.size, 0, none⟩ = some (.int .i64 x) ∧ w'.cell? ⟨w.heap.size, 1, none⟩ = some (.int .i64 y)) u489 := ⟨below_cells hb491 hHeld.1, below_cells hb491 hHeld.2⟩
      clear hu490 hb491
      refine hK.out _ _ hS495 (fun ho141 => ?_)
      clear hK K
      try simp only [Act.put, List.setIfInBounds_toArray, List.set_cons_zero, List.set_cons_succ]
      refine wpAnyH_ready (rs := [0, 10]) (by kernel_rfl) (by simp) ?_
      refine AllReadyH.cons (o := ?oo142) ?ho142 ?so142 (AllReadyH.cons (o := ?oo143) ?ho143 ?so143 AllReadyH.nil)
      case ho142 => (simp only [List.getElem?_toArray, List.getElem?_cons_zero, List.getElem?_cons_succ]; rfl)
      case ho143 => (simp only [List.getElem?_toArray, List.getElem?_cons_zero, List.getElem?_cons_succ]; rfl)
      case so142 =>
        intro K hK
        go_simp
        obtain ⟨u496, hu497⟩ : ∃ z, z = u489.alloc (.cells #[] 45) := ⟨_, rfl⟩
        rw [← hu497]
        have hb498 : Below u489.heap.size u489 u496 := by rw [hu497]; exact (Below.refl _ u489).alloc (Nat.le_refl _) _
        have HB499 := Lib.hid ((HB492.out).trans ((hb498).mono (HB492.out).size))
        have HL500 := Lib.hid ((HL493.out).below hb498)
        have K27501 := Lib.hid ((K27494.out).below hb498 (K27494.out).lt)
        have O23502 := Lib.hid ((by rw [hu497]; exact World.ownsRow_made u489 #[] 0 (HB492.out).size (Nat.zero_le _) rfl : World.ownsRow u496 W.heap.size 45 2 (.slice (some ⟨u489.heap.size, 0, none⟩) 0 0) 0 []))
        have hS503 : (fun w' => w'.cell? ⟨w.heap.size, 0, none⟩ = some (.int .i64 x) ∧ w'.cell? ⟨w.heap.size, 1, none⟩ = some (.int .i64 y)) u496 := ⟨below_cells hb498 hS495.1, below_cells hb498 hS495.2⟩
        clear hu497 hb498
        have OR504 : Hid (u0.heap.size < u489.heap.size) := Lib.hid (K27494.out.lt)
        refine hK.out _ _ hS503 (fun ho144 => ?_)
        clear hK K
        try simp only [Act.put, List.setIfInBounds_toArray, List.set_cons_zero, List.set_cons_succ]
        refine wpAnyH_ready (rs := [2, 10]) (by kernel_rfl) (by simp) ?_
        refine AllReadyH.cons (o := ?oo145) ?ho145 ?so145 (AllReadyH.cons (o := ?oo146) ?ho146 ?so146 AllReadyH.nil)
        case ho145 => (simp only [List.getElem?_toArray, List.getElem?_cons_zero, List.getElem?_cons_succ]; rfl)
        case ho146 => (simp only [List.getElem?_toArray, List.getElem?_cons_zero, List.getElem?_cons_succ]; rfl)
        case so145 =>
          intro K hK
          have NE27505 := Lib.hid (show Value.ownBlock (.slice (some ⟨u489.heap.size, 0, none⟩) 0 0) ≠ some u0.heap.size from fun e => by have h1 : u489.heap.size = u0.heap.size := Option.some.inj e; have := OR504.out; omega)
          refine step_append_srcN _ rfl (.tmp 23) (.tmp 24) 22 rfl W.heap.size 45 i0 (.agg #[.int .i64 0, .int .i64 0]) 2 16 Try.underlying22 hi hz0 hz1 hz2 rfl (by omega) _ 0 [] rfl O23502.out A n c (l.flatMap prCells) rfl (HL500.out.src) (prCells_one l) (by unfold maxLen; omega) (by omega) ((HB499.out).size) ?_
          intro v512 u506 hw508 hg507 hl511
          obtain ⟨A509, c510, rfl⟩ := own_slice hw508
          rw [Nat.zero_add, List.nil_append] at hw508
          rw [Nat.zero_add]
          have HB513 := Lib.hid ((HB499.out).grown hg507 ((HB499.out).size) (fun k e => (O23502.out.lt k e).1))
          have HL514 := Lib.hid (HLW.out.below HB513.out)
          have K27515 := Lib.hid ((K27501.out).grown hg507 (fun e => NE27505.out e.symm))
          have O25516 := Lib.hid hw508
          have hS517 : (fun w' => w'.cell? ⟨w.heap.size, 0, none⟩ = some (.int .i64 x) ∧ w'.cell? ⟨w.heap.size, 1, none⟩ = some (.int .i64 y)) u506 := ⟨below_cells HB513.out hS.1, below_cells HB513.out hS.2⟩
          clear hg507 hw508 hl511
          refine hK.out _ _ hS517 (fun ho147 => ?_)
          clear hK K
          try simp only [Act.put, List.setIfInBounds_toArray, List.set_cons_zero, List.set_cons_succ]
          refine wpAnyH_ready (rs := [5, 10]) (by kernel_rfl) (by simp) ?_
          refine AllReadyH.cons (o := ?oo148) ?ho148 ?so148 (AllReadyH.cons (o := ?oo149) ?ho149 ?so149 AllReadyH.nil)
          case ho148 => (simp only [List.getElem?_toArray, List.getElem?_cons_zero, List.getElem?_cons_succ]; rfl)
          case ho149 => (simp only [List.getElem?_toArray, List.getElem?_cons_zero, List.getElem?_cons_succ]; rfl)
          case so148 =>
            intro K hK
            refine step_append_srcN _ rfl (.tmp 25) (.tmp 27) 22 rfl W.heap.size 45 i0 (.agg #[.int .i64 0, .int .i64 0]) 2 16 Try.underlying22 hi hz0 hz1 hz2 rfl (by omega) _ n (l.flatMap prCells) rfl O25516.out (some ⟨u0.heap.size, 0, none⟩) 1 1 (prCells (x, y)) rfl (⟨rfl, fun ad e j u hu => by cases e; rw [addr_add, K27515.out.cell]; simpa [prCells] using hu, fun e => by cases e⟩ : SrcN _ (some ⟨u0.heap.size, 0, none⟩) 1 2 (prCells (x, y))) (by simp [prCells, Value.oneCell']) (by unfold maxLen; omega) (by omega) ((HB513.out).size) ?_
            intro v524 u518 hw520 hg519 hl523
            obtain ⟨A521, c522, rfl⟩ := own_slice hw520
            have HB525 := Lib.hid ((HB513.out).grown hg519 ((HB513.out).size) (fun k e => (O25516.out.lt k e).1))
            have HL526 := Lib.hid (HLW.out.below HB525.out)
            have O28528 := Lib.hid hw520
            have hS529 : (fun w' => w'.cell? ⟨w.heap.size, 0, none⟩ = some (.int .i64 x) ∧ w'.cell? ⟨w.heap.size, 1, none⟩ = some (.int .i64 y)) u518 := ⟨below_cells HB525.out hS.1, below_cells HB525.out hS.2⟩
            clear hg519 hw520 hl523
            refine hK.out _ _ hS529 (fun ho150 => ?_)
            clear hK K
            try simp only [Act.put, List.setIfInBounds_toArray, List.set_cons_zero, List.set_cons_succ]
            refine wpAnyH_ready (rs := [6, 10]) (by kernel_rfl) (by simp) ?_
            refine AllReadyH.cons (o := ?oo151) ?ho151 ?so151 (AllReadyH.cons (o := ?oo152) ?ho152 ?so152 AllReadyH.nil)
            case ho151 => (simp only [List.getElem?_toArray, List.getElem?_cons_zero, List.getElem?_cons_succ]; rfl)
            case ho152 => (simp only [List.getElem?_toArray, List.getElem?_cons_zero, List.getElem?_cons_succ]; rfl)
            case so151 =>
              intro K hK
              have P537 := Lib.hid (PairsIn.own (l := l ++ [(x, y)]) (n := n + 1) (c := c522) (by have h := O28528.out; rw [List.flatMap_append, List.flatMap_singleton]; exact h) (by rw [List.length_append, HLN.out]; rfl) (by unfold maxLen; omega) (fun p hp => by
                rcases List.mem_append.1 hp with h | h
                · exact HLW.out.vals p h
                · rw [List.mem_singleton.1 h]; exact HXY.out))
              go_simp
              refine (vBuild_is u518 A521 (n + 1) c522 (l ++ [(x, y)]) P537.out HBA2.out HK2.out HM2.out).mono ?_
              rintro e u530 ⟨A534, B532, c535, c533, rfl, hs536, hb531⟩
              have HS538 := Lib.hid hs536
              have HB539 := Lib.hid (below_then HB525.out hb531 (HB525.out).size)
              have hS540 : (fun w' => w'.cell? ⟨w.heap.size, 0, none⟩ = some (.int .i64 x) ∧ w'.cell? ⟨w.heap.size, 1, none⟩ = some (.int .i64 y)) u530 := ⟨below_cells HB539.out hS.1, below_cells HB539.out hS.2⟩
              clear hs536 hb531
              go_wp2_with fail
              refine hK.out _ _ hS540 (fun ho153 => ?_)
              clear hK K
              try simp only [Act.put, List.setIfInBounds_toArray, List.set_cons_zero, List.set_cons_succ]
              refine wpAnyH_take (i := 7) (oi := ?oio1547) (v := ?vo1547) ?hio1547 (by kernel_rfl) (by kernel_rfl) (by kernel_rfl) ?hQo1547 (Or.inl ⟨?hwo1547, ?hyo1547⟩) (by assumption) ?resto1547
              case hio1547 => (first | (simp only [List.getElem?_toArray, List.getElem?_cons_zero, List.getElem?_cons_succ]; rfl) | rfl)
              case hQo1547 => exact fun _ _ _ h => h
              case hwo1547 => rfl
              case hyo1547 => ((intro w hSw; go_simp); first | done | with_reducible rfl)
              try simp only [Act.put, List.setIfInBounds_toArray, List.set_cons_zero, List.set_cons_succ]
              refine wpAnyH_take (i := 8) (oi := ?oio1558) (v := ?vo1558) ?hio1558 (by kernel_rfl) (by kernel_rfl) (by kernel_rfl) ?hQo1558 (Or.inl ⟨?hwo1558, ?hyo1558⟩) (by assumption) ?resto1558
              case hio1558 => (first | (simp only [List.getElem?_toArray, List.getElem?_cons_zero, List.getElem?_cons_succ]; rfl) | rfl)
              case hQo1558 => exact fun _ _ _ h => h
              case hwo1558 => rfl
              case hyo1558 => ((intro w hSw; go_simp); first | done | with_reducible rfl)
              try simp only [Act.put, List.setIfInBounds_toArray, List.set_cons_zero, List.set_cons_succ]
              refine wpAnyH_take (i := 9) (oi := ?oio1569) (v := ?vo1569) ?hio1569 (by kernel_rfl) (by kernel_rfl) (by kernel_rfl) ?hQo1569 (Or.inl ⟨?hwo1569, ?hyo1569⟩) (by assumption) ?resto1569
              case hio1569 => (first | (simp only [List.getElem?_toArray, List.getElem?_cons_zero, List.getElem?_cons_succ]; rfl) | rfl)
              case hQo1569 => exact fun _ _ _ h => h
              case hwo1569 => rfl
              case hyo1569 => ((intro w hSw; go_simp); first | done | with_reducible rfl)
              try simp only [Act.put, List.setIfInBounds_toArray, List.set_cons_zero, List.set_cons_succ]
              refine wpAnyH_ready (rs := [10]) (by kernel_rfl) (by simp) ?_
              refine AllReadyH.cons (o := ?oo157) ?ho157 ?so157 AllReadyH.nil
              case ho157 => (simp only [List.getElem?_toArray, List.getElem?_cons_zero, List.getElem?_cons_succ]; rfl)
              case so157 =>
                intro K hK
                go_simp
                obtain ⟨u541, hu542⟩ : ∃ z, z = u530.alloc (.cells #[.slice none 0 0, .slice none 0 0] 33) := ⟨_, rfl⟩
                rw [← hu542]
                have hb543 : Below u530.heap.size u530 u541 := by rw [hu542]; exact (Below.refl _ u530).alloc (Nat.le_refl _) _
                have HB544 := Lib.hid ((HB539.out).trans ((hb543).mono (HB539.out).size))
                have VS545 := Lib.hid ((HS538.out).below hb543)
                have G8546 := Lib.hid ((by rw [hu542]; exact Blk.new u530 _ _ : Blk u541 u530.heap.size 33 #[.slice none 0 0, .slice none 0 0]))
                have hS547 : (fun w' => w'.cell? ⟨w.heap.size, 0, none⟩ = some (.int .i64 x) ∧ w'.cell? ⟨w.heap.size, 1, none⟩ = some (.int .i64 y)) u541 := ⟨below_cells hb543 hS540.1, below_cells hb543 hS540.2⟩
                clear hu542 hb543
                have GE548 := Lib.hid ((HB539.out).size)
                refine hK.out _ _ hS547 (fun ho158 => ?_)
                clear hK K
                try simp only [Act.put, List.setIfInBounds_toArray, List.set_cons_zero, List.set_cons_succ]
                refine wpAnyH_ready (rs := [11]) (by kernel_rfl) (by simp) ?_
                refine AllReadyH.cons (o := ?oo159) ?ho159 ?so159 AllReadyH.nil
                case ho159 => (simp only [List.getElem?_toArray, List.getElem?_cons_zero, List.getElem?_cons_succ]; rfl)
                case so159 =>
                  intro K hK
                  have z5490 := G8546.out.cell 0
                  have z5491 := G8546.out.cell 1
                  have z5492 := G8546.out.frozen 0
                  have z5493 := G8546.out.frozen 1
                  simp only [List.getElem?_toArray, List.getElem?_cons_zero, List.getElem?_cons_succ] at z5490 z5491
                  go_simp
                  have hge555 : W.heap.size ≤ u530.heap.size := GE548.out
                  have kp550 : Kept (fun i => i = u530.heap.size) u541 ((u541.setCell ⟨u530.heap.size, 0, none⟩ (.slice A534 k2 c535)).setCell ⟨u530.heap.size, 1, none⟩ (.slice B532 m2 c533)) := ((Kept.refl (fun i => i = u530.heap.size) u541).setCell (p := ⟨u530.heap.size, 0, none⟩) (.inl rfl) _).setCell (p := ⟨u530.heap.size, 1, none⟩) (.inl rfl) _
                  have HB551 := Lib.hid (((HB544.out).setCell (p := ⟨u530.heap.size, 0, none⟩) hge555 (.slice A534 k2 c535)).setCell (p := ⟨u530.heap.size, 1, none⟩) hge555 (.slice B532 m2 c533))
                  have G8552 := Lib.hid ((G8546.out.set_ 0 (.slice A534 k2 c535)).set_ 1 (.slice B532 m2 c533))
                  have VS553 := Lib.hid (VS545.out.far HSH2.out G8546.out kp550)
                  have hS554 : (fun w' => w'.cell? ⟨w.heap.size, 0, none⟩ = some (.int .i64 x) ∧ w'.cell? ⟨w.heap.size, 1, none⟩ = some (.int .i64 y)) ((u541.setCell ⟨u530.heap.size, 0, none⟩ (.slice A534 k2 c535)).setCell ⟨u530.heap.size, 1, none⟩ (.slice B532 m2 c533)) := ⟨below_cells HB551.out hS.1, below_cells HB551.out hS.2⟩
                  clear z5490 z5491 z5492 z5493 kp550 hge555
                  refine hK.out _ _ hS554 (fun ho160 => ?_)
                  clear hK K
                  try simp only [Act.put, List.setIfInBounds_toArray, List.set_cons_zero, List.set_cons_succ]
                  refine wpAnyH_take (i := 12) (oi := ?oio16112) (v := ?vo16112) ?hio16112 (by kernel_rfl) (by kernel_rfl) (by kernel_rfl) ?hQo16112 (Or.inl ⟨?hwo16112, ?hyo16112⟩) (by assumption) ?resto16112
                  case hio16112 => (first | (simp only [List.getElem?_toArray, List.getElem?_cons_zero, List.getElem?_cons_succ]; rfl) | rfl)
                  case hQo16112 => exact fun _ _ _ h => h
                  case hwo16112 => rfl
                  case hyo16112 => ((intro w hSw; go_simp); first | done | with_reducible rfl)
                  try simp only [Act.put, List.setIfInBounds_toArray, List.set_cons_zero, List.set_cons_succ]
                  refine wpAnyH_done (by kernel_rfl) ?_ _
                  go_wp2_with fail
                  go_meet
                  case rel => exact ⟨_, A534, B532, c535, c533, rfl, rfl, HB551.out, by have h := G8552.out; simpa [Blk] using h, VS553.out⟩
            case so152 =>
              intro K hK
              go_simp
              obtain ⟨u556, hu557⟩ : ∃ z, z = u518.alloc (.cells #[.slice none 0 0, .slice none 0 0] 33) := ⟨_, rfl⟩
              rw [← hu557]
              have hb558 : Below u518.heap.size u518 u556 := by rw [hu557]; exact (Below.refl _ u518).alloc (Nat.le_refl _) _
              have HB559 := Lib.hid ((HB525.out).trans ((hb558).mono (HB525.out).size))
              have HL560 := Lib.hid ((HL526.out).below hb558)
              have O28561 := Lib.hid (ownsRow_block (O28528.out) (fun g hg => (hb558).block g ((O28528.out).lt g hg).2))
              have G8562 := Lib.hid ((by rw [hu557]; exact Blk.new u518 _ _ : Blk u556 u518.heap.size 33 #[.slice none 0 0, .slice none 0 0]))
              have hS563 : (fun w' => w'.cell? ⟨w.heap.size, 0, none⟩ = some (.int .i64 x) ∧ w'.cell? ⟨w.heap.size, 1, none⟩ = some (.int .i64 y)) u556 := ⟨below_cells hb558 hS529.1, below_cells hb558 hS529.2⟩
              clear hu557 hb558
              have GE564 := Lib.hid ((HB525.out).size)
              refine hK.out _ _ hS563 (fun ho162 => ?_)
              clear hK K
              try simp only [Act.put, List.setIfInBounds_toArray, List.set_cons_zero, List.set_cons_succ]
              refine wpAnyH_ready (rs := [6]) (by kernel_rfl) (by simp) ?_
              refine AllReadyH.cons (o := ?oo163) ?ho163 ?so163 AllReadyH.nil
              case ho163 => (simp only [List.getElem?_toArray, List.getElem?_cons_zero, List.getElem?_cons_succ]; rfl)
              case so163 =>
                intro K hK
                have P572 := Lib.hid (PairsIn.own (l := l ++ [(x, y)]) (n := n + 1) (c := c522) (by have h := O28561.out; rw [List.flatMap_append, List.flatMap_singleton]; exact h) (by rw [List.length_append, HLN.out]; rfl) (by unfold maxLen; omega) (fun p hp => by
                  rcases List.mem_append.1 hp with h | h
                  · exact HLW.out.vals p h
                  · rw [List.mem_singleton.1 h]; exact HXY.out))
                go_simp
                refine (vBuild_is u556 A521 (n + 1) c522 (l ++ [(x, y)]) P572.out HBA2.out HK2.out HM2.out).mono ?_
                rintro e u565 ⟨A569, B567, c570, c568, rfl, hs571, hb566⟩
                have HS573 := Lib.hid hs571
                have G8574 := Lib.hid ((G8562.out).below hb566 (G8562.out).lt)
                have HB575 := Lib.hid (below_then HB559.out hb566 (HB559.out).size)
                have hS576 : (fun w' => w'.cell? ⟨w.heap.size, 0, none⟩ = some (.int .i64 x) ∧ w'.cell? ⟨w.heap.size, 1, none⟩ = some (.int .i64 y)) u565 := ⟨below_cells HB575.out hS.1, below_cells HB575.out hS.2⟩
                clear hs571 hb566
                go_wp2_with fail
                refine hK.out _ _ hS576 (fun ho164 => ?_)
                clear hK K
                try simp only [Act.put, List.setIfInBounds_toArray, List.set_cons_zero, List.set_cons_succ]
                refine wpAnyH_take (i := 7) (oi := ?oio1657) (v := ?vo1657) ?hio1657 (by kernel_rfl) (by kernel_rfl) (by kernel_rfl) ?hQo1657 (Or.inl ⟨?hwo1657, ?hyo1657⟩) (by assumption) ?resto1657
                case hio1657 => (first | (simp only [List.getElem?_toArray, List.getElem?_cons_zero, List.getElem?_cons_succ]; rfl) | rfl)
                case hQo1657 => exact fun _ _ _ h => h
                case hwo1657 => rfl
                case hyo1657 => ((intro w hSw; go_simp); first | done | with_reducible rfl)
                try simp only [Act.put, List.setIfInBounds_toArray, List.set_cons_zero, List.set_cons_succ]
                refine wpAnyH_take (i := 8) (oi := ?oio1668) (v := ?vo1668) ?hio1668 (by kernel_rfl) (by kernel_rfl) (by kernel_rfl) ?hQo1668 (Or.inl ⟨?hwo1668, ?hyo1668⟩) (by assumption) ?resto1668
                case hio1668 => (first | (simp only [List.getElem?_toArray, List.getElem?_cons_zero, List.getElem?_cons_succ]; rfl) | rfl)
                case hQo1668 => exact fun _ _ _ h => h
                case hwo1668 => rfl
                case hyo1668 => ((intro w hSw; go_simp); first | done | with_reducible rfl)
                try simp only [Act.put, List.setIfInBounds_toArray, List.set_cons_zero, List.set_cons_succ]
                refine wpAnyH_take (i := 9) (oi := ?oio1679) (v := ?vo1679) ?hio1679 (by kernel_rfl) (by kernel_rfl) (by kernel_rfl) ?hQo1679 (Or.inl ⟨?hwo1679, ?hyo1679⟩) (by assumption) ?resto1679
                case hio1679 => (first | (simp only [List.getElem?_toArray, List.getElem?_cons_zero, List.getElem?_cons_succ]; rfl) | rfl)
                case hQo1679 => exact fun _ _ _ h => h
                case hwo1679 => rfl
                case hyo1679 => ((intro w hSw; go_simp); first | done | with_reducible rfl)
                try simp only [Act.put, List.setIfInBounds_toArray, List.set_cons_zero, List.set_cons_succ]
                refine wpAnyH_ready (rs := [11]) (by kernel_rfl) (by simp) ?_
                refine AllReadyH.cons (o := ?oo168) ?ho168 ?so168 AllReadyH.nil
                case ho168 => (simp only [List.getElem?_toArray, List.getElem?_cons_zero, List.getElem?_cons_succ]; rfl)
                case so168 =>
                  intro K hK
                  have z5770 := G8574.out.cell 0
                  have z5771 := G8574.out.cell 1
                  have z5772 := G8574.out.frozen 0
                  have z5773 := G8574.out.frozen 1
                  simp only [List.getElem?_toArray, List.getElem?_cons_zero, List.getElem?_cons_succ] at z5770 z5771
                  go_simp
                  have hge583 : W.heap.size ≤ u518.heap.size := GE564.out
                  have kp578 : Kept (fun i => i = u518.heap.size) u565 ((u565.setCell ⟨u518.heap.size, 0, none⟩ (.slice A569 k2 c570)).setCell ⟨u518.heap.size, 1, none⟩ (.slice B567 m2 c568)) := ((Kept.refl (fun i => i = u518.heap.size) u565).setCell (p := ⟨u518.heap.size, 0, none⟩) (.inl rfl) _).setCell (p := ⟨u518.heap.size, 1, none⟩) (.inl rfl) _
                  have HB579 := Lib.hid (((HB575.out).setCell (p := ⟨u518.heap.size, 0, none⟩) hge583 (.slice A569 k2 c570)).setCell (p := ⟨u518.heap.size, 1, none⟩) hge583 (.slice B567 m2 c568))
                  have G8580 := Lib.hid ((G8574.out.set_ 0 (.slice A569 k2 c570)).set_ 1 (.slice B567 m2 c568))
                  have VS581 := Lib.hid (HS573.out.far HSH2.out G8574.out kp578)
                  have hS582 : (fun w' => w'.cell? ⟨w.heap.size, 0, none⟩ = some (.int .i64 x) ∧ w'.cell? ⟨w.heap.size, 1, none⟩ = some (.int .i64 y)) ((u565.setCell ⟨u518.heap.size, 0, none⟩ (.slice A569 k2 c570)).setCell ⟨u518.heap.size, 1, none⟩ (.slice B567 m2 c568)) := ⟨below_cells HB579.out hS.1, below_cells HB579.out hS.2⟩
                  clear z5770 z5771 z5772 z5773 kp578 hge583
                  refine hK.out _ _ hS582 (fun ho169 => ?_)
                  clear hK K
                  try simp only [Act.put, List.setIfInBounds_toArray, List.set_cons_zero, List.set_cons_succ]
                  refine wpAnyH_take (i := 12) (oi := ?oio17012) (v := ?vo17012) ?hio17012 (by kernel_rfl) (by kernel_rfl) (by kernel_rfl) ?hQo17012 (Or.inl ⟨?hwo17012, ?hyo17012⟩) (by assumption) ?resto17012
                  case hio17012 => (first | (simp only [List.getElem?_toArray, List.getElem?_cons_zero, List.getElem?_cons_succ]; rfl) | rfl)
                  case hQo17012 => exact fun _ _ _ h => h
                  case hwo17012 => rfl
                  case hyo17012 => ((intro w hSw; go_simp); first | done | with_reducible rfl)
                  try simp only [Act.put, List.setIfInBounds_toArray, List.set_cons_zero, List.set_cons_succ]
                  refine wpAnyH_done (by kernel_rfl) ?_ _
                  go_wp2_with fail
                  go_meet
                  case rel => exact ⟨_, A569, B567, c570, c568, rfl, rfl, HB579.out, by have h := G8580.out; simpa [Blk] using h, VS581.out⟩
          case so149 =>
            intro K hK
            go_simp
            obtain ⟨u584, hu585⟩ : ∃ z, z = u506.alloc (.cells #[.slice none 0 0, .slice none 0 0] 33) := ⟨_, rfl⟩
            rw [← hu585]
            have hb586 : Below u506.heap.size u506 u584 := by rw [hu585]; exact (Below.refl _ u506).alloc (Nat.le_refl _) _
            have HB587 := Lib.hid ((HB513.out).trans ((hb586).mono (HB513.out).size))
            have HL588 := Lib.hid ((HL514.out).below hb586)
            have K27589 := Lib.hid ((K27515.out).below hb586 (K27515.out).lt)
            have O25590 := Lib.hid (ownsRow_block (O25516.out) (fun g hg => (hb586).block g ((O25516.out).lt g hg).2))
            have G8591 := Lib.hid ((by rw [hu585]; exact Blk.new u506 _ _ : Blk u584 u506.heap.size 33 #[.slice none 0 0, .slice none 0 0]))
            have hS592 : (fun w' => w'.cell? ⟨w.heap.size, 0, none⟩ = some (.int .i64 x) ∧ w'.cell? ⟨w.heap.size, 1, none⟩ = some (.int .i64 y)) u584 := ⟨below_cells hb586 hS517.1, below_cells hb586 hS517.2⟩
            clear hu585 hb586
            have GE593 := Lib.hid ((HB513.out).size)
            refine hK.out _ _ hS592 (fun ho171 => ?_)
            clear hK K
            try simp only [Act.put, List.setIfInBounds_toArray, List.set_cons_zero, List.set_cons_succ]
            refine wpAnyH_ready (rs := [5]) (by kernel_rfl) (by simp) ?_
            refine AllReadyH.cons (o := ?oo172) ?ho172 ?so172 AllReadyH.nil
            case ho172 => (simp only [List.getElem?_toArray, List.getElem?_cons_zero, List.getElem?_cons_succ]; rfl)
            case so172 =>
              intro K hK
              refine step_append_srcN _ rfl (.tmp 25) (.tmp 27) 22 rfl W.heap.size 45 i0 (.agg #[.int .i64 0, .int .i64 0]) 2 16 Try.underlying22 hi hz0 hz1 hz2 rfl (by omega) _ n (l.flatMap prCells) rfl O25590.out (some ⟨u0.heap.size, 0, none⟩) 1 1 (prCells (x, y)) rfl (⟨rfl, fun ad e j u hu => by cases e; rw [addr_add, K27589.out.cell]; simpa [prCells] using hu, fun e => by cases e⟩ : SrcN _ (some ⟨u0.heap.size, 0, none⟩) 1 2 (prCells (x, y))) (by simp [prCells, Value.oneCell']) (by unfold maxLen; omega) (by omega) ((HB587.out).size) ?_
              intro v600 u594 hw596 hg595 hl599
              obtain ⟨A597, c598, rfl⟩ := own_slice hw596
              have HB601 := Lib.hid ((HB587.out).grown hg595 ((HB587.out).size) (fun k e => (O25590.out.lt k e).1))
              have HL602 := Lib.hid (HLW.out.below HB601.out)
              have G8604 := Lib.hid ((G8591.out).grown hg595 (fun e => own_blk_ne O25590.out G8591.out (by decide) e.symm))
              have O28605 := Lib.hid hw596
              have hS606 : (fun w' => w'.cell? ⟨w.heap.size, 0, none⟩ = some (.int .i64 x) ∧ w'.cell? ⟨w.heap.size, 1, none⟩ = some (.int .i64 y)) u594 := ⟨below_cells HB601.out hS.1, below_cells HB601.out hS.2⟩
              clear hg595 hw596 hl599
              refine hK.out _ _ hS606 (fun ho173 => ?_)
              clear hK K
              try simp only [Act.put, List.setIfInBounds_toArray, List.set_cons_zero, List.set_cons_succ]
              refine wpAnyH_ready (rs := [6]) (by kernel_rfl) (by simp) ?_
              refine AllReadyH.cons (o := ?oo174) ?ho174 ?so174 AllReadyH.nil
              case ho174 => (simp only [List.getElem?_toArray, List.getElem?_cons_zero, List.getElem?_cons_succ]; rfl)
              case so174 =>
                intro K hK
                have P614 := Lib.hid (PairsIn.own (l := l ++ [(x, y)]) (n := n + 1) (c := c598) (by have h := O28605.out; rw [List.flatMap_append, List.flatMap_singleton]; exact h) (by rw [List.length_append, HLN.out]; rfl) (by unfold maxLen; omega) (fun p hp => by
                  rcases List.mem_append.1 hp with h | h
                  · exact HLW.out.vals p h
                  · rw [List.mem_singleton.1 h]; exact HXY.out))
                go_simp
                refine (vBuild_is u594 A597 (n + 1) c598 (l ++ [(x, y)]) P614.out HBA2.out HK2.out HM2.out).mono ?_
                rintro e u607 ⟨A611, B609, c612, c610, rfl, hs613, hb608⟩
                have HS615 := Lib.hid hs613
                have G8616 := Lib.hid ((G8604.out).below hb608 (G8604.out).lt)
                have HB617 := Lib.hid (below_then HB601.out hb608 (HB601.out).size)
                have hS618 : (fun w' => w'.cell? ⟨w.heap.size, 0, none⟩ = some (.int .i64 x) ∧ w'.cell? ⟨w.heap.size, 1, none⟩ = some (.int .i64 y)) u607 := ⟨below_cells HB617.out hS.1, below_cells HB617.out hS.2⟩
                clear hs613 hb608
                go_wp2_with fail
                refine hK.out _ _ hS618 (fun ho175 => ?_)
                clear hK K
                try simp only [Act.put, List.setIfInBounds_toArray, List.set_cons_zero, List.set_cons_succ]
                refine wpAnyH_take (i := 7) (oi := ?oio1767) (v := ?vo1767) ?hio1767 (by kernel_rfl) (by kernel_rfl) (by kernel_rfl) ?hQo1767 (Or.inl ⟨?hwo1767, ?hyo1767⟩) (by assumption) ?resto1767
                case hio1767 => (first | (simp only [List.getElem?_toArray, List.getElem?_cons_zero, List.getElem?_cons_succ]; rfl) | rfl)
                case hQo1767 => exact fun _ _ _ h => h
                case hwo1767 => rfl
                case hyo1767 => ((intro w hSw; go_simp); first | done | with_reducible rfl)
                try simp only [Act.put, List.setIfInBounds_toArray, List.set_cons_zero, List.set_cons_succ]
                refine wpAnyH_take (i := 8) (oi := ?oio1778) (v := ?vo1778) ?hio1778 (by kernel_rfl) (by kernel_rfl) (by kernel_rfl) ?hQo1778 (Or.inl ⟨?hwo1778, ?hyo1778⟩) (by assumption) ?resto1778
                case hio1778 => (first | (simp only [List.getElem?_toArray, List.getElem?_cons_zero, List.getElem?_cons_succ]; rfl) | rfl)
                case hQo1778 => exact fun _ _ _ h => h
                case hwo1778 => rfl
                case hyo1778 => ((intro w hSw; go_simp); first | done | with_reducible rfl)
                try simp only [Act.put, List.setIfInBounds_toArray, List.set_cons_zero, List.set_cons_succ]
                refine wpAnyH_take (i := 9) (oi := ?oio1789) (v := ?vo1789) ?hio1789 (by kernel_rfl) (by kernel_rfl) (by kernel_rfl) ?hQo1789 (Or.inl ⟨?hwo1789, ?hyo1789⟩) (by assumption) ?resto1789
                case hio1789 => (first | (simp only [List.getElem?_toArray, List.getElem?_cons_zero, List.getElem?_cons_succ]; rfl) | rfl)
                case hQo1789 => exact fun _ _ _ h => h
                case hwo1789 => rfl
                case hyo1789 => ((intro w hSw; go_simp); first | done | with_reducible rfl)
                try simp only [Act.put, List.setIfInBounds_toArray, List.set_cons_zero, List.set_cons_succ]
                refine wpAnyH_ready (rs := [11]) (by kernel_rfl) (by simp) ?_
                refine AllReadyH.cons (o := ?oo179) ?ho179 ?so179 AllReadyH.nil
                case ho179 => (simp only [List.getElem?_toArray, List.getElem?_cons_zero, List.getElem?_cons_succ]; rfl)
                case so179 =>
                  intro K hK
                  have z6190 := G8616.out.cell 0
                  have z6191 := G8616.out.cell 1
                  have z6192 := G8616.out.frozen 0
                  have z6193 := G8616.out.frozen 1
                  simp only [List.getElem?_toArray, List.getElem?_cons_zero, List.getElem?_cons_succ] at z6190 z6191
                  go_simp
                  have hge625 : W.heap.size ≤ u506.heap.size := GE593.out
                  have kp620 : Kept (fun i => i = u506.heap.size) u607 ((u607.setCell ⟨u506.heap.size, 0, none⟩ (.slice A611 k2 c612)).setCell ⟨u506.heap.size, 1, none⟩ (.slice B609 m2 c610)) := ((Kept.refl (fun i => i = u506.heap.size) u607).setCell (p := ⟨u506.heap.size, 0, none⟩) (.inl rfl) _).setCell (p := ⟨u506.heap.size, 1, none⟩) (.inl rfl) _
                  have HB621 := Lib.hid (((HB617.out).setCell (p := ⟨u506.heap.size, 0, none⟩) hge625 (.slice A611 k2 c612)).setCell (p := ⟨u506.heap.size, 1, none⟩) hge625 (.slice B609 m2 c610))
                  have G8622 := Lib.hid ((G8616.out.set_ 0 (.slice A611 k2 c612)).set_ 1 (.slice B609 m2 c610))
                  have VS623 := Lib.hid (HS615.out.far HSH2.out G8616.out kp620)
                  have hS624 : (fun w' => w'.cell? ⟨w.heap.size, 0, none⟩ = some (.int .i64 x) ∧ w'.cell? ⟨w.heap.size, 1, none⟩ = some (.int .i64 y)) ((u607.setCell ⟨u506.heap.size, 0, none⟩ (.slice A611 k2 c612)).setCell ⟨u506.heap.size, 1, none⟩ (.slice B609 m2 c610)) := ⟨below_cells HB621.out hS.1, below_cells HB621.out hS.2⟩
                  clear z6190 z6191 z6192 z6193 kp620 hge625
                  refine hK.out _ _ hS624 (fun ho180 => ?_)
                  clear hK K
                  try simp only [Act.put, List.setIfInBounds_toArray, List.set_cons_zero, List.set_cons_succ]
                  refine wpAnyH_take (i := 12) (oi := ?oio18112) (v := ?vo18112) ?hio18112 (by kernel_rfl) (by kernel_rfl) (by kernel_rfl) ?hQo18112 (Or.inl ⟨?hwo18112, ?hyo18112⟩) (by assumption) ?resto18112
                  case hio18112 => (first | (simp only [List.getElem?_toArray, List.getElem?_cons_zero, List.getElem?_cons_succ]; rfl) | rfl)
                  case hQo18112 => exact fun _ _ _ h => h
                  case hwo18112 => rfl
                  case hyo18112 => ((intro w hSw; go_simp); first | done | with_reducible rfl)
                  try simp only [Act.put, List.setIfInBounds_toArray, List.set_cons_zero, List.set_cons_succ]
                  refine wpAnyH_done (by kernel_rfl) ?_ _
                  go_wp2_with fail
                  go_meet
                  case rel => exact ⟨_, A611, B609, c612, c610, rfl, rfl, HB621.out, by have h := G8622.out; simpa [Blk] using h, VS623.out⟩
        case so146 =>
          intro K hK
          go_simp
          obtain ⟨u626, hu627⟩ : ∃ z, z = u496.alloc (.cells #[.slice none 0 0, .slice none 0 0] 33) := ⟨_, rfl⟩
          rw [← hu627]
          have hb628 : Below u496.heap.size u496 u626 := by rw [hu627]; exact (Below.refl _ u496).alloc (Nat.le_refl _) _
          have HB629 := Lib.hid ((HB499.out).trans ((hb628).mono (HB499.out).size))
          have HL630 := Lib.hid ((HL500.out).below hb628)
          have K27631 := Lib.hid ((K27501.out).below hb628 (K27501.out).lt)
          have O23632 := Lib.hid (ownsRow_block (O23502.out) (fun g hg => (hb628).block g ((O23502.out).lt g hg).2))
          have G8633 := Lib.hid ((by rw [hu627]; exact Blk.new u496 _ _ : Blk u626 u496.heap.size 33 #[.slice none 0 0, .slice none 0 0]))
          have hS634 : (fun w' => w'.cell? ⟨w.heap.size, 0, none⟩ = some (.int .i64 x) ∧ w'.cell? ⟨w.heap.size, 1, none⟩ = some (.int .i64 y)) u626 := ⟨below_cells hb628 hS503.1, below_cells hb628 hS503.2⟩
          clear hu627 hb628
          have GE635 := Lib.hid ((HB499.out).size)
          refine hK.out _ _ hS634 (fun ho182 => ?_)
          clear hK K
          try simp only [Act.put, List.setIfInBounds_toArray, List.set_cons_zero, List.set_cons_succ]
          refine wpAnyH_ready (rs := [2]) (by kernel_rfl) (by simp) ?_
          refine AllReadyH.cons (o := ?oo183) ?ho183 ?so183 AllReadyH.nil
          case ho183 => (simp only [List.getElem?_toArray, List.getElem?_cons_zero, List.getElem?_cons_succ]; rfl)
          case so183 =>
            intro K hK
            have NE27636 := Lib.hid (show Value.ownBlock (.slice (some ⟨u489.heap.size, 0, none⟩) 0 0) ≠ some u0.heap.size from fun e => by have h1 : u489.heap.size = u0.heap.size := Option.some.inj e; have := OR504.out; omega)
            refine step_append_srcN _ rfl (.tmp 23) (.tmp 24) 22 rfl W.heap.size 45 i0 (.agg #[.int .i64 0, .int .i64 0]) 2 16 Try.underlying22 hi hz0 hz1 hz2 rfl (by omega) _ 0 [] rfl O23632.out A n c (l.flatMap prCells) rfl (HL630.out.src) (prCells_one l) (by unfold maxLen; omega) (by omega) ((HB629.out).size) ?_
            intro v643 u637 hw639 hg638 hl642
            obtain ⟨A640, c641, rfl⟩ := own_slice hw639
            rw [Nat.zero_add, List.nil_append] at hw639
            rw [Nat.zero_add]
            have HB644 := Lib.hid ((HB629.out).grown hg638 ((HB629.out).size) (fun k e => (O23632.out.lt k e).1))
            have HL645 := Lib.hid (HLW.out.below HB644.out)
            have K27646 := Lib.hid ((K27631.out).grown hg638 (fun e => NE27636.out e.symm))
            have G8647 := Lib.hid ((G8633.out).grown hg638 (fun e => own_blk_ne O23632.out G8633.out (by decide) e.symm))
            have O25648 := Lib.hid hw639
            have hS649 : (fun w' => w'.cell? ⟨w.heap.size, 0, none⟩ = some (.int .i64 x) ∧ w'.cell? ⟨w.heap.size, 1, none⟩ = some (.int .i64 y)) u637 := ⟨below_cells HB644.out hS.1, below_cells HB644.out hS.2⟩
            clear hg638 hw639 hl642
            refine hK.out _ _ hS649 (fun ho184 => ?_)
            clear hK K
            try simp only [Act.put, List.setIfInBounds_toArray, List.set_cons_zero, List.set_cons_succ]
            refine wpAnyH_ready (rs := [5]) (by kernel_rfl) (by simp) ?_
            refine AllReadyH.cons (o := ?oo185) ?ho185 ?so185 AllReadyH.nil
            case ho185 => (simp only [List.getElem?_toArray, List.getElem?_cons_zero, List.getElem?_cons_succ]; rfl)
            case so185 =>
              intro K hK
              refine step_append_srcN _ rfl (.tmp 25) (.tmp 27) 22 rfl W.heap.size 45 i0 (.agg #[.int .i64 0, .int .i64 0]) 2 16 Try.underlying22 hi hz0 hz1 hz2 rfl (by omega) _ n (l.flatMap prCells) rfl O25648.out (some ⟨u0.heap.size, 0, none⟩) 1 1 (prCells (x, y)) rfl (⟨rfl, fun ad e j u hu => by cases e; rw [addr_add, K27646.out.cell]; simpa [prCells] using hu, fun e => by cases e⟩ : SrcN _ (some ⟨u0.heap.size, 0, none⟩) 1 2 (prCells (x, y))) (by simp [prCells, Value.oneCell']) (by unfold maxLen; omega) (by omega) ((HB644.out).size) ?_
              intro v656 u650 hw652 hg651 hl655
              obtain ⟨A653, c654, rfl⟩ := own_slice hw652
              have HB657 := Lib.hid ((HB644.out).grown hg651 ((HB644.out).size) (fun k e => (O25648.out.lt k e).1))
              have HL658 := Lib.hid (HLW.out.below HB657.out)
              have G8660 := Lib.hid ((G8647.out).grown hg651 (fun e => own_blk_ne O25648.out G8647.out (by decide) e.symm))
              have O28661 := Lib.hid hw652
              have hS662 : (fun w' => w'.cell? ⟨w.heap.size, 0, none⟩ = some (.int .i64 x) ∧ w'.cell? ⟨w.heap.size, 1, none⟩ = some (.int .i64 y)) u650 := ⟨below_cells HB657.out hS.1, below_cells HB657.out hS.2⟩
              clear hg651 hw652 hl655
              refine hK.out _ _ hS662 (fun ho186 => ?_)
              clear hK K
              try simp only [Act.put, List.setIfInBounds_toArray, List.set_cons_zero, List.set_cons_succ]
              refine wpAnyH_ready (rs := [6]) (by kernel_rfl) (by simp) ?_
              refine AllReadyH.cons (o := ?oo187) ?ho187 ?so187 AllReadyH.nil
              case ho187 => (simp only [List.getElem?_toArray, List.getElem?_cons_zero, List.getElem?_cons_succ]; rfl)
              case so187 =>
                intro K hK
                have P670 := Lib.hid (PairsIn.own (l := l ++ [(x, y)]) (n := n + 1) (c := c654) (by have h := O28661.out; rw [List.flatMap_append, List.flatMap_singleton]; exact h) (by rw [List.length_append, HLN.out]; rfl) (by unfold maxLen; omega) (fun p hp => by
                  rcases List.mem_append.1 hp with h | h
                  · exact HLW.out.vals p h
                  · rw [List.mem_singleton.1 h]; exact HXY.out))
                go_simp
                refine (vBuild_is u650 A653 (n + 1) c654 (l ++ [(x, y)]) P670.out HBA2.out HK2.out HM2.out).mono ?_
                rintro e u663 ⟨A667, B665, c668, c666, rfl, hs669, hb664⟩
                have HS671 := Lib.hid hs669
                have G8672 := Lib.hid ((G8660.out).below hb664 (G8660.out).lt)
                have HB673 := Lib.hid (below_then HB657.out hb664 (HB657.out).size)
                have hS674 : (fun w' => w'.cell? ⟨w.heap.size, 0, none⟩ = some (.int .i64 x) ∧ w'.cell? ⟨w.heap.size, 1, none⟩ = some (.int .i64 y)) u663 := ⟨below_cells HB673.out hS.1, below_cells HB673.out hS.2⟩
                clear hs669 hb664
                go_wp2_with fail
                refine hK.out _ _ hS674 (fun ho188 => ?_)
                clear hK K
                try simp only [Act.put, List.setIfInBounds_toArray, List.set_cons_zero, List.set_cons_succ]
                refine wpAnyH_take (i := 7) (oi := ?oio1897) (v := ?vo1897) ?hio1897 (by kernel_rfl) (by kernel_rfl) (by kernel_rfl) ?hQo1897 (Or.inl ⟨?hwo1897, ?hyo1897⟩) (by assumption) ?resto1897
                case hio1897 => (first | (simp only [List.getElem?_toArray, List.getElem?_cons_zero, List.getElem?_cons_succ]; rfl) | rfl)
                case hQo1897 => exact fun _ _ _ h => h
                case hwo1897 => rfl
                case hyo1897 => ((intro w hSw; go_simp); first | done | with_reducible rfl)
                try simp only [Act.put, List.setIfInBounds_toArray, List.set_cons_zero, List.set_cons_succ]
                refine wpAnyH_take (i := 8) (oi := ?oio1908) (v := ?vo1908) ?hio1908 (by kernel_rfl) (by kernel_rfl) (by kernel_rfl) ?hQo1908 (Or.inl ⟨?hwo1908, ?hyo1908⟩) (by assumption) ?resto1908
                case hio1908 => (first | (simp only [List.getElem?_toArray, List.getElem?_cons_zero, List.getElem?_cons_succ]; rfl) | rfl)
                case hQo1908 => exact fun _ _ _ h => h
                case hwo1908 => rfl
                case hyo1908 => ((intro w hSw; go_simp); first | done | with_reducible rfl)
                try simp only [Act.put, List.setIfInBounds_toArray, List.set_cons_zero, List.set_cons_succ]
                refine wpAnyH_take (i := 9) (oi := ?oio1919) (v := ?vo1919) ?hio1919 (by kernel_rfl) (by kernel_rfl) (by kernel_rfl) ?hQo1919 (Or.inl ⟨?hwo1919, ?hyo1919⟩) (by assumption) ?resto1919
                case hio1919 => (first | (simp only [List.getElem?_toArray, List.getElem?_cons_zero, List.getElem?_cons_succ]; rfl) | rfl)
                case hQo1919 => exact fun _ _ _ h => h
                case hwo1919 => rfl
                case hyo1919 => ((intro w hSw; go_simp); first | done | with_reducible rfl)
                try simp only [Act.put, List.setIfInBounds_toArray, List.set_cons_zero, List.set_cons_succ]
                refine wpAnyH_ready (rs := [11]) (by kernel_rfl) (by simp) ?_
                refine AllReadyH.cons (o := ?oo192) ?ho192 ?so192 AllReadyH.nil
                case ho192 => (simp only [List.getElem?_toArray, List.getElem?_cons_zero, List.getElem?_cons_succ]; rfl)
                case so192 =>
                  intro K hK
                  have z6750 := G8672.out.cell 0
                  have z6751 := G8672.out.cell 1
                  have z6752 := G8672.out.frozen 0
                  have z6753 := G8672.out.frozen 1
                  simp only [List.getElem?_toArray, List.getElem?_cons_zero, List.getElem?_cons_succ] at z6750 z6751
                  go_simp
                  have hge681 : W.heap.size ≤ u496.heap.size := GE635.out
                  have kp676 : Kept (fun i => i = u496.heap.size) u663 ((u663.setCell ⟨u496.heap.size, 0, none⟩ (.slice A667 k2 c668)).setCell ⟨u496.heap.size, 1, none⟩ (.slice B665 m2 c666)) := ((Kept.refl (fun i => i = u496.heap.size) u663).setCell (p := ⟨u496.heap.size, 0, none⟩) (.inl rfl) _).setCell (p := ⟨u496.heap.size, 1, none⟩) (.inl rfl) _
                  have HB677 := Lib.hid (((HB673.out).setCell (p := ⟨u496.heap.size, 0, none⟩) hge681 (.slice A667 k2 c668)).setCell (p := ⟨u496.heap.size, 1, none⟩) hge681 (.slice B665 m2 c666))
                  have G8678 := Lib.hid ((G8672.out.set_ 0 (.slice A667 k2 c668)).set_ 1 (.slice B665 m2 c666))
                  have VS679 := Lib.hid (HS671.out.far HSH2.out G8672.out kp676)
                  have hS680 : (fun w' => w'.cell? ⟨w.heap.size, 0, none⟩ = some (.int .i64 x) ∧ w'.cell? ⟨w.heap.size, 1, none⟩ = some (.int .i64 y)) ((u663.setCell ⟨u496.heap.size, 0, none⟩ (.slice A667 k2 c668)).setCell ⟨u496.heap.size, 1, none⟩ (.slice B665 m2 c666)) := ⟨below_cells HB677.out hS.1, below_cells HB677.out hS.2⟩
                  clear z6750 z6751 z6752 z6753 kp676 hge681
                  refine hK.out _ _ hS680 (fun ho193 => ?_)
                  clear hK K
                  try simp only [Act.put, List.setIfInBounds_toArray, List.set_cons_zero, List.set_cons_succ]
                  refine wpAnyH_take (i := 12) (oi := ?oio19412) (v := ?vo19412) ?hio19412 (by kernel_rfl) (by kernel_rfl) (by kernel_rfl) ?hQo19412 (Or.inl ⟨?hwo19412, ?hyo19412⟩) (by assumption) ?resto19412
                  case hio19412 => (first | (simp only [List.getElem?_toArray, List.getElem?_cons_zero, List.getElem?_cons_succ]; rfl) | rfl)
                  case hQo19412 => exact fun _ _ _ h => h
                  case hwo19412 => rfl
                  case hyo19412 => ((intro w hSw; go_simp); first | done | with_reducible rfl)
                  try simp only [Act.put, List.setIfInBounds_toArray, List.set_cons_zero, List.set_cons_succ]
                  refine wpAnyH_done (by kernel_rfl) ?_ _
                  go_wp2_with fail
                  go_meet
                  case rel => exact ⟨_, A667, B665, c668, c666, rfl, rfl, HB677.out, by have h := G8678.out; simpa [Blk] using h, VS679.out⟩
      case so143 =>
        intro K hK
        go_simp
        obtain ⟨u682, hu683⟩ : ∃ z, z = u489.alloc (.cells #[.slice none 0 0, .slice none 0 0] 33) := ⟨_, rfl⟩
        rw [← hu683]
        have hb684 : Below u489.heap.size u489 u682 := by rw [hu683]; exact (Below.refl _ u489).alloc (Nat.le_refl _) _
        have HB685 := Lib.hid ((HB492.out).trans ((hb684).mono (HB492.out).size))
        have HL686 := Lib.hid ((HL493.out).below hb684)
        have K27687 := Lib.hid ((K27494.out).below hb684 (K27494.out).lt)
        have G8688 := Lib.hid ((by rw [hu683]; exact Blk.new u489 _ _ : Blk u682 u489.heap.size 33 #[.slice none 0 0, .slice none 0 0]))
        have hS689 : (fun w' => w'.cell? ⟨w.heap.size, 0, none⟩ = some (.int .i64 x) ∧ w'.cell? ⟨w.heap.size, 1, none⟩ = some (.int .i64 y)) u682 := ⟨below_cells hb684 hS495.1, below_cells hb684 hS495.2⟩
        clear hu683 hb684
        have GE690 := Lib.hid ((HB492.out).size)
        refine hK.out _ _ hS689 (fun ho195 => ?_)
        clear hK K
        try simp only [Act.put, List.setIfInBounds_toArray, List.set_cons_zero, List.set_cons_succ]
        refine wpAnyH_ready (rs := [0]) (by kernel_rfl) (by simp) ?_
        refine AllReadyH.cons (o := ?oo196) ?ho196 ?so196 AllReadyH.nil
        case ho196 => (simp only [List.getElem?_toArray, List.getElem?_cons_zero, List.getElem?_cons_succ]; rfl)
        case so196 =>
          intro K hK
          go_simp
          obtain ⟨u691, hu692⟩ : ∃ z, z = u682.alloc (.cells #[] 45) := ⟨_, rfl⟩
          rw [← hu692]
          have hb693 : Below u682.heap.size u682 u691 := by rw [hu692]; exact (Below.refl _ u682).alloc (Nat.le_refl _) _
          have HB694 := Lib.hid ((HB685.out).trans ((hb693).mono (HB685.out).size))
          have HL695 := Lib.hid ((HL686.out).below hb693)
          have K27696 := Lib.hid ((K27687.out).below hb693 (K27687.out).lt)
          have G8697 := Lib.hid ((G8688.out).below hb693 (G8688.out).lt)
          have O23698 := Lib.hid ((by rw [hu692]; exact World.ownsRow_made u682 #[] 0 (HB685.out).size (Nat.zero_le _) rfl : World.ownsRow u691 W.heap.size 45 2 (.slice (some ⟨u682.heap.size, 0, none⟩) 0 0) 0 []))
          have hS699 : (fun w' => w'.cell? ⟨w.heap.size, 0, none⟩ = some (.int .i64 x) ∧ w'.cell? ⟨w.heap.size, 1, none⟩ = some (.int .i64 y)) u691 := ⟨below_cells hb693 hS689.1, below_cells hb693 hS689.2⟩
          clear hu692 hb693
          have OR700 : Hid (u0.heap.size < u682.heap.size) := Lib.hid (K27687.out.lt)
          refine hK.out _ _ hS699 (fun ho197 => ?_)
          clear hK K
          try simp only [Act.put, List.setIfInBounds_toArray, List.set_cons_zero, List.set_cons_succ]
          refine wpAnyH_ready (rs := [2]) (by kernel_rfl) (by simp) ?_
          refine AllReadyH.cons (o := ?oo198) ?ho198 ?so198 AllReadyH.nil
          case ho198 => (simp only [List.getElem?_toArray, List.getElem?_cons_zero, List.getElem?_cons_succ]; rfl)
          case so198 =>
            intro K hK
            have NE27701 := Lib.hid (show Value.ownBlock (.slice (some ⟨u682.heap.size, 0, none⟩) 0 0) ≠ some u0.heap.size from fun e => by have h1 : u682.heap.size = u0.heap.size := Option.some.inj e; have := OR700.out; omega)
            refine step_append_srcN _ rfl (.tmp 23) (.tmp 24) 22 rfl W.heap.size 45 i0 (.agg #[.int .i64 0, .int .i64 0]) 2 16 Try.underlying22 hi hz0 hz1 hz2 rfl (by omega) _ 0 [] rfl O23698.out A n c (l.flatMap prCells) rfl (HL695.out.src) (prCells_one l) (by unfold maxLen; omega) (by omega) ((HB694.out).size) ?_
            intro v708 u702 hw704 hg703 hl707
            obtain ⟨A705, c706, rfl⟩ := own_slice hw704
            rw [Nat.zero_add, List.nil_append] at hw704
            rw [Nat.zero_add]
            have HB709 := Lib.hid ((HB694.out).grown hg703 ((HB694.out).size) (fun k e => (O23698.out.lt k e).1))
            have HL710 := Lib.hid (HLW.out.below HB709.out)
            have K27711 := Lib.hid ((K27696.out).grown hg703 (fun e => NE27701.out e.symm))
            have G8712 := Lib.hid ((G8697.out).grown hg703 (fun e => own_blk_ne O23698.out G8697.out (by decide) e.symm))
            have O25713 := Lib.hid hw704
            have hS714 : (fun w' => w'.cell? ⟨w.heap.size, 0, none⟩ = some (.int .i64 x) ∧ w'.cell? ⟨w.heap.size, 1, none⟩ = some (.int .i64 y)) u702 := ⟨below_cells HB709.out hS.1, below_cells HB709.out hS.2⟩
            clear hg703 hw704 hl707
            refine hK.out _ _ hS714 (fun ho199 => ?_)
            clear hK K
            try simp only [Act.put, List.setIfInBounds_toArray, List.set_cons_zero, List.set_cons_succ]
            refine wpAnyH_ready (rs := [5]) (by kernel_rfl) (by simp) ?_
            refine AllReadyH.cons (o := ?oo200) ?ho200 ?so200 AllReadyH.nil
            case ho200 => (simp only [List.getElem?_toArray, List.getElem?_cons_zero, List.getElem?_cons_succ]; rfl)
            case so200 =>
              intro K hK
              refine step_append_srcN _ rfl (.tmp 25) (.tmp 27) 22 rfl W.heap.size 45 i0 (.agg #[.int .i64 0, .int .i64 0]) 2 16 Try.underlying22 hi hz0 hz1 hz2 rfl (by omega) _ n (l.flatMap prCells) rfl O25713.out (some ⟨u0.heap.size, 0, none⟩) 1 1 (prCells (x, y)) rfl (⟨rfl, fun ad e j u hu => by cases e; rw [addr_add, K27711.out.cell]; simpa [prCells] using hu, fun e => by cases e⟩ : SrcN _ (some ⟨u0.heap.size, 0, none⟩) 1 2 (prCells (x, y))) (by simp [prCells, Value.oneCell']) (by unfold maxLen; omega) (by omega) ((HB709.out).size) ?_
              intro v721 u715 hw717 hg716 hl720
              obtain ⟨A718, c719, rfl⟩ := own_slice hw717
              have HB722 := Lib.hid ((HB709.out).grown hg716 ((HB709.out).size) (fun k e => (O25713.out.lt k e).1))
              have HL723 := Lib.hid (HLW.out.below HB722.out)
              have G8725 := Lib.hid ((G8712.out).grown hg716 (fun e => own_blk_ne O25713.out G8712.out (by decide) e.symm))
              have O28726 := Lib.hid hw717
              have hS727 : (fun w' => w'.cell? ⟨w.heap.size, 0, none⟩ = some (.int .i64 x) ∧ w'.cell? ⟨w.heap.size, 1, none⟩ = some (.int .i64 y)) u715 := ⟨below_cells HB722.out hS.1, below_cells HB722.out hS.2⟩
              clear hg716 hw717 hl720
              refine hK.out _ _ hS727 (fun ho201 => ?_)
              clear hK K
              try simp only [Act.put, List.setIfInBounds_toArray, List.set_cons_zero, List.set_cons_succ]
              refine wpAnyH_ready (rs := [6]) (by kernel_rfl) (by simp) ?_
              refine AllReadyH.cons (o := ?oo202) ?ho202 ?so202 AllReadyH.nil
              case ho202 => (simp only [List.getElem?_toArray, List.getElem?_cons_zero, List.getElem?_cons_succ]; rfl)
              case so202 =>
                intro K hK
                have P735 := Lib.hid (PairsIn.own (l := l ++ [(x, y)]) (n := n + 1) (c := c719) (by have h := O28726.out; rw [List.flatMap_append, List.flatMap_singleton]; exact h) (by rw [List.length_append, HLN.out]; rfl) (by unfold maxLen; omega) (fun p hp => by
                  rcases List.mem_append.1 hp with h | h
                  · exact HLW.out.vals p h
                  · rw [List.mem_singleton.1 h]; exact HXY.out))
                go_simp
                refine (vBuild_is u715 A718 (n + 1) c719 (l ++ [(x, y)]) P735.out HBA2.out HK2.out HM2.out).mono ?_
                rintro e u728 ⟨A732, B730, c733, c731, rfl, hs734, hb729⟩
                have HS736 := Lib.hid hs734
                have G8737 := Lib.hid ((G8725.out).below hb729 (G8725.out).lt)
                have HB738 := Lib.hid (below_then HB722.out hb729 (HB722.out).size)
                have hS739 : (fun w' => w'.cell? ⟨w.heap.size, 0, none⟩ = some (.int .i64 x) ∧ w'.cell? ⟨w.heap.size, 1, none⟩ = some (.int .i64 y)) u728 := ⟨below_cells HB738.out hS.1, below_cells HB738.out hS.2⟩
                clear hs734 hb729
                go_wp2_with fail
                refine hK.out _ _ hS739 (fun ho203 => ?_)
                clear hK K
                try simp only [Act.put, List.setIfInBounds_toArray, List.set_cons_zero, List.set_cons_succ]
                refine wpAnyH_take (i := 7) (oi := ?oio2047) (v := ?vo2047) ?hio2047 (by kernel_rfl) (by kernel_rfl) (by kernel_rfl) ?hQo2047 (Or.inl ⟨?hwo2047, ?hyo2047⟩) (by assumption) ?resto2047
                case hio2047 => (first | (simp only [List.getElem?_toArray, List.getElem?_cons_zero, List.getElem?_cons_succ]; rfl) | rfl)
                case hQo2047 => exact fun _ _ _ h => h
                case hwo2047 => rfl
                case hyo2047 => ((intro w hSw; go_simp); first | done | with_reducible rfl)
                try simp only [Act.put, List.setIfInBounds_toArray, List.set_cons_zero, List.set_cons_succ]
                refine wpAnyH_take (i := 8) (oi := ?oio2058) (v := ?vo2058) ?hio2058 (by kernel_rfl) (by kernel_rfl) (by kernel_rfl) ?hQo2058 (Or.inl ⟨?hwo2058, ?hyo2058⟩) (by assumption) ?resto2058
                case hio2058 => (first | (simp only [List.getElem?_toArray, List.getElem?_cons_zero, List.getElem?_cons_succ]; rfl) | rfl)
                case hQo2058 => exact fun _ _ _ h => h
                case hwo2058 => rfl
                case hyo2058 => ((intro w hSw; go_simp); first | done | with_reducible rfl)
                try simp only [Act.put, List.setIfInBounds_toArray, List.set_cons_zero, List.set_cons_succ]
                refine wpAnyH_take (i := 9) (oi := ?oio2069) (v := ?vo2069) ?hio2069 (by kernel_rfl) (by kernel_rfl) (by kernel_rfl) ?hQo2069 (Or.inl ⟨?hwo2069, ?hyo2069⟩) (by assumption) ?resto2069
                case hio2069 => (first | (simp only [List.getElem?_toArray, List.getElem?_cons_zero, List.getElem?_cons_succ]; rfl) | rfl)
                case hQo2069 => exact fun _ _ _ h => h
                case hwo2069 => rfl
                case hyo2069 => ((intro w hSw; go_simp); first | done | with_reducible rfl)
                try simp only [Act.put, List.setIfInBounds_toArray, List.set_cons_zero, List.set_cons_succ]
                refine wpAnyH_ready (rs := [11]) (by kernel_rfl) (by simp) ?_
                refine AllReadyH.cons (o := ?oo207) ?ho207 ?so207 AllReadyH.nil
                case ho207 => (simp only [List.getElem?_toArray, List.getElem?_cons_zero, List.getElem?_cons_succ]; rfl)
                case so207 =>
                  intro K hK
                  have z7400 := G8737.out.cell 0
                  have z7401 := G8737.out.cell 1
                  have z7402 := G8737.out.frozen 0
                  have z7403 := G8737.out.frozen 1
                  simp only [List.getElem?_toArray, List.getElem?_cons_zero, List.getElem?_cons_succ] at z7400 z7401
                  go_simp
                  have hge746 : W.heap.size ≤ u489.heap.size := GE690.out
                  have kp741 : Kept (fun i => i = u489.heap.size) u728 ((u728.setCell ⟨u489.heap.size, 0, none⟩ (.slice A732 k2 c733)).setCell ⟨u489.heap.size, 1, none⟩ (.slice B730 m2 c731)) := ((Kept.refl (fun i => i = u489.heap.size) u728).setCell (p := ⟨u489.heap.size, 0, none⟩) (.inl rfl) _).setCell (p := ⟨u489.heap.size, 1, none⟩) (.inl rfl) _
                  have HB742 := Lib.hid (((HB738.out).setCell (p := ⟨u489.heap.size, 0, none⟩) hge746 (.slice A732 k2 c733)).setCell (p := ⟨u489.heap.size, 1, none⟩) hge746 (.slice B730 m2 c731))
                  have G8743 := Lib.hid ((G8737.out.set_ 0 (.slice A732 k2 c733)).set_ 1 (.slice B730 m2 c731))
                  have VS744 := Lib.hid (HS736.out.far HSH2.out G8737.out kp741)
                  have hS745 : (fun w' => w'.cell? ⟨w.heap.size, 0, none⟩ = some (.int .i64 x) ∧ w'.cell? ⟨w.heap.size, 1, none⟩ = some (.int .i64 y)) ((u728.setCell ⟨u489.heap.size, 0, none⟩ (.slice A732 k2 c733)).setCell ⟨u489.heap.size, 1, none⟩ (.slice B730 m2 c731)) := ⟨below_cells HB742.out hS.1, below_cells HB742.out hS.2⟩
                  clear z7400 z7401 z7402 z7403 kp741 hge746
                  refine hK.out _ _ hS745 (fun ho208 => ?_)
                  clear hK K
                  try simp only [Act.put, List.setIfInBounds_toArray, List.set_cons_zero, List.set_cons_succ]
                  refine wpAnyH_take (i := 12) (oi := ?oio20912) (v := ?vo20912) ?hio20912 (by kernel_rfl) (by kernel_rfl) (by kernel_rfl) ?hQo20912 (Or.inl ⟨?hwo20912, ?hyo20912⟩) (by assumption) ?resto20912
                  case hio20912 => (first | (simp only [List.getElem?_toArray, List.getElem?_cons_zero, List.getElem?_cons_succ]; rfl) | rfl)
                  case hQo20912 => exact fun _ _ _ h => h
                  case hwo20912 => rfl
                  case hyo20912 => ((intro w hSw; go_simp); first | done | with_reducible rfl)
                  try simp only [Act.put, List.setIfInBounds_toArray, List.set_cons_zero, List.set_cons_succ]
                  refine wpAnyH_done (by kernel_rfl) ?_ _
                  go_wp2_with fail
                  go_meet
                  case rel => exact ⟨_, A732, B730, c733, c731, rfl, rfl, HB742.out, by have h := G8743.out; simpa [Blk] using h, VS744.out⟩
    case so5 =>
      intro K hK
      go_simp
      obtain ⟨u747, hu748⟩ : ∃ z, z = u0.alloc (.cells #[.slice none 0 0, .slice none 0 0] 33) := ⟨_, rfl⟩
      rw [← hu748]
      have hb749 : Below u0.heap.size u0 u747 := by rw [hu748]; exact (Below.refl _ u0).alloc (Nat.le_refl _) _
      have HB750 := Lib.hid ((HBW.out).trans ((hb749).mono (HBW.out).size))
      have HL751 := Lib.hid ((HL0.out).below hb749)
      have G8752 := Lib.hid ((by rw [hu748]; exact Blk.new u0 _ _ : Blk u747 u0.heap.size 33 #[.slice none 0 0, .slice none 0 0]))
      have hS753 : (fun w' => w'.cell? ⟨w.heap.size, 0, none⟩ = some (.int .i64 x) ∧ w'.cell? ⟨w.heap.size, 1, none⟩ = some (.int .i64 y)) u747 := ⟨below_cells hb749 hHeld.1, below_cells hb749 hHeld.2⟩
      clear hu748 hb749
      have GE754 := Lib.hid ((HBW.out).size)
      refine hK.out _ _ hS753 (fun ho210 => ?_)
      clear hK K
      try simp only [Act.put, List.setIfInBounds_toArray, List.set_cons_zero, List.set_cons_succ]
      refine wpAnyH_ready (rs := [0, 4]) (by kernel_rfl) (by simp) ?_
      refine AllReadyH.cons (o := ?oo211) ?ho211 ?so211 (AllReadyH.cons (o := ?oo212) ?ho212 ?so212 AllReadyH.nil)
      case ho211 => (simp only [List.getElem?_toArray, List.getElem?_cons_zero, List.getElem?_cons_succ]; rfl)
      case ho212 => (simp only [List.getElem?_toArray, List.getElem?_cons_zero, List.getElem?_cons_succ]; rfl)
      case so211 =>
        intro K hK
        go_simp
        obtain ⟨u755, hu756⟩ : ∃ z, z = u747.alloc (.cells #[] 45) := ⟨_, rfl⟩
        rw [← hu756]
        have hb757 : Below u747.heap.size u747 u755 := by rw [hu756]; exact (Below.refl _ u747).alloc (Nat.le_refl _) _
        have HB758 := Lib.hid ((HB750.out).trans ((hb757).mono (HB750.out).size))
        have HL759 := Lib.hid ((HL751.out).below hb757)
        have G8760 := Lib.hid ((G8752.out).below hb757 (G8752.out).lt)
        have O23761 := Lib.hid ((by rw [hu756]; exact World.ownsRow_made u747 #[] 0 (HB750.out).size (Nat.zero_le _) rfl : World.ownsRow u755 W.heap.size 45 2 (.slice (some ⟨u747.heap.size, 0, none⟩) 0 0) 0 []))
        have hS762 : (fun w' => w'.cell? ⟨w.heap.size, 0, none⟩ = some (.int .i64 x) ∧ w'.cell? ⟨w.heap.size, 1, none⟩ = some (.int .i64 y)) u755 := ⟨below_cells hb757 hS753.1, below_cells hb757 hS753.2⟩
        clear hu756 hb757
        refine hK.out _ _ hS762 (fun ho213 => ?_)
        clear hK K
        try simp only [Act.put, List.setIfInBounds_toArray, List.set_cons_zero, List.set_cons_succ]
        refine wpAnyH_ready (rs := [2, 4]) (by kernel_rfl) (by simp) ?_
        refine AllReadyH.cons (o := ?oo214) ?ho214 ?so214 (AllReadyH.cons (o := ?oo215) ?ho215 ?so215 AllReadyH.nil)
        case ho214 => (simp only [List.getElem?_toArray, List.getElem?_cons_zero, List.getElem?_cons_succ]; rfl)
        case ho215 => (simp only [List.getElem?_toArray, List.getElem?_cons_zero, List.getElem?_cons_succ]; rfl)
        case so214 =>
          intro K hK
          refine step_append_srcN _ rfl (.tmp 23) (.tmp 24) 22 rfl W.heap.size 45 i0 (.agg #[.int .i64 0, .int .i64 0]) 2 16 Try.underlying22 hi hz0 hz1 hz2 rfl (by omega) _ 0 [] rfl O23761.out A n c (l.flatMap prCells) rfl (HL759.out.src) (prCells_one l) (by unfold maxLen; omega) (by omega) ((HB758.out).size) ?_
          intro v769 u763 hw765 hg764 hl768
          obtain ⟨A766, c767, rfl⟩ := own_slice hw765
          rw [Nat.zero_add, List.nil_append] at hw765
          rw [Nat.zero_add]
          have HB770 := Lib.hid ((HB758.out).grown hg764 ((HB758.out).size) (fun k e => (O23761.out.lt k e).1))
          have HL771 := Lib.hid (HLW.out.below HB770.out)
          have G8772 := Lib.hid ((G8760.out).grown hg764 (fun e => own_blk_ne O23761.out G8760.out (by decide) e.symm))
          have O25773 := Lib.hid hw765
          have hS774 : (fun w' => w'.cell? ⟨w.heap.size, 0, none⟩ = some (.int .i64 x) ∧ w'.cell? ⟨w.heap.size, 1, none⟩ = some (.int .i64 y)) u763 := ⟨below_cells HB770.out hS.1, below_cells HB770.out hS.2⟩
          clear hg764 hw765 hl768
          refine hK.out _ _ hS774 (fun ho216 => ?_)
          clear hK K
          try simp only [Act.put, List.setIfInBounds_toArray, List.set_cons_zero, List.set_cons_succ]
          refine wpAnyH_ready (rs := [4]) (by kernel_rfl) (by simp) ?_
          refine AllReadyH.cons (o := ?oo217) ?ho217 ?so217 AllReadyH.nil
          case ho217 => (simp only [List.getElem?_toArray, List.getElem?_cons_zero, List.getElem?_cons_succ]; rfl)
          case so217 =>
            intro K hK
            go_simp
            obtain ⟨u775, hu776⟩ : ∃ z, z = u763.alloc (.cells #[.int .i64 x, .int .i64 y] 45) := ⟨_, rfl⟩
            rw [← hu776]
            have hb777 : Below u763.heap.size u763 u775 := by rw [hu776]; exact (Below.refl _ u763).alloc (Nat.le_refl _) _
            have HB778 := Lib.hid ((HB770.out).trans ((hb777).mono (HB770.out).size))
            have HL779 := Lib.hid ((HL771.out).below hb777)
            have G8780 := Lib.hid ((G8772.out).below hb777 (G8772.out).lt)
            have O25781 := Lib.hid (ownsRow_block (O25773.out) (fun g hg => (hb777).block g ((O25773.out).lt g hg).2))
            have K27782 := Lib.hid ((by rw [hu776]; exact Blk.new u763 _ _ : Blk u775 u763.heap.size 45 #[.int .i64 x, .int .i64 y]))
            have hS783 : (fun w' => w'.cell? ⟨w.heap.size, 0, none⟩ = some (.int .i64 x) ∧ w'.cell? ⟨w.heap.size, 1, none⟩ = some (.int .i64 y)) u775 := ⟨below_cells hb777 hS774.1, below_cells hb777 hS774.2⟩
            clear hu776 hb777
            refine hK.out _ _ hS783 (fun ho218 => ?_)
            clear hK K
            try simp only [Act.put, List.setIfInBounds_toArray, List.set_cons_zero, List.set_cons_succ]
            refine wpAnyH_ready (rs := [5]) (by kernel_rfl) (by simp) ?_
            refine AllReadyH.cons (o := ?oo219) ?ho219 ?so219 AllReadyH.nil
            case ho219 => (simp only [List.getElem?_toArray, List.getElem?_cons_zero, List.getElem?_cons_succ]; rfl)
            case so219 =>
              intro K hK
              refine step_append_srcN _ rfl (.tmp 25) (.tmp 27) 22 rfl W.heap.size 45 i0 (.agg #[.int .i64 0, .int .i64 0]) 2 16 Try.underlying22 hi hz0 hz1 hz2 rfl (by omega) _ n (l.flatMap prCells) rfl O25781.out (some ⟨u763.heap.size, 0, none⟩) 1 1 (prCells (x, y)) rfl (⟨rfl, fun ad e j u hu => by cases e; rw [addr_add, K27782.out.cell]; simpa [prCells] using hu, fun e => by cases e⟩ : SrcN _ (some ⟨u763.heap.size, 0, none⟩) 1 2 (prCells (x, y))) (by simp [prCells, Value.oneCell']) (by unfold maxLen; omega) (by omega) ((HB778.out).size) ?_
              intro v790 u784 hw786 hg785 hl789
              obtain ⟨A787, c788, rfl⟩ := own_slice hw786
              have HB791 := Lib.hid ((HB778.out).grown hg785 ((HB778.out).size) (fun k e => (O25781.out.lt k e).1))
              have HL792 := Lib.hid (HLW.out.below HB791.out)
              have G8793 := Lib.hid ((G8780.out).grown hg785 (fun e => own_blk_ne O25781.out G8780.out (by decide) e.symm))
              have O28795 := Lib.hid hw786
              have hS796 : (fun w' => w'.cell? ⟨w.heap.size, 0, none⟩ = some (.int .i64 x) ∧ w'.cell? ⟨w.heap.size, 1, none⟩ = some (.int .i64 y)) u784 := ⟨below_cells HB791.out hS.1, below_cells HB791.out hS.2⟩
              clear hg785 hw786 hl789
              refine hK.out _ _ hS796 (fun ho220 => ?_)
              clear hK K
              try simp only [Act.put, List.setIfInBounds_toArray, List.set_cons_zero, List.set_cons_succ]
              refine wpAnyH_ready (rs := [6]) (by kernel_rfl) (by simp) ?_
              refine AllReadyH.cons (o := ?oo221) ?ho221 ?so221 AllReadyH.nil
              case ho221 => (simp only [List.getElem?_toArray, List.getElem?_cons_zero, List.getElem?_cons_succ]; rfl)
              case so221 =>
                intro K hK
                have P804 := Lib.hid (PairsIn.own (l := l ++ [(x, y)]) (n := n + 1) (c := c788) (by have h := O28795.out; rw [List.flatMap_append, List.flatMap_singleton]; exact h) (by rw [List.length_append, HLN.out]; rfl) (by unfold maxLen; omega) (fun p hp => by
                  rcases List.mem_append.1 hp with h | h
                  · exact HLW.out.vals p h
                  · rw [List.mem_singleton.1 h]; exact HXY.out))
                go_simp
                refine (vBuild_is u784 A787 (n + 1) c788 (l ++ [(x, y)]) P804.out HBA2.out HK2.out HM2.out).mono ?_
                rintro e u797 ⟨A801, B799, c802, c800, rfl, hs803, hb798⟩
                have HS805 := Lib.hid hs803
                have G8806 := Lib.hid ((G8793.out).below hb798 (G8793.out).lt)
                have HB807 := Lib.hid (below_then HB791.out hb798 (HB791.out).size)
                have hS808 : (fun w' => w'.cell? ⟨w.heap.size, 0, none⟩ = some (.int .i64 x) ∧ w'.cell? ⟨w.heap.size, 1, none⟩ = some (.int .i64 y)) u797 := ⟨below_cells HB807.out hS.1, below_cells HB807.out hS.2⟩
                clear hs803 hb798
                go_wp2_with fail
                refine hK.out _ _ hS808 (fun ho222 => ?_)
                clear hK K
                try simp only [Act.put, List.setIfInBounds_toArray, List.set_cons_zero, List.set_cons_succ]
                refine wpAnyH_take (i := 7) (oi := ?oio2237) (v := ?vo2237) ?hio2237 (by kernel_rfl) (by kernel_rfl) (by kernel_rfl) ?hQo2237 (Or.inl ⟨?hwo2237, ?hyo2237⟩) (by assumption) ?resto2237
                case hio2237 => (first | (simp only [List.getElem?_toArray, List.getElem?_cons_zero, List.getElem?_cons_succ]; rfl) | rfl)
                case hQo2237 => exact fun _ _ _ h => h
                case hwo2237 => rfl
                case hyo2237 => ((intro w hSw; go_simp); first | done | with_reducible rfl)
                try simp only [Act.put, List.setIfInBounds_toArray, List.set_cons_zero, List.set_cons_succ]
                refine wpAnyH_take (i := 8) (oi := ?oio2248) (v := ?vo2248) ?hio2248 (by kernel_rfl) (by kernel_rfl) (by kernel_rfl) ?hQo2248 (Or.inl ⟨?hwo2248, ?hyo2248⟩) (by assumption) ?resto2248
                case hio2248 => (first | (simp only [List.getElem?_toArray, List.getElem?_cons_zero, List.getElem?_cons_succ]; rfl) | rfl)
                case hQo2248 => exact fun _ _ _ h => h
                case hwo2248 => rfl
                case hyo2248 => ((intro w hSw; go_simp); first | done | with_reducible rfl)
                try simp only [Act.put, List.setIfInBounds_toArray, List.set_cons_zero, List.set_cons_succ]
                refine wpAnyH_take (i := 9) (oi := ?oio2259) (v := ?vo2259) ?hio2259 (by kernel_rfl) (by kernel_rfl) (by kernel_rfl) ?hQo2259 (Or.inl ⟨?hwo2259, ?hyo2259⟩) (by assumption) ?resto2259
                case hio2259 => (first | (simp only [List.getElem?_toArray, List.getElem?_cons_zero, List.getElem?_cons_succ]; rfl) | rfl)
                case hQo2259 => exact fun _ _ _ h => h
                case hwo2259 => rfl
                case hyo2259 => ((intro w hSw; go_simp); first | done | with_reducible rfl)
                try simp only [Act.put, List.setIfInBounds_toArray, List.set_cons_zero, List.set_cons_succ]
                refine wpAnyH_ready (rs := [11]) (by kernel_rfl) (by simp) ?_
                refine AllReadyH.cons (o := ?oo226) ?ho226 ?so226 AllReadyH.nil
                case ho226 => (simp only [List.getElem?_toArray, List.getElem?_cons_zero, List.getElem?_cons_succ]; rfl)
                case so226 =>
                  intro K hK
                  have z8090 := G8806.out.cell 0
                  have z8091 := G8806.out.cell 1
                  have z8092 := G8806.out.frozen 0
                  have z8093 := G8806.out.frozen 1
                  simp only [List.getElem?_toArray, List.getElem?_cons_zero, List.getElem?_cons_succ] at z8090 z8091
                  go_simp
                  have hge815 : W.heap.size ≤ u0.heap.size := GE754.out
                  have kp810 : Kept (fun i => i = u0.heap.size) u797 ((u797.setCell ⟨u0.heap.size, 0, none⟩ (.slice A801 k2 c802)).setCell ⟨u0.heap.size, 1, none⟩ (.slice B799 m2 c800)) := ((Kept.refl (fun i => i = u0.heap.size) u797).setCell (p := ⟨u0.heap.size, 0, none⟩) (.inl rfl) _).setCell (p := ⟨u0.heap.size, 1, none⟩) (.inl rfl) _
                  have HB811 := Lib.hid (((HB807.out).setCell (p := ⟨u0.heap.size, 0, none⟩) hge815 (.slice A801 k2 c802)).setCell (p := ⟨u0.heap.size, 1, none⟩) hge815 (.slice B799 m2 c800))
                  have G8812 := Lib.hid ((G8806.out.set_ 0 (.slice A801 k2 c802)).set_ 1 (.slice B799 m2 c800))
                  have VS813 := Lib.hid (HS805.out.far HSH2.out G8806.out kp810)
                  have hS814 : (fun w' => w'.cell? ⟨w.heap.size, 0, none⟩ = some (.int .i64 x) ∧ w'.cell? ⟨w.heap.size, 1, none⟩ = some (.int .i64 y)) ((u797.setCell ⟨u0.heap.size, 0, none⟩ (.slice A801 k2 c802)).setCell ⟨u0.heap.size, 1, none⟩ (.slice B799 m2 c800)) := ⟨below_cells HB811.out hS.1, below_cells HB811.out hS.2⟩
                  clear z8090 z8091 z8092 z8093 kp810 hge815
                  refine hK.out _ _ hS814 (fun ho227 => ?_)
                  clear hK K
                  try simp only [Act.put, List.setIfInBounds_toArray, List.set_cons_zero, List.set_cons_succ]
                  refine wpAnyH_take (i := 12) (oi := ?oio22812) (v := ?vo22812) ?hio22812 (by kernel_rfl) (by kernel_rfl) (by kernel_rfl) ?hQo22812 (Or.inl ⟨?hwo22812, ?hyo22812⟩) (by assumption) ?resto22812
                  case hio22812 => (first | (simp only [List.getElem?_toArray, List.getElem?_cons_zero, List.getElem?_cons_succ]; rfl) | rfl)
                  case hQo22812 => exact fun _ _ _ h => h
                  case hwo22812 => rfl
                  case hyo22812 => ((intro w hSw; go_simp); first | done | with_reducible rfl)
                  try simp only [Act.put, List.setIfInBounds_toArray, List.set_cons_zero, List.set_cons_succ]
                  refine wpAnyH_done (by kernel_rfl) ?_ _
                  go_wp2_with fail
                  go_meet
                  case rel => exact ⟨_, A801, B799, c802, c800, rfl, rfl, HB811.out, by have h := G8812.out; simpa [Blk] using h, VS813.out⟩
        case so215 =>
          intro K hK
          go_simp
          obtain ⟨u816, hu817⟩ : ∃ z, z = u755.alloc (.cells #[.int .i64 x, .int .i64 y] 45) := ⟨_, rfl⟩
          rw [← hu817]
          have hb818 : Below u755.heap.size u755 u816 := by rw [hu817]; exact (Below.refl _ u755).alloc (Nat.le_refl _) _
          have HB819 := Lib.hid ((HB758.out).trans ((hb818).mono (HB758.out).size))
          have HL820 := Lib.hid ((HL759.out).below hb818)
          have G8821 := Lib.hid ((G8760.out).below hb818 (G8760.out).lt)
          have O23822 := Lib.hid (ownsRow_block (O23761.out) (fun g hg => (hb818).block g ((O23761.out).lt g hg).2))
          have K27823 := Lib.hid ((by rw [hu817]; exact Blk.new u755 _ _ : Blk u816 u755.heap.size 45 #[.int .i64 x, .int .i64 y]))
          have hS824 : (fun w' => w'.cell? ⟨w.heap.size, 0, none⟩ = some (.int .i64 x) ∧ w'.cell? ⟨w.heap.size, 1, none⟩ = some (.int .i64 y)) u816 := ⟨below_cells hb818 hS762.1, below_cells hb818 hS762.2⟩
          clear hu817 hb818
          have OR825 : Hid (u747.heap.size < u755.heap.size) := Lib.hid ((O23761.out.lt _ rfl).2)
          refine hK.out _ _ hS824 (fun ho229 => ?_)
          clear hK K
          try simp only [Act.put, List.setIfInBounds_toArray, List.set_cons_zero, List.set_cons_succ]
          refine wpAnyH_ready (rs := [2]) (by kernel_rfl) (by simp) ?_
          refine AllReadyH.cons (o := ?oo230) ?ho230 ?so230 AllReadyH.nil
          case ho230 => (simp only [List.getElem?_toArray, List.getElem?_cons_zero, List.getElem?_cons_succ]; rfl)
          case so230 =>
            intro K hK
            have NE27826 := Lib.hid (show Value.ownBlock (.slice (some ⟨u747.heap.size, 0, none⟩) 0 0) ≠ some u755.heap.size from fun e => by have h1 : u747.heap.size = u755.heap.size := Option.some.inj e; have := OR825.out; omega)
            refine step_append_srcN _ rfl (.tmp 23) (.tmp 24) 22 rfl W.heap.size 45 i0 (.agg #[.int .i64 0, .int .i64 0]) 2 16 Try.underlying22 hi hz0 hz1 hz2 rfl (by omega) _ 0 [] rfl O23822.out A n c (l.flatMap prCells) rfl (HL820.out.src) (prCells_one l) (by unfold maxLen; omega) (by omega) ((HB819.out).size) ?_
            intro v833 u827 hw829 hg828 hl832
            obtain ⟨A830, c831, rfl⟩ := own_slice hw829
            rw [Nat.zero_add, List.nil_append] at hw829
            rw [Nat.zero_add]
            have HB834 := Lib.hid ((HB819.out).grown hg828 ((HB819.out).size) (fun k e => (O23822.out.lt k e).1))
            have HL835 := Lib.hid (HLW.out.below HB834.out)
            have G8836 := Lib.hid ((G8821.out).grown hg828 (fun e => own_blk_ne O23822.out G8821.out (by decide) e.symm))
            have K27837 := Lib.hid ((K27823.out).grown hg828 (fun e => NE27826.out e.symm))
            have O25838 := Lib.hid hw829
            have hS839 : (fun w' => w'.cell? ⟨w.heap.size, 0, none⟩ = some (.int .i64 x) ∧ w'.cell? ⟨w.heap.size, 1, none⟩ = some (.int .i64 y)) u827 := ⟨below_cells HB834.out hS.1, below_cells HB834.out hS.2⟩
            clear hg828 hw829 hl832
            refine hK.out _ _ hS839 (fun ho231 => ?_)
            clear hK K
            try simp only [Act.put, List.setIfInBounds_toArray, List.set_cons_zero, List.set_cons_succ]
            refine wpAnyH_ready (rs := [5]) (by kernel_rfl) (by simp) ?_
            refine AllReadyH.cons (o := ?oo232) ?ho232 ?so232 AllReadyH.nil
            case ho232 => (simp only [List.getElem?_toArray, List.getElem?_cons_zero, List.getElem?_cons_succ]; rfl)
            case so232 =>
              intro K hK
              refine step_append_srcN _ rfl (.tmp 25) (.tmp 27) 22 rfl W.heap.size 45 i0 (.agg #[.int .i64 0, .int .i64 0]) 2 16 Try.underlying22 hi hz0 hz1 hz2 rfl (by omega) _ n (l.flatMap prCells) rfl O25838.out (some ⟨u755.heap.size, 0, none⟩) 1 1 (prCells (x, y)) rfl (⟨rfl, fun ad e j u hu => by cases e; rw [addr_add, K27837.out.cell]; simpa [prCells] using hu, fun e => by cases e⟩ : SrcN _ (some ⟨u755.heap.size, 0, none⟩) 1 2 (prCells (x, y))) (by simp [prCells, Value.oneCell']) (by unfold maxLen; omega) (by omega) ((HB834.out).size) ?_
              intro v846 u840 hw842 hg841 hl845
              obtain ⟨A843, c844, rfl⟩ := own_slice hw842
              have HB847 := Lib.hid ((HB834.out).grown hg841 ((HB834.out).size) (fun k e => (O25838.out.lt k e).1))
              have HL848 := Lib.hid (HLW.out.below HB847.out)
              have G8849 := Lib.hid ((G8836.out).grown hg841 (fun e => own_blk_ne O25838.out G8836.out (by decide) e.symm))
              have O28851 := Lib.hid hw842
              have hS852 : (fun w' => w'.cell? ⟨w.heap.size, 0, none⟩ = some (.int .i64 x) ∧ w'.cell? ⟨w.heap.size, 1, none⟩ = some (.int .i64 y)) u840 := ⟨below_cells HB847.out hS.1, below_cells HB847.out hS.2⟩
              clear hg841 hw842 hl845
              refine hK.out _ _ hS852 (fun ho233 => ?_)
              clear hK K
              try simp only [Act.put, List.setIfInBounds_toArray, List.set_cons_zero, List.set_cons_succ]
              refine wpAnyH_ready (rs := [6]) (by kernel_rfl) (by simp) ?_
              refine AllReadyH.cons (o := ?oo234) ?ho234 ?so234 AllReadyH.nil
              case ho234 => (simp only [List.getElem?_toArray, List.getElem?_cons_zero, List.getElem?_cons_succ]; rfl)
              case so234 =>
                intro K hK
                have P860 := Lib.hid (PairsIn.own (l := l ++ [(x, y)]) (n := n + 1) (c := c844) (by have h := O28851.out; rw [List.flatMap_append, List.flatMap_singleton]; exact h) (by rw [List.length_append, HLN.out]; rfl) (by unfold maxLen; omega) (fun p hp => by
                  rcases List.mem_append.1 hp with h | h
                  · exact HLW.out.vals p h
                  · rw [List.mem_singleton.1 h]; exact HXY.out))
                go_simp
                refine (vBuild_is u840 A843 (n + 1) c844 (l ++ [(x, y)]) P860.out HBA2.out HK2.out HM2.out).mono ?_
                rintro e u853 ⟨A857, B855, c858, c856, rfl, hs859, hb854⟩
                have HS861 := Lib.hid hs859
                have G8862 := Lib.hid ((G8849.out).below hb854 (G8849.out).lt)
                have HB863 := Lib.hid (below_then HB847.out hb854 (HB847.out).size)
                have hS864 : (fun w' => w'.cell? ⟨w.heap.size, 0, none⟩ = some (.int .i64 x) ∧ w'.cell? ⟨w.heap.size, 1, none⟩ = some (.int .i64 y)) u853 := ⟨below_cells HB863.out hS.1, below_cells HB863.out hS.2⟩
                clear hs859 hb854
                go_wp2_with fail
                refine hK.out _ _ hS864 (fun ho235 => ?_)
                clear hK K
                try simp only [Act.put, List.setIfInBounds_toArray, List.set_cons_zero, List.set_cons_succ]
                refine wpAnyH_take (i := 7) (oi := ?oio2367) (v := ?vo2367) ?hio2367 (by kernel_rfl) (by kernel_rfl) (by kernel_rfl) ?hQo2367 (Or.inl ⟨?hwo2367, ?hyo2367⟩) (by assumption) ?resto2367
                case hio2367 => (first | (simp only [List.getElem?_toArray, List.getElem?_cons_zero, List.getElem?_cons_succ]; rfl) | rfl)
                case hQo2367 => exact fun _ _ _ h => h
                case hwo2367 => rfl
                case hyo2367 => ((intro w hSw; go_simp); first | done | with_reducible rfl)
                try simp only [Act.put, List.setIfInBounds_toArray, List.set_cons_zero, List.set_cons_succ]
                refine wpAnyH_take (i := 8) (oi := ?oio2378) (v := ?vo2378) ?hio2378 (by kernel_rfl) (by kernel_rfl) (by kernel_rfl) ?hQo2378 (Or.inl ⟨?hwo2378, ?hyo2378⟩) (by assumption) ?resto2378
                case hio2378 => (first | (simp only [List.getElem?_toArray, List.getElem?_cons_zero, List.getElem?_cons_succ]; rfl) | rfl)
                case hQo2378 => exact fun _ _ _ h => h
                case hwo2378 => rfl
                case hyo2378 => ((intro w hSw; go_simp); first | done | with_reducible rfl)
                try simp only [Act.put, List.setIfInBounds_toArray, List.set_cons_zero, List.set_cons_succ]
                refine wpAnyH_take (i := 9) (oi := ?oio2389) (v := ?vo2389) ?hio2389 (by kernel_rfl) (by kernel_rfl) (by kernel_rfl) ?hQo2389 (Or.inl ⟨?hwo2389, ?hyo2389⟩) (by assumption) ?resto2389
                case hio2389 => (first | (simp only [List.getElem?_toArray, List.getElem?_cons_zero, List.getElem?_cons_succ]; rfl) | rfl)
                case hQo2389 => exact fun _ _ _ h => h
                case hwo2389 => rfl
                case hyo2389 => ((intro w hSw; go_simp); first | done | with_reducible rfl)
                try simp only [Act.put, List.setIfInBounds_toArray, List.set_cons_zero, List.set_cons_succ]
                refine wpAnyH_ready (rs := [11]) (by kernel_rfl) (by simp) ?_
                refine AllReadyH.cons (o := ?oo239) ?ho239 ?so239 AllReadyH.nil
                case ho239 => (simp only [List.getElem?_toArray, List.getElem?_cons_zero, List.getElem?_cons_succ]; rfl)
                case so239 =>
                  intro K hK
                  have z8650 := G8862.out.cell 0
                  have z8651 := G8862.out.cell 1
                  have z8652 := G8862.out.frozen 0
                  have z8653 := G8862.out.frozen 1
                  simp only [List.getElem?_toArray, List.getElem?_cons_zero, List.getElem?_cons_succ] at z8650 z8651
                  go_simp
                  have hge871 : W.heap.size ≤ u0.heap.size := GE754.out
                  have kp866 : Kept (fun i => i = u0.heap.size) u853 ((u853.setCell ⟨u0.heap.size, 0, none⟩ (.slice A857 k2 c858)).setCell ⟨u0.heap.size, 1, none⟩ (.slice B855 m2 c856)) := ((Kept.refl (fun i => i = u0.heap.size) u853).setCell (p := ⟨u0.heap.size, 0, none⟩) (.inl rfl) _).setCell (p := ⟨u0.heap.size, 1, none⟩) (.inl rfl) _
                  have HB867 := Lib.hid (((HB863.out).setCell (p := ⟨u0.heap.size, 0, none⟩) hge871 (.slice A857 k2 c858)).setCell (p := ⟨u0.heap.size, 1, none⟩) hge871 (.slice B855 m2 c856))
                  have G8868 := Lib.hid ((G8862.out.set_ 0 (.slice A857 k2 c858)).set_ 1 (.slice B855 m2 c856))
                  have VS869 := Lib.hid (HS861.out.far HSH2.out G8862.out kp866)
                  have hS870 : (fun w' => w'.cell? ⟨w.heap.size, 0, none⟩ = some (.int .i64 x) ∧ w'.cell? ⟨w.heap.size, 1, none⟩ = some (.int .i64 y)) ((u853.setCell ⟨u0.heap.size, 0, none⟩ (.slice A857 k2 c858)).setCell ⟨u0.heap.size, 1, none⟩ (.slice B855 m2 c856)) := ⟨below_cells HB867.out hS.1, below_cells HB867.out hS.2⟩
                  clear z8650 z8651 z8652 z8653 kp866 hge871
                  refine hK.out _ _ hS870 (fun ho240 => ?_)
                  clear hK K
                  try simp only [Act.put, List.setIfInBounds_toArray, List.set_cons_zero, List.set_cons_succ]
                  refine wpAnyH_take (i := 12) (oi := ?oio24112) (v := ?vo24112) ?hio24112 (by kernel_rfl) (by kernel_rfl) (by kernel_rfl) ?hQo24112 (Or.inl ⟨?hwo24112, ?hyo24112⟩) (by assumption) ?resto24112
                  case hio24112 => (first | (simp only [List.getElem?_toArray, List.getElem?_cons_zero, List.getElem?_cons_succ]; rfl) | rfl)
                  case hQo24112 => exact fun _ _ _ h => h
                  case hwo24112 => rfl
                  case hyo24112 => ((intro w hSw; go_simp); first | done | with_reducible rfl)
                  try simp only [Act.put, List.setIfInBounds_toArray, List.set_cons_zero, List.set_cons_succ]
                  refine wpAnyH_done (by kernel_rfl) ?_ _
                  go_wp2_with fail
                  go_meet
                  case rel => exact ⟨_, A857, B855, c858, c856, rfl, rfl, HB867.out, by have h := G8868.out; simpa [Blk] using h, VS869.out⟩
      case so212 =>
        intro K hK
        go_simp
        obtain ⟨u872, hu873⟩ : ∃ z, z = u747.alloc (.cells #[.int .i64 x, .int .i64 y] 45) := ⟨_, rfl⟩
        rw [← hu873]
        have hb874 : Below u747.heap.size u747 u872 := by rw [hu873]; exact (Below.refl _ u747).alloc (Nat.le_refl _) _
        have HB875 := Lib.hid ((HB750.out).trans ((hb874).mono (HB750.out).size))
        have HL876 := Lib.hid ((HL751.out).below hb874)
        have G8877 := Lib.hid ((G8752.out).below hb874 (G8752.out).lt)
        have K27878 := Lib.hid ((by rw [hu873]; exact Blk.new u747 _ _ : Blk u872 u747.heap.size 45 #[.int .i64 x, .int .i64 y]))
        have hS879 : (fun w' => w'.cell? ⟨w.heap.size, 0, none⟩ = some (.int .i64 x) ∧ w'.cell? ⟨w.heap.size, 1, none⟩ = some (.int .i64 y)) u872 := ⟨below_cells hb874 hS753.1, below_cells hb874 hS753.2⟩
        clear hu873 hb874
        refine hK.out _ _ hS879 (fun ho242 => ?_)
        clear hK K
        try simp only [Act.put, List.setIfInBounds_toArray, List.set_cons_zero, List.set_cons_succ]
        refine wpAnyH_ready (rs := [0]) (by kernel_rfl) (by simp) ?_
        refine AllReadyH.cons (o := ?oo243) ?ho243 ?so243 AllReadyH.nil
        case ho243 => (simp only [List.getElem?_toArray, List.getElem?_cons_zero, List.getElem?_cons_succ]; rfl)
        case so243 =>
          intro K hK
          go_simp
          obtain ⟨u880, hu881⟩ : ∃ z, z = u872.alloc (.cells #[] 45) := ⟨_, rfl⟩
          rw [← hu881]
          have hb882 : Below u872.heap.size u872 u880 := by rw [hu881]; exact (Below.refl _ u872).alloc (Nat.le_refl _) _
          have HB883 := Lib.hid ((HB875.out).trans ((hb882).mono (HB875.out).size))
          have HL884 := Lib.hid ((HL876.out).below hb882)
          have G8885 := Lib.hid ((G8877.out).below hb882 (G8877.out).lt)
          have K27886 := Lib.hid ((K27878.out).below hb882 (K27878.out).lt)
          have O23887 := Lib.hid ((by rw [hu881]; exact World.ownsRow_made u872 #[] 0 (HB875.out).size (Nat.zero_le _) rfl : World.ownsRow u880 W.heap.size 45 2 (.slice (some ⟨u872.heap.size, 0, none⟩) 0 0) 0 []))
          have hS888 : (fun w' => w'.cell? ⟨w.heap.size, 0, none⟩ = some (.int .i64 x) ∧ w'.cell? ⟨w.heap.size, 1, none⟩ = some (.int .i64 y)) u880 := ⟨below_cells hb882 hS879.1, below_cells hb882 hS879.2⟩
          clear hu881 hb882
          have OR889 : Hid (u747.heap.size < u872.heap.size) := Lib.hid (K27878.out.lt)
          refine hK.out _ _ hS888 (fun ho244 => ?_)
          clear hK K
          try simp only [Act.put, List.setIfInBounds_toArray, List.set_cons_zero, List.set_cons_succ]
          refine wpAnyH_ready (rs := [2]) (by kernel_rfl) (by simp) ?_
          refine AllReadyH.cons (o := ?oo245) ?ho245 ?so245 AllReadyH.nil
          case ho245 => (simp only [List.getElem?_toArray, List.getElem?_cons_zero, List.getElem?_cons_succ]; rfl)
          case so245 =>
            intro K hK
            have NE27890 := Lib.hid (show Value.ownBlock (.slice (some ⟨u872.heap.size, 0, none⟩) 0 0) ≠ some u747.heap.size from fun e => by have h1 : u872.heap.size = u747.heap.size := Option.some.inj e; have := OR889.out; omega)
            refine step_append_srcN _ rfl (.tmp 23) (.tmp 24) 22 rfl W.heap.size 45 i0 (.agg #[.int .i64 0, .int .i64 0]) 2 16 Try.underlying22 hi hz0 hz1 hz2 rfl (by omega) _ 0 [] rfl O23887.out A n c (l.flatMap prCells) rfl (HL884.out.src) (prCells_one l) (by unfold maxLen; omega) (by omega) ((HB883.out).size) ?_
            intro v897 u891 hw893 hg892 hl896
            obtain ⟨A894, c895, rfl⟩ := own_slice hw893
            rw [Nat.zero_add, List.nil_append] at hw893
            rw [Nat.zero_add]
            have HB898 := Lib.hid ((HB883.out).grown hg892 ((HB883.out).size) (fun k e => (O23887.out.lt k e).1))
            have HL899 := Lib.hid (HLW.out.below HB898.out)
            have G8900 := Lib.hid ((G8885.out).grown hg892 (fun e => own_blk_ne O23887.out G8885.out (by decide) e.symm))
            have K27901 := Lib.hid ((K27886.out).grown hg892 (fun e => NE27890.out e.symm))
            have O25902 := Lib.hid hw893
            have hS903 : (fun w' => w'.cell? ⟨w.heap.size, 0, none⟩ = some (.int .i64 x) ∧ w'.cell? ⟨w.heap.size, 1, none⟩ = some (.int .i64 y)) u891 := ⟨below_cells HB898.out hS.1, below_cells HB898.out hS.2⟩
            clear hg892 hw893 hl896
            refine hK.out _ _ hS903 (fun ho246 => ?_)
            clear hK K
            try simp only [Act.put, List.setIfInBounds_toArray, List.set_cons_zero, List.set_cons_succ]
            refine wpAnyH_ready (rs := [5]) (by kernel_rfl) (by simp) ?_
            refine AllReadyH.cons (o := ?oo247) ?ho247 ?so247 AllReadyH.nil
            case ho247 => (simp only [List.getElem?_toArray, List.getElem?_cons_zero, List.getElem?_cons_succ]; rfl)
            case so247 =>
              intro K hK
              refine step_append_srcN _ rfl (.tmp 25) (.tmp 27) 22 rfl W.heap.size 45 i0 (.agg #[.int .i64 0, .int .i64 0]) 2 16 Try.underlying22 hi hz0 hz1 hz2 rfl (by omega) _ n (l.flatMap prCells) rfl O25902.out (some ⟨u747.heap.size, 0, none⟩) 1 1 (prCells (x, y)) rfl (⟨rfl, fun ad e j u hu => by cases e; rw [addr_add, K27901.out.cell]; simpa [prCells] using hu, fun e => by cases e⟩ : SrcN _ (some ⟨u747.heap.size, 0, none⟩) 1 2 (prCells (x, y))) (by simp [prCells, Value.oneCell']) (by unfold maxLen; omega) (by omega) ((HB898.out).size) ?_
              intro v910 u904 hw906 hg905 hl909
              obtain ⟨A907, c908, rfl⟩ := own_slice hw906
              have HB911 := Lib.hid ((HB898.out).grown hg905 ((HB898.out).size) (fun k e => (O25902.out.lt k e).1))
              have HL912 := Lib.hid (HLW.out.below HB911.out)
              have G8913 := Lib.hid ((G8900.out).grown hg905 (fun e => own_blk_ne O25902.out G8900.out (by decide) e.symm))
              have O28915 := Lib.hid hw906
              have hS916 : (fun w' => w'.cell? ⟨w.heap.size, 0, none⟩ = some (.int .i64 x) ∧ w'.cell? ⟨w.heap.size, 1, none⟩ = some (.int .i64 y)) u904 := ⟨below_cells HB911.out hS.1, below_cells HB911.out hS.2⟩
              clear hg905 hw906 hl909
              refine hK.out _ _ hS916 (fun ho248 => ?_)
              clear hK K
              try simp only [Act.put, List.setIfInBounds_toArray, List.set_cons_zero, List.set_cons_succ]
              refine wpAnyH_ready (rs := [6]) (by kernel_rfl) (by simp) ?_
              refine AllReadyH.cons (o := ?oo249) ?ho249 ?so249 AllReadyH.nil
              case ho249 => (simp only [List.getElem?_toArray, List.getElem?_cons_zero, List.getElem?_cons_succ]; rfl)
              case so249 =>
                intro K hK
                have P924 := Lib.hid (PairsIn.own (l := l ++ [(x, y)]) (n := n + 1) (c := c908) (by have h := O28915.out; rw [List.flatMap_append, List.flatMap_singleton]; exact h) (by rw [List.length_append, HLN.out]; rfl) (by unfold maxLen; omega) (fun p hp => by
                  rcases List.mem_append.1 hp with h | h
                  · exact HLW.out.vals p h
                  · rw [List.mem_singleton.1 h]; exact HXY.out))
                go_simp
                refine (vBuild_is u904 A907 (n + 1) c908 (l ++ [(x, y)]) P924.out HBA2.out HK2.out HM2.out).mono ?_
                rintro e u917 ⟨A921, B919, c922, c920, rfl, hs923, hb918⟩
                have HS925 := Lib.hid hs923
                have G8926 := Lib.hid ((G8913.out).below hb918 (G8913.out).lt)
                have HB927 := Lib.hid (below_then HB911.out hb918 (HB911.out).size)
                have hS928 : (fun w' => w'.cell? ⟨w.heap.size, 0, none⟩ = some (.int .i64 x) ∧ w'.cell? ⟨w.heap.size, 1, none⟩ = some (.int .i64 y)) u917 := ⟨below_cells HB927.out hS.1, below_cells HB927.out hS.2⟩
                clear hs923 hb918
                go_wp2_with fail
                refine hK.out _ _ hS928 (fun ho250 => ?_)
                clear hK K
                try simp only [Act.put, List.setIfInBounds_toArray, List.set_cons_zero, List.set_cons_succ]
                refine wpAnyH_take (i := 7) (oi := ?oio2517) (v := ?vo2517) ?hio2517 (by kernel_rfl) (by kernel_rfl) (by kernel_rfl) ?hQo2517 (Or.inl ⟨?hwo2517, ?hyo2517⟩) (by assumption) ?resto2517
                case hio2517 => (first | (simp only [List.getElem?_toArray, List.getElem?_cons_zero, List.getElem?_cons_succ]; rfl) | rfl)
                case hQo2517 => exact fun _ _ _ h => h
                case hwo2517 => rfl
                case hyo2517 => ((intro w hSw; go_simp); first | done | with_reducible rfl)
                try simp only [Act.put, List.setIfInBounds_toArray, List.set_cons_zero, List.set_cons_succ]
                refine wpAnyH_take (i := 8) (oi := ?oio2528) (v := ?vo2528) ?hio2528 (by kernel_rfl) (by kernel_rfl) (by kernel_rfl) ?hQo2528 (Or.inl ⟨?hwo2528, ?hyo2528⟩) (by assumption) ?resto2528
                case hio2528 => (first | (simp only [List.getElem?_toArray, List.getElem?_cons_zero, List.getElem?_cons_succ]; rfl) | rfl)
                case hQo2528 => exact fun _ _ _ h => h
                case hwo2528 => rfl
                case hyo2528 => ((intro w hSw; go_simp); first | done | with_reducible rfl)
                try simp only [Act.put, List.setIfInBounds_toArray, List.set_cons_zero, List.set_cons_succ]
                refine wpAnyH_take (i := 9) (oi := ?oio2539) (v := ?vo2539) ?hio2539 (by kernel_rfl) (by kernel_rfl) (by kernel_rfl) ?hQo2539 (Or.inl ⟨?hwo2539, ?hyo2539⟩) (by assumption) ?resto2539
                case hio2539 => (first | (simp only [List.getElem?_toArray, List.getElem?_cons_zero, List.getElem?_cons_succ]; rfl) | rfl)
                case hQo2539 => exact fun _ _ _ h => h
                case hwo2539 => rfl
                case hyo2539 => ((intro w hSw; go_simp); first | done | with_reducible rfl)
                try simp only [Act.put, List.setIfInBounds_toArray, List.set_cons_zero, List.set_cons_succ]
                refine wpAnyH_ready (rs := [11]) (by kernel_rfl) (by simp) ?_
                refine AllReadyH.cons (o := ?oo254) ?ho254 ?so254 AllReadyH.nil
                case ho254 => (simp only [List.getElem?_toArray, List.getElem?_cons_zero, List.getElem?_cons_succ]; rfl)
                case so254 =>
                  intro K hK
                  have z9290 := G8926.out.cell 0
                  have z9291 := G8926.out.cell 1
                  have z9292 := G8926.out.frozen 0
                  have z9293 := G8926.out.frozen 1
                  simp only [List.getElem?_toArray, List.getElem?_cons_zero, List.getElem?_cons_succ] at z9290 z9291
                  go_simp
                  have hge935 : W.heap.size ≤ u0.heap.size := GE754.out
                  have kp930 : Kept (fun i => i = u0.heap.size) u917 ((u917.setCell ⟨u0.heap.size, 0, none⟩ (.slice A921 k2 c922)).setCell ⟨u0.heap.size, 1, none⟩ (.slice B919 m2 c920)) := ((Kept.refl (fun i => i = u0.heap.size) u917).setCell (p := ⟨u0.heap.size, 0, none⟩) (.inl rfl) _).setCell (p := ⟨u0.heap.size, 1, none⟩) (.inl rfl) _
                  have HB931 := Lib.hid (((HB927.out).setCell (p := ⟨u0.heap.size, 0, none⟩) hge935 (.slice A921 k2 c922)).setCell (p := ⟨u0.heap.size, 1, none⟩) hge935 (.slice B919 m2 c920))
                  have G8932 := Lib.hid ((G8926.out.set_ 0 (.slice A921 k2 c922)).set_ 1 (.slice B919 m2 c920))
                  have VS933 := Lib.hid (HS925.out.far HSH2.out G8926.out kp930)
                  have hS934 : (fun w' => w'.cell? ⟨w.heap.size, 0, none⟩ = some (.int .i64 x) ∧ w'.cell? ⟨w.heap.size, 1, none⟩ = some (.int .i64 y)) ((u917.setCell ⟨u0.heap.size, 0, none⟩ (.slice A921 k2 c922)).setCell ⟨u0.heap.size, 1, none⟩ (.slice B919 m2 c920)) := ⟨below_cells HB931.out hS.1, below_cells HB931.out hS.2⟩
                  clear z9290 z9291 z9292 z9293 kp930 hge935
                  refine hK.out _ _ hS934 (fun ho255 => ?_)
                  clear hK K
                  try simp only [Act.put, List.setIfInBounds_toArray, List.set_cons_zero, List.set_cons_succ]
                  refine wpAnyH_take (i := 12) (oi := ?oio25612) (v := ?vo25612) ?hio25612 (by kernel_rfl) (by kernel_rfl) (by kernel_rfl) ?hQo25612 (Or.inl ⟨?hwo25612, ?hyo25612⟩) (by assumption) ?resto25612
                  case hio25612 => (first | (simp only [List.getElem?_toArray, List.getElem?_cons_zero, List.getElem?_cons_succ]; rfl) | rfl)
                  case hQo25612 => exact fun _ _ _ h => h
                  case hwo25612 => rfl
                  case hyo25612 => ((intro w hSw; go_simp); first | done | with_reducible rfl)
                  try simp only [Act.put, List.setIfInBounds_toArray, List.set_cons_zero, List.set_cons_succ]
                  refine wpAnyH_done (by kernel_rfl) ?_ _
                  go_wp2_with fail
                  go_meet
                  case rel => exact ⟨_, A921, B919, c922, c920, rfl, rfl, HB931.out, by have h := G8932.out; simpa [Blk] using h, VS933.out⟩
  case rest =>
    obtain ⟨g, A2, B2, ca2, cb2, rfl, rfl, hbW, hv8, hs8⟩ := hcut
    have HBF := Lib.hid (below_then HB3.out hbW HB3.out.size)
    have hv6 := HV3.out.below hbW HV3.out.lt
    have HS8 := Lib.hid hs8
    have HS6 := Lib.hid (HS3.out.below hbW)
    have HQ6 := Lib.hid (HQ3.out.below hbW HQ3.out.lt)
    have t0 := hv6.cell 0
    have t1 := hv6.cell 1
    have r0 := hv8.cell 0
    have r1 := hv8.cell 1
    simp only [List.getElem?_toArray, List.getElem?_cons_zero, List.getElem?_cons_succ] at t0 t1 r0 r1
    have HV6 := Lib.hid hv6
    have HV8 := Lib.hid hv8
    clear hbW hv6 hv8 hs8
    by_cases hE : E ≠ 0
    · have hE2 : E2 = E := by
        have h := build_more_err (x, y) l ⟨ones, []⟩ (by show (buildAll l).2 ≠ 0; rw [HBA.out]; exact hE)
        have h1 : buildV ⟨ones, []⟩ l = (V, E) := HBA.out
        have h2 : buildV ⟨ones, []⟩ (l ++ [(x, y)]) = (V2, E2) := HBA2.out
        rw [h1, h2] at h
        exact (Prod.mk.inj h).2
      have d1 : (E != 0) = true := by simpa using hE
      have d2 : (E == 0) = false := by simpa using hE
      have d3 : (E2 != 0) = true := by rw [hE2]; exact d1
      clear hE2 hE
      go_wp2
      go_ret
      exact ⟨rfl, HBF.out⟩
    have hE0 : E = 0 := by simpa using hE
    subst hE0
    by_cases hE2 : E2 ≠ 0
    · have d3 : (E2 != 0) = true := by simpa using hE2
      clear hE hE2
      go_wp2
      go_ret
      exact ⟨rfl, HBF.out⟩
    have hE20 : E2 = 0 := by simpa using hE2
    subst hE20
    have hOk := build_ok l ⟨ones, []⟩ ones_ok (by show (buildAll l).2 = 0; rw [HBA.out])
    have h1 : buildV ⟨ones, []⟩ l = (V, 0) := HBA.out
    have h2 : buildV ⟨ones, []⟩ (l ++ [(x, y)]) = (V2, 0) := HBA2.out
    have h3 := build_more_ok (x, y) l ⟨ones, []⟩ (by rw [h1])
    rw [h1] at hOk h3
    rw [h2] at h3
    have hpe : pairErr V x y = 0 := by
      simp only [buildV] at h3
      by_cases he : pairErr V x y ≠ 0
      · rw [if_pos he] at h3; exact absurd (Prod.mk.inj h3).2.symm he
      · simpa using he
    have hV2 : V2 = pairAdd V x y := by
      simp only [buildV] at h3
      rw [if_neg (by simpa using hpe)] at h3
      exact (Prod.mk.inj h3).1
    have hOk2 := hOk.add hpe
    have hO1 : VOk V := hOk
    obtain ⟨ts, t, hts, htok, hmer⟩ : ∃ ts t, ts.length ≤ 1 ∧ V2.tok = V.tok ++ ts ∧ V2.mer = V.mer ++ [⟨x, y, t⟩] := by
      rw [hV2]
      unfold pairAdd
      split
      · exact ⟨[bothT V x y], _, by simp, rfl, rfl⟩
      · exact ⟨[], _, by simp, by simp, rfl⟩
    have hk2 : k2 = k + ts.length := by rw [← HK2.out, ← HK.out, htok, List.length_append]
    have hm2 : m2 = m + 1 := by rw [← HM2.out, ← HM.out, hmer]; simp
    subst hm2
    have hlast : V2.mer[m]? = some ⟨x, y, t⟩ := by rw [hmer, List.getElem?_append_right (by rw [HM.out]; exact Nat.le_refl _), HM.out, Nat.sub_self]; rfl
    have hml : m + 1 ≤ 512 := by have h := hOk2.ml; rw [← hV2, HM2.out] at h; exact h
    have hkl : k2 ≤ 512 := by have h := hOk2.tl; rw [← hV2, HK2.out] at h; exact h
    obtain ⟨hbnd, -, hcat⟩ := (merOk_iff hlast).1 (by have h := hOk2.mer m; rw [← hV2] at h; exact h (by rw [HM2.out]; omega))
    simp only at hbnd hcat
    rw [HK2.out] at hbnd
    have hfr : 0 ≤ x ∧ x < k ∧ 0 ≤ y ∧ y < k := by
      unfold pairErr at hpe
      split at hpe
      · omega
      rename_i hf
      obtain ⟨i, j, s, t', e1, e2, e3, e4, _⟩ := free_idx (by simpa using hf : freeB V x y = true)
      have a1 := (List.getElem?_eq_some_iff.1 e3).1
      have a2 := (List.getElem?_eq_some_iff.1 e4).1
      have := HK.out
      omega
    obtain ⟨xn, hxn⟩ : ∃ n : Nat, x = n := ⟨x.toNat, by omega⟩
    obtain ⟨yn, hyn⟩ : ∃ n : Nat, y = n := ⟨y.toNat, by omega⟩
    obtain ⟨tn, htn⟩ : ∃ n : Nat, t = n := ⟨t.toNat, by omega⟩
    subst hxn hyn htn
    have hx : V.tok[xn]? = some (V.tok[xn]'(by rw [HK.out]; omega)) := List.getElem?_eq_getElem _
    have hy : V.tok[yn]? = some (V.tok[yn]'(by rw [HK.out]; omega)) := List.getElem?_eq_getElem _
    have ht : V2.tok[tn]? = some (V2.tok[tn]'(by rw [HK2.out]; omega)) := List.getElem?_eq_getElem _
    obtain ⟨sx, hsx⟩ : ∃ s, s = V.tok[xn]'(by rw [HK.out]; omega) := ⟨_, rfl⟩
    obtain ⟨sy, hsy⟩ : ∃ s, s = V.tok[yn]'(by rw [HK.out]; omega) := ⟨_, rfl⟩
    obtain ⟨st, hst⟩ : ∃ s, s = V2.tok[tn]'(by rw [HK2.out]; omega) := ⟨_, rfl⟩
    rw [← hsx] at hx
    rw [← hsy] at hy
    rw [← hst] at ht
    have hx2 : V2.tok[xn]? = some sx := by rw [htok, List.getElem?_append_left (by rw [HK.out]; omega)]; exact hx
    have hy2 : V2.tok[yn]? = some sy := by rw [htok, List.getElem?_append_left (by rw [HK.out]; omega)]; exact hy
    rw [Int.toNat_natCast, Int.toNat_natCast, Int.toNat_natCast, List.getD_eq_getElem?_getD, List.getD_eq_getElem?_getD, List.getD_eq_getElem?_getD, hx2, hy2, ht] at hcat
    simp only [Option.getD_some] at hcat
    have hlx := hO1.short sx (List.mem_of_getElem? hx)
    have hly := hO1.short sy (List.mem_of_getElem? hy)
    have HX := Lib.hid hx
    have HY := Lib.hid hy
    have HT := Lib.hid ht
    have HCAT := Lib.hid hcat
    have HTOK := Lib.hid htok
    have HLAST := Lib.hid hlast
    have HLX := Lib.hid hlx
    have HLY := Lib.hid hly
    have g1 : k ≤ k2 := by omega
    have g2 : k2 ≤ k + 1 := by omega
    have g3 : (tn : Int) < (k2 : Int) := by omega
    have g4 : (xn : Int) < (k : Int) := by omega
    have g5 : (yn : Int) < (k : Int) := by omega
    have d4 : decide ((k2 : Int) < (k : Int)) = false := by simp; omega
    have d5 : decide ((k : Int) + 1 < (k2 : Int)) = false := by simp; omega
    have d6 : (((m + 1 : Nat) : Int) != (m : Int) + 1) = false := by simp
    clear hE hE2 hOk h1 h2 h3 hpe hV2 hOk2 hO1 hts htok hmer hk2 hlast hbnd hcat hfr hx hy ht hsx hsy hst hx2 hy2 hlx hly
    have t0q : ∀ q, (wc.drewN q).cell? ⟨w2.heap.size, 0, none⟩ = some (.slice AT k ca) := fun _ => t0
    have r0q : ∀ q, (wc.drewN q).cell? ⟨g, 0, none⟩ = some (.slice A2 k2 ca2) := fun _ => r0
    go_wp2_with fail
    go_loopw [10] (fun i wr => ∃ (j q : Nat), j ≤ k ∧ i = .int .i64 j ∧ wr = wc.drewN q) (fun i _ => k - (intOf i).toNat)
    case atStart => exact ⟨0, 0, Nat.zero_le _, rfl, rfl⟩
    case round =>
      obtain ⟨j, q, hj, rfl, hwr⟩ := hrel
      rcases Nat.lt_or_ge j k with hlt | hge
      · subst hwr
        have hlt' : (j : Int) < (k : Int) := by omega
        have hlt2 : (j : Int) < (k2 : Int) := by omega
        have hj0 : (0 : Int) ≤ (j : Int) := by omega
        obtain ⟨s, hs⟩ : ∃ s, V.tok[j]? = some s := ⟨_, List.getElem?_eq_getElem (by rw [HK.out]; exact hlt)⟩
        have hs2 : V2.tok[j]? = some s := by rw [HTOK.out, List.getElem?_append_left (by rw [HK.out]; exact hlt)]; exact hs
        obtain ⟨ad, C1, c1, rfl, e1, _, i1⟩ := HS6.out.tok.at_ j s hs
        obtain ⟨ad2, C2, c2, rfl, e2, _, i2⟩ := HS8.out.tok.at_ j s hs2
        have e1q : ∀ q, (wc.drewN q).cell? (ad.add j) = some (.slice C1 s.length c1) := fun _ => e1
        have e2q : ∀ q, (wc.drewN q).cell? (ad2.add j) = some (.slice C2 s.length c2) := fun _ => e2
        have cv1 := fun q => str_of (i1.drewN q) c1
        have cv2 := fun q => str_of (i2.drewN q) c2
        have ds : (s != s) = false := by simp
        clear hs hs2 e1 e2 i1 i2 t0 t1 r0 r1
        go_wp2_with fail
        go_quiet (fail)
        go_wp2
        exact ⟨⟨j + 1, _, by omega, by go_num, rfl⟩, by simp [intOf]; omega⟩
      · obtain rfl : j = k := by omega
        have hjz : ¬ ((j : Int) < (j : Int)) := by omega
        obtain ⟨bd, rfl, ea, eb, et⟩ := HS8.out.mer.at_ m _ HLAST.out
        simp only at ea eb et
        have hbwr : Below wc.heap.size wc wr := by rw [hwr]; exact below_drewN (Below.refl _ _) q
        have HBWR := Lib.hid hbwr
        have hb5 := (Below.refl wr.heap.size wr).alloc (Nat.le_refl _) (.cells #[.int .i64 xn, .int .i64 yn, .int .i64 tn] 25)
        obtain ⟨W5, hW5⟩ : ∃ z, z = wr.alloc (.cells #[.int .i64 xn, .int .i64 yn, .int .i64 tn] 25) := ⟨_, rfl⟩
        have hn5 : Blk W5 wr.heap.size 25 #[.int .i64 xn, .int .i64 yn, .int .i64 tn] := by rw [hW5]; exact Blk.new _ _ _
        rw [← hW5] at hb5
        have hb5' : Below wc.heap.size wc W5 := below_then hbwr hb5 hbwr.size
        have HB5 := Lib.hid hb5'
        have HN5 := Lib.hid hn5
        have HW5 := Lib.hid hW5
        have ea' := below_cells hbwr ea
        have eb' := below_cells hbwr eb
        have et' := below_cells hbwr et
        have r1' := below_cells hbwr r1
        have t0w := below_cells hbwr t0
        have r0w := below_cells hbwr r0
        have t0' := below_cells hb5' t0
        have r0' := below_cells hb5' r0
        rw [hW5] at t0' r0'
        have hm0 : (0 : Int) ≤ (m : Int) := by omega
        clear ea eb et t0 t1 r0 r1 hb5 hW5 hn5 hb5' hbwr t0q r0q hwr
        have HS5 := Lib.hid (HS6.out.below HB5.out)
        have HS5b := Lib.hid (HS8.out.below HB5.out)
        have hv5 := HV6.out.below HB5.out HV6.out.lt
        have hv5b := HV8.out.below HB5.out HV8.out.lt
        have hq5 := HQ6.out.below HB5.out HQ6.out.lt
        have p0 : ∀ q, (W5.drewN q).cell? ⟨w2.heap.size, 0, none⟩ = some (.slice AT j ca) := fun q => by have := (hv5.drewN q).cell 0; simpa using this
        have p1 : ∀ q, (W5.drewN q).cell? ⟨g, 0, none⟩ = some (.slice A2 k2 ca2) := fun q => by have := (hv5b.drewN q).cell 0; simpa using this
        have p2 : ∀ q, (W5.drewN q).cell? ⟨w.heap.size, 0, none⟩ = some (.int .i64 xn) := fun q => by have := (hq5.drewN q).cell 0; simpa using this
        have p3 : ∀ q, (W5.drewN q).cell? ⟨w.heap.size, 1, none⟩ = some (.int .i64 yn) := fun q => by have := (hq5.drewN q).cell 1; simpa using this
        have p4 : ∀ q, (W5.drewN q).cell? ⟨wr.heap.size, 0, none⟩ = some (.int .i64 xn) := fun q => by have := (HN5.out.drewN q).cell 0; simpa using this
        have p5 : ∀ q, (W5.drewN q).cell? ⟨wr.heap.size, 1, none⟩ = some (.int .i64 yn) := fun q => by have := (HN5.out.drewN q).cell 1; simpa using this
        have p6 : ∀ q, (W5.drewN q).cell? ⟨wr.heap.size, 2, none⟩ = some (.int .i64 tn) := fun q => by have := (HN5.out.drewN q).cell 2; simpa using this
        obtain ⟨ad, C1, c1, rfl, e1, _, i1⟩ := HS5.out.tok.at_ xn sx HX.out
        obtain ⟨_, C2, c2, hh, e2, _, i2⟩ := HS5.out.tok.at_ yn sy HY.out
        cases hh
        obtain ⟨ad3, C3, c3, rfl, e3, _, i3⟩ := HS5b.out.tok.at_ tn st HT.out
        have v1 : ∀ q, (W5.drewN q).cell? (ad.add xn) = some (.slice C1 sx.length c1) := fun _ => e1
        have v2 : ∀ q, (W5.drewN q).cell? (ad.add yn) = some (.slice C2 sy.length c2) := fun _ => e2
        have v3 : ∀ q, (W5.drewN q).cell? (ad3.add tn) = some (.slice C3 st.length c3) := fun _ => e3
        have cv1 := fun q => str_of (i1.drewN q) c1
        have cv2 := fun q => str_of (i2.drewN q) c2
        have cv3 := fun q => str_of (i3.drewN q) c3
        have la := HLX.out.2
        have lb := HLY.out.2
        have laz : (sx.length : Int) ≤ 8388608 := by omega
        have lbz : (sy.length : Int) ≤ 8388608 := by omega
        have lab : sx.length + sy.length ≤ 9223372036854775807 := by omega
        have labn : ¬ (9223372036854775807 < sx.length + sy.length) := by omega
        have x1 : ((xn : Int) == (xn : Int)) = true := by simp
        have x2 : ((yn : Int) == (yn : Int)) = true := by simp
        have x3 : (st == ((⟨sx.toArray⟩ : ByteArray) ++ ⟨sy.toArray⟩).toList) = true := by rw [cat_list]; simpa using HCAT.out
        clear hv5 hv5b hq5 e1 e2 e3 i1 i2 i3
        go_wp2_with fail
        rw [← HW5.out]
        clear ea' eb' et' r1' t0' r0' t0w r0w
        go_quiet (fail)
        go_wp2
        go_ret
        exact ⟨rfl, below_drewN (below_then HBF.out HB5.out HBF.out.size) _⟩
end Go.Proofs.Ytecpihghlelefaa
