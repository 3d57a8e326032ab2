/- The program's add: a step more. (Printed by mk/add.py.) -/
import Derived.Test.YtimbimnbaoaboaaEIns
import Derived.Deep.RegionHeld3
namespace Go.Proofs.Ytimbimnbaoaboaa
open Go.RowKit Go.Maps Go.WideMaps
set_option linter.unusedSimpArgs false

theorem two_cells {w : World} {g : Nat} {t : TypeId} {x y : Value} (h : Blk w g t #[x, y]) : w.cell? ⟨g, 0, none⟩ = some x ∧ w.cell? ⟨g, 1, none⟩ = some y := by
  have h0 := h.cell 0
  have h1 := h.cell 1
  simp only [List.getElem?_toArray, List.getElem?_cons_zero, List.getElem?_cons_succ] at h0 h1
  exact ⟨h0, h1⟩
set_option maxHeartbeats 8000000 in
set_option maxRecDepth 100000 in
theorem add_any (w0 w : World) (r b : Nat) (V : Voc) (hC : Coder w0 b V) {at_ before behind : List Int} {st : List (Nat × Nat)} {va vb vc vs : Value} (hR : IsRow w0 w r b at_ before behind st va vb vc vs) (hsort : st.Pairwise gtS) {place : Int} {s : Option (Nat × Nat)} (hs : StepAt V.mer at_ behind place s)
    (hlen : st.length < 1048576) (hsm : ∀ x, s = some x → x.1 ≤ 1048576 ∧ x.2 ≤ 1048576) :
    Calls Try.prog 41 #[at0 r, .int .i64 place] w (Steps w0 w r b at_ before behind (addO st s) va vb vc vs) := by
  have hstep := stepAt_any w0 w r b V (hC.below hR.below) ⟨va, vb, vc, vs, hR⟩ hs.1
  have hI := hR
  clear hR
  have HR := Lib.hid hI
  have HS := Lib.hid hstep
  have HP := Lib.hid hs.2
  have HSM := Lib.hid hsm
  have HSO := Lib.hid hsort
  have HSF := Lib.hid hI.stF
  clear hstep hC hs hsm hsort hI
  unfold at0
  go_enter Try.func41, Try.ntmps41
  cases s with
  | none =>
    go_wp2_with (go_at_call 37; refine HS.out.mono ?_; rintro e w1 ⟨x, y, rfl, hk, hb⟩; have HB := Lib.hid hb; clear hb hk)
    go_end0
    exact ⟨rfl, vs, (HR.out.then HB.out).then ((Below.refl _ w1).alloc (Nat.le_refl _) _), .below (below_then HB.out ((Below.refl _ w1).alloc (Nat.le_refl _) _) HB.out.size) _ _⟩
  | some sp =>
    obtain ⟨k, p⟩ := sp
    obtain rfl : place = p := HP.out k p rfl
    have hkp := HSM.out (k, p) rfl
    obtain ⟨I, hI⟩ : ∃ I, I = idxS st (k, p) := ⟨_, rfl⟩
    have hIl : I ≤ st.length := by rw [hI]; exact idxS_le _ _
    have hds : (st.flatMap stV).take (I * 2) ++ [.int .i64 k, .int .i64 p] ++ (st.flatMap stV).drop (I * 2) = (addS st (k, p)).flatMap stV := by
      unfold addS
      rw [← hI, List.flatMap_append, List.flatMap_cons, stV_take, stV_drop, List.append_assoc]
      rfl
    have hll : (addS st (k, p)).length = st.length + 1 := by
      unfold addS
      rw [← hI, List.length_append, List.length_cons, List.length_take, List.length_drop]
      omega
    have HF : Hid (∀ s ∈ addS st (k, p), s.1 ≤ 1048576 ∧ s.2 ≤ 1048576) := Lib.hid (fun s hs => by
      unfold addS at hs
      rcases List.mem_append.1 hs with h | h
      · exact HSF.out s (List.mem_of_mem_take h)
      · rcases List.mem_cons.1 h with rfl | h
        · exact hkp
        · exact HSF.out s (List.mem_of_mem_drop h))
    have HI := Lib.hid hI
    have HD := Lib.hid hds
    have HL := Lib.hid hll
    clear hI hds hll hkp
    go_wp2_with fail
    refine HS.out.mono ?_
    rintro e w1 ⟨x, y, rfl, hk, hb⟩
    obtain ⟨rfl, rfl⟩ := hk k rfl
    have b1 : Below w1.heap.size w1 (w1.alloc (.cells #[.int .i64 k, .int .i64 p] 78)) := (Below.refl _ w1).alloc (Nat.le_refl _) _
    obtain ⟨W2, hW2⟩ : ∃ W2, W2 = w1.alloc (.cells #[.int .i64 k, .int .i64 p] 78) := ⟨_, rfl⟩
    have HST : Hid (Blk W2 w1.heap.size 78 #[.int .i64 k, .int .i64 p]) := Lib.hid (by rw [hW2]; exact Blk.new _ _ _)
    rw [← hW2] at b1
    have HNS : Hid (vs.ownBlock ≠ some w1.heap.size) := Lib.hid (fun e => Nat.lt_irrefl _ ((HR.out.then hb).stR.lt _ e).2)
    have HNR : Hid (w1.heap.size ≠ r) := Lib.hid (fun e => by have := (HR.out.then hb).blk.lt; omega)
    have HB := Lib.hid ((HR.out.then hb).then b1)
    have HK := Lib.hid (below_then hb b1 hb.size)
    have HW2 := Lib.hid hW2
    clear hb b1 hk hW2
    go_wp2_with fail
    rw [← HW2.out]
    refine wp_region_held_drew (S := fun w' => w'.cell? ⟨w1.heap.size, 0, none⟩ = some (.int .i64 k) ∧ w'.cell? ⟨w1.heap.size, 1, none⟩ = some (.int .i64 p)) (by kernel_rfl) (two_cells HST.out) (fun hHeld => ?_)
    obtain ⟨u0, hu0⟩ : ∃ z, z = W2.drew := ⟨_, rfl⟩
    rw [← hu0] at hHeld ⊢
    have hb0 : Below W2.heap.size W2 u0 := by rw [hu0]; exact (Below.refl _ W2).drew
    have HR0 := Lib.hid (HB.out.then hb0)
    have HST0 := Lib.hid (HST.out.below hb0 HST.out.lt)
    have HK0 := Lib.hid (below_then HK.out hb0 HK.out.size)
    clear hu0 hb0
    refine wpAnyH_take (i := 0) (oi := ?oit10) (v := ?vt10) ?hit10 (by kernel_rfl) (by kernel_rfl) (by kernel_rfl) ?hQt10 (Or.inl ⟨?hwt10, ?hyt10⟩) (by assumption) ?restt10
    case hit10 => (first | (simp only [List.getElem?_toArray, List.getElem?_cons_zero, List.getElem?_cons_succ]; rfl) | rfl)
    case hQt10 => exact fun _ _ _ h => h
    case hwt10 => rfl
    case hyt10 => ((intro w hSw; go_simp); first | done | with_reducible rfl)
    try simp only [Act.put, List.setIfInBounds_toArray, List.set_cons_zero, List.set_cons_succ]
    refine wpAnyH_take (i := 1) (oi := ?oit21) (v := ?vt21) ?hit21 (by kernel_rfl) (by kernel_rfl) (by kernel_rfl) ?hQt21 (Or.inl ⟨?hwt21, ?hyt21⟩) (by assumption) ?restt21
    case hit21 => (first | (simp only [List.getElem?_toArray, List.getElem?_cons_zero, List.getElem?_cons_succ]; rfl) | rfl)
    case hQt21 => exact fun _ _ _ h => h
    case hwt21 => rfl
    case hyt21 => ((intro w hSw; go_simp); first | done | with_reducible rfl)
    try simp only [Act.put, List.setIfInBounds_toArray, List.set_cons_zero, List.set_cons_succ]
    refine wpAnyH_take (i := 5) (oi := ?oit35) (v := ?vt35) ?hit35 (by kernel_rfl) (by kernel_rfl) (by kernel_rfl) ?hQt35 (Or.inl ⟨?hwt35, ?hyt35⟩) (by assumption) ?restt35
    case hit35 => (first | (simp only [List.getElem?_toArray, List.getElem?_cons_zero, List.getElem?_cons_succ]; rfl) | rfl)
    case hQt35 => exact fun _ _ _ h => h
    case hwt35 => rfl
    case hyt35 => ((intro w hSw; go_simp); first | done | with_reducible rfl)
    try simp only [Act.put, List.setIfInBounds_toArray, List.set_cons_zero, List.set_cons_succ]
    refine wpAnyH_take (i := 6) (oi := ?oit46) (v := ?vt46) ?hit46 (by kernel_rfl) (by kernel_rfl) (by kernel_rfl) ?hQt46 (Or.inl ⟨?hwt46, ?hyt46⟩) (by assumption) ?restt46
    case hit46 => (first | (simp only [List.getElem?_toArray, List.getElem?_cons_zero, List.getElem?_cons_succ]; rfl) | rfl)
    case hQt46 => exact fun _ _ _ h => h
    case hwt46 => rfl
    case hyt46 => ((intro w hSw; go_simp); first | done | with_reducible rfl)
    try simp only [Act.put, List.setIfInBounds_toArray, List.set_cons_zero, List.set_cons_succ]
    refine wpAnyH_take (i := 8) (oi := ?oit58) (v := ?vt58) ?hit58 (by kernel_rfl) (by kernel_rfl) (by kernel_rfl) ?hQt58 (Or.inl ⟨?hwt58, ?hyt58⟩) (by assumption) ?restt58
    case hit58 => (first | (simp only [List.getElem?_toArray, List.getElem?_cons_zero, List.getElem?_cons_succ]; rfl) | rfl)
    case hQt58 => exact fun _ _ _ h => h
    case hwt58 => rfl
    case hyt58 => ((intro w hSw; go_simp); first | done | with_reducible rfl)
    try simp only [Act.put, List.setIfInBounds_toArray, List.set_cons_zero, List.set_cons_succ]
    refine wpAnyH_take (i := 2) (oi := ?oit62) (v := ?vt62) ?hit62 (by kernel_rfl) (by kernel_rfl) (by kernel_rfl) ?hQt62 (Or.inl ⟨?hwt62, ?hyt62⟩) (by assumption) ?restt62
    case hit62 => (first | (simp only [List.getElem?_toArray, List.getElem?_cons_zero, List.getElem?_cons_succ]; rfl) | rfl)
    case hQt62 => exact fun _ _ _ h => h
    case hwt62 => rfl
    case hyt62 => ((intro w hSw; go_simp); first | done | with_reducible rfl)
    try simp only [Act.put, List.setIfInBounds_toArray, List.set_cons_zero, List.set_cons_succ]
    refine wpAnyH_take (i := 3) (oi := ?oit73) (v := ?vt73) ?hit73 (by kernel_rfl) (by kernel_rfl) (by kernel_rfl) ?hQt73 (Or.inl ⟨?hwt73, ?hyt73⟩) (by assumption) ?restt73
    case hit73 => (first | (simp only [List.getElem?_toArray, List.getElem?_cons_zero, List.getElem?_cons_succ]; rfl) | rfl)
    case hQt73 => exact fun _ _ _ h => h
    case hwt73 => rfl
    case hyt73 => ((intro w hSw; go_simp); first | done | with_reducible rfl)
    try simp only [Act.put, List.setIfInBounds_toArray, List.set_cons_zero, List.set_cons_succ]
    refine wpAnyH_ready (rs := [4, 7, 9]) (by kernel_rfl) (by simp) ?_
    refine AllReadyH.cons (o := ?ot8) ?ht8 ?st8 (AllReadyH.cons (o := ?ot9) ?ht9 ?st9 (AllReadyH.cons (o := ?ot10) ?ht10 ?st10 AllReadyH.nil))
    case ht8 => (simp only [List.getElem?_toArray, List.getElem?_cons_zero, List.getElem?_cons_succ]; rfl)
    case ht9 => (simp only [List.getElem?_toArray, List.getElem?_cons_zero, List.getElem?_cons_succ]; rfl)
    case ht10 => (simp only [List.getElem?_toArray, List.getElem?_cons_zero, List.getElem?_cons_succ]; rfl)
    case st8 =>
      intro K hK
      have yq1 : u0.cell? ⟨r, 4, none⟩ = some vs := by have := HR0.out.blk.cell 4; simpa using this
      go_simp
      clear yq1
      refine hK.out _ _ (two_cells HST0.out) (fun ht11 => ?_)
      clear hK K
      try simp only [Act.put, List.setIfInBounds_toArray, List.set_cons_zero, List.set_cons_succ]
      refine wpAnyH_ready (rs := [7, 9]) (by kernel_rfl) (by simp) ?_
      refine AllReadyH.cons (o := ?ot12) ?ht12 ?st12 (AllReadyH.cons (o := ?ot13) ?ht13 ?st13 AllReadyH.nil)
      case ht12 => (simp only [List.getElem?_toArray, List.getElem?_cons_zero, List.getElem?_cons_succ]; rfl)
      case ht13 => (simp only [List.getElem?_toArray, List.getElem?_cons_zero, List.getElem?_cons_succ]; rfl)
      case st12 =>
        intro K hK
        go_simp
        refine (find_any w0 _ r b ⟨va, vb, vc, vs, HR0.out⟩ HSO.out (k, p)).mono ?_
        rintro eq7 uq2 ⟨rfl, hq3⟩
        rw [← HI.out]
        have Rq4 := Lib.hid (HR0.out.then hq3)
        have Tq5 := Lib.hid (HST0.out.below hq3 HST0.out.lt)
        have Kq8 := Lib.hid (below_then HK0.out hq3 HK0.out.size)
        clear hq3
        go_wp2_with fail
        refine hK.out _ _ (two_cells Tq5.out) (fun ht14 => ?_)
        clear hK K
        try simp only [Act.put, List.setIfInBounds_toArray, List.set_cons_zero, List.set_cons_succ]
        refine wpAnyH_ready (rs := [9]) (by kernel_rfl) (by simp) ?_
        refine AllReadyH.cons (o := ?ot15) ?ht15 ?st15 AllReadyH.nil
        case ht15 => (simp only [List.getElem?_toArray, List.getElem?_cons_zero, List.getElem?_cons_succ]; rfl)
        case st15 =>
          intro K hK
          go_simp
          obtain ⟨uq9, huq10⟩ : ∃ z, z = uq2.alloc (.cells #[.int .i64 k, .int .i64 p] 78) := ⟨_, rfl⟩
          have Nq14 : Hid (Blk uq9 uq2.heap.size 78 #[.int .i64 k, .int .i64 p]) := Lib.hid (by rw [huq10]; exact Blk.new _ _ _)
          rw [← huq10]
          have hbq11 : Below uq2.heap.size uq2 uq9 := by rw [huq10]; exact (Below.refl _ uq2).alloc (Nat.le_refl _) _
          have NEq15 : Hid (vs.ownBlock ≠ some uq2.heap.size) := Lib.hid (fun e => Nat.lt_irrefl _ (Rq4.out.stR.lt _ e).2)
          have Rq12 := Lib.hid (Rq4.out.then hbq11)
          have Tq13 := Lib.hid (Tq5.out.below hbq11 Tq5.out.lt)
          have Kq16 := Lib.hid (below_then Kq8.out hbq11 Kq8.out.size)
          clear huq10 hbq11
          refine hK.out _ _ (two_cells Tq13.out) (fun ht16 => ?_)
          clear hK K
          try simp only [Act.put, List.setIfInBounds_toArray, List.set_cons_zero, List.set_cons_succ]
          refine wpAnyH_ready (rs := [10]) (by kernel_rfl) (by simp) ?_
          refine AllReadyH.cons (o := ?ot17) ?ht17 ?st17 AllReadyH.nil
          case ht17 => (simp only [List.getElem?_toArray, List.getElem?_cons_zero, List.getElem?_cons_succ]; rfl)
          case st17 =>
            intro K hK
            go_simp
            refine (ins_any _ w0.heap.size vs st.length (st.flatMap stV) Rq12.out.stR (stV_one st) I hIl (by omega) _ (.int .i64 k) (.int .i64 p) Nq14.out NEq15.out rfl rfl Rq12.out.below.size).mono ?_
            rintro eq18 uq17 ⟨v', rfl, hwq19, hgq20, hlq21⟩
            obtain ⟨Aq24, cq25, rfl⟩ := own_slice hwq19
            rw [HD.out] at hwq19
            have Bq22 := Lib.hid (Rq12.out.blk.grown hgq20 (fun e => own_blk_ne Rq12.out.stR Rq12.out.blk (by decide) e.symm))
            have Tq23 := Lib.hid (Tq13.out.grown hgq20 (fun e => HNS.out e.symm))
            have Hhwq19 := Lib.hid hwq19
            have Hhgq20 := Lib.hid hgq20
            have Hhlq21 := Lib.hid hlq21
            clear hwq19 hgq20 hlq21
            go_wp2_with fail
            refine hK.out _ _ (two_cells Tq23.out) (fun ht18 => ?_)
            clear hK K
            try simp only [Act.put, List.setIfInBounds_toArray, List.set_cons_zero, List.set_cons_succ]
            refine wpAnyH_take (i := 11) (oi := ?oit1911) (v := ?vt1911) ?hit1911 (by kernel_rfl) (by kernel_rfl) (by kernel_rfl) ?hQt1911 (Or.inl ⟨?hwt1911, ?hyt1911⟩) (by assumption) ?restt1911
            case hit1911 => (first | (simp only [List.getElem?_toArray, List.getElem?_cons_zero, List.getElem?_cons_succ]; rfl) | rfl)
            case hQt1911 => exact fun _ _ _ h => h
            case hwt1911 => rfl
            case hyt1911 => ((intro w hSw; go_simp); first | done | with_reducible rfl)
            try simp only [Act.put, List.setIfInBounds_toArray, List.set_cons_zero, List.set_cons_succ]
            refine wpAnyH_take (i := 12) (oi := ?oit2012) (v := ?vt2012) ?hit2012 (by kernel_rfl) (by kernel_rfl) (by kernel_rfl) ?hQt2012 (Or.inl ⟨?hwt2012, ?hyt2012⟩) (by assumption) ?restt2012
            case hit2012 => (first | (simp only [List.getElem?_toArray, List.getElem?_cons_zero, List.getElem?_cons_succ]; rfl) | rfl)
            case hQt2012 => exact fun _ _ _ h => h
            case hwt2012 => rfl
            case hyt2012 => ((intro w hSw; go_simp); first | done | with_reducible rfl)
            try simp only [Act.put, List.setIfInBounds_toArray, List.set_cons_zero, List.set_cons_succ]
            refine wpAnyH_ready (rs := [13]) (by kernel_rfl) (by simp) ?_
            refine AllReadyH.cons (o := ?ot21) ?ht21 ?st21 AllReadyH.nil
            case ht21 => (simp only [List.getElem?_toArray, List.getElem?_cons_zero, List.getElem?_cons_succ]; rfl)
            case st21 =>
              intro K hK
              have yq26 : uq17.cell? ⟨r, 4, none⟩ = some vs := by have := Bq22.out.cell 4; simpa using this
              have zq27 := Bq22.out.frozen 4
              go_simp
              clear yq26 zq27
              have Fq28 := Lib.hid (Rq12.out.setSt (st' := addS st (k, p)) (vs' := (.slice Aq24 (st.length + 1) cq25)) (w2 := uq17) (by rw [HL.out]; exact Hhwq19.out) Hhgq20.out (by rw [HL.out]; omega) HF.out)
              have Tq29 := Lib.hid (Tq23.out.far (p := ⟨r, 4, none⟩) HNR.out (.slice Aq24 (st.length + 1) cq25))
              have Kq30 := Lib.hid (StStep.set (r := r) Kq16.out Hhgq20.out Hhlq21.out)
              refine hK.out _ _ (two_cells Tq29.out) (fun ht22 => ?_)
              clear hK K
              try simp only [Act.put, List.setIfInBounds_toArray, List.set_cons_zero, List.set_cons_succ]
              refine wpAnyH_done (by kernel_rfl) ?_ _
              go_wp2_with fail
              go_end0
              exact ⟨rfl, _, Fq28.out, Kq30.out⟩
      case st13 =>
        intro K hK
        go_simp
        obtain ⟨uq31, huq32⟩ : ∃ z, z = u0.alloc (.cells #[.int .i64 k, .int .i64 p] 78) := ⟨_, rfl⟩
        have Nq36 : Hid (Blk uq31 u0.heap.size 78 #[.int .i64 k, .int .i64 p]) := Lib.hid (by rw [huq32]; exact Blk.new _ _ _)
        rw [← huq32]
        have hbq33 : Below u0.heap.size u0 uq31 := by rw [huq32]; exact (Below.refl _ u0).alloc (Nat.le_refl _) _
        have NEq37 : Hid (vs.ownBlock ≠ some u0.heap.size) := Lib.hid (fun e => Nat.lt_irrefl _ (HR0.out.stR.lt _ e).2)
        have Rq34 := Lib.hid (HR0.out.then hbq33)
        have Tq35 := Lib.hid (HST0.out.below hbq33 HST0.out.lt)
        have Kq38 := Lib.hid (below_then HK0.out hbq33 HK0.out.size)
        clear huq32 hbq33
        refine hK.out _ _ (two_cells Tq35.out) (fun ht23 => ?_)
        clear hK K
        try simp only [Act.put, List.setIfInBounds_toArray, List.set_cons_zero, List.set_cons_succ]
        refine wpAnyH_ready (rs := [7]) (by kernel_rfl) (by simp) ?_
        refine AllReadyH.cons (o := ?ot24) ?ht24 ?st24 AllReadyH.nil
        case ht24 => (simp only [List.getElem?_toArray, List.getElem?_cons_zero, List.getElem?_cons_succ]; rfl)
        case st24 =>
          intro K hK
          go_simp
          refine (find_any w0 _ r b ⟨va, vb, vc, vs, Rq34.out⟩ HSO.out (k, p)).mono ?_
          rintro eq44 uq39 ⟨rfl, hq40⟩
          rw [← HI.out]
          have Rq41 := Lib.hid (Rq34.out.then hq40)
          have Tq42 := Lib.hid (Tq35.out.below hq40 Tq35.out.lt)
          have Kq45 := Lib.hid (below_then Kq38.out hq40 Kq38.out.size)
          have Nq43 := Lib.hid (Nq36.out.below hq40 Nq36.out.lt)
          clear hq40
          go_wp2_with fail
          refine hK.out _ _ (two_cells Tq42.out) (fun ht25 => ?_)
          clear hK K
          try simp only [Act.put, List.setIfInBounds_toArray, List.set_cons_zero, List.set_cons_succ]
          refine wpAnyH_ready (rs := [10]) (by kernel_rfl) (by simp) ?_
          refine AllReadyH.cons (o := ?ot26) ?ht26 ?st26 AllReadyH.nil
          case ht26 => (simp only [List.getElem?_toArray, List.getElem?_cons_zero, List.getElem?_cons_succ]; rfl)
          case st26 =>
            intro K hK
            go_simp
            refine (ins_any _ w0.heap.size vs st.length (st.flatMap stV) Rq41.out.stR (stV_one st) I hIl (by omega) _ (.int .i64 k) (.int .i64 p) Nq43.out NEq37.out rfl rfl Rq41.out.below.size).mono ?_
            rintro eq47 uq46 ⟨v', rfl, hwq48, hgq49, hlq50⟩
            obtain ⟨Aq53, cq54, rfl⟩ := own_slice hwq48
            rw [HD.out] at hwq48
            have Bq51 := Lib.hid (Rq41.out.blk.grown hgq49 (fun e => own_blk_ne Rq41.out.stR Rq41.out.blk (by decide) e.symm))
            have Tq52 := Lib.hid (Tq42.out.grown hgq49 (fun e => HNS.out e.symm))
            have Hhwq48 := Lib.hid hwq48
            have Hhgq49 := Lib.hid hgq49
            have Hhlq50 := Lib.hid hlq50
            clear hwq48 hgq49 hlq50
            go_wp2_with fail
            refine hK.out _ _ (two_cells Tq52.out) (fun ht27 => ?_)
            clear hK K
            try simp only [Act.put, List.setIfInBounds_toArray, List.set_cons_zero, List.set_cons_succ]
            refine wpAnyH_take (i := 11) (oi := ?oit2811) (v := ?vt2811) ?hit2811 (by kernel_rfl) (by kernel_rfl) (by kernel_rfl) ?hQt2811 (Or.inl ⟨?hwt2811, ?hyt2811⟩) (by assumption) ?restt2811
            case hit2811 => (first | (simp only [List.getElem?_toArray, List.getElem?_cons_zero, List.getElem?_cons_succ]; rfl) | rfl)
            case hQt2811 => exact fun _ _ _ h => h
            case hwt2811 => rfl
            case hyt2811 => ((intro w hSw; go_simp); first | done | with_reducible rfl)
            try simp only [Act.put, List.setIfInBounds_toArray, List.set_cons_zero, List.set_cons_succ]
            refine wpAnyH_take (i := 12) (oi := ?oit2912) (v := ?vt2912) ?hit2912 (by kernel_rfl) (by kernel_rfl) (by kernel_rfl) ?hQt2912 (Or.inl ⟨?hwt2912, ?hyt2912⟩) (by assumption) ?restt2912
            case hit2912 => (first | (simp only [List.getElem?_toArray, List.getElem?_cons_zero, List.getElem?_cons_succ]; rfl) | rfl)
            case hQt2912 => exact fun _ _ _ h => h
            case hwt2912 => rfl
            case hyt2912 => ((intro w hSw; go_simp); first | done | with_reducible rfl)
            try simp only [Act.put, List.setIfInBounds_toArray, List.set_cons_zero, List.set_cons_succ]
            refine wpAnyH_ready (rs := [13]) (by kernel_rfl) (by simp) ?_
            refine AllReadyH.cons (o := ?ot30) ?ht30 ?st30 AllReadyH.nil
            case ht30 => (simp only [List.getElem?_toArray, List.getElem?_cons_zero, List.getElem?_cons_succ]; rfl)
            case st30 =>
              intro K hK
              have yq55 : uq46.cell? ⟨r, 4, none⟩ = some vs := by have := Bq51.out.cell 4; simpa using this
              have zq56 := Bq51.out.frozen 4
              go_simp
              clear yq55 zq56
              have Fq57 := Lib.hid (Rq41.out.setSt (st' := addS st (k, p)) (vs' := (.slice Aq53 (st.length + 1) cq54)) (w2 := uq46) (by rw [HL.out]; exact Hhwq48.out) Hhgq49.out (by rw [HL.out]; omega) HF.out)
              have Tq58 := Lib.hid (Tq52.out.far (p := ⟨r, 4, none⟩) HNR.out (.slice Aq53 (st.length + 1) cq54))
              have Kq59 := Lib.hid (StStep.set (r := r) Kq45.out Hhgq49.out Hhlq50.out)
              refine hK.out _ _ (two_cells Tq58.out) (fun ht31 => ?_)
              clear hK K
              try simp only [Act.put, List.setIfInBounds_toArray, List.set_cons_zero, List.set_cons_succ]
              refine wpAnyH_done (by kernel_rfl) ?_ _
              go_wp2_with fail
              go_end0
              exact ⟨rfl, _, Fq57.out, Kq59.out⟩
    case st9 =>
      intro K hK
      go_simp
      refine (find_any w0 _ r b ⟨va, vb, vc, vs, HR0.out⟩ HSO.out (k, p)).mono ?_
      rintro eq65 uq60 ⟨rfl, hq61⟩
      rw [← HI.out]
      have Rq62 := Lib.hid (HR0.out.then hq61)
      have Tq63 := Lib.hid (HST0.out.below hq61 HST0.out.lt)
      have Kq66 := Lib.hid (below_then HK0.out hq61 HK0.out.size)
      clear hq61
      go_wp2_with fail
      refine hK.out _ _ (two_cells Tq63.out) (fun ht32 => ?_)
      clear hK K
      try simp only [Act.put, List.setIfInBounds_toArray, List.set_cons_zero, List.set_cons_succ]
      refine wpAnyH_ready (rs := [4, 9]) (by kernel_rfl) (by simp) ?_
      refine AllReadyH.cons (o := ?ot33) ?ht33 ?st33 (AllReadyH.cons (o := ?ot34) ?ht34 ?st34 AllReadyH.nil)
      case ht33 => (simp only [List.getElem?_toArray, List.getElem?_cons_zero, List.getElem?_cons_succ]; rfl)
      case ht34 => (simp only [List.getElem?_toArray, List.getElem?_cons_zero, List.getElem?_cons_succ]; rfl)
      case st33 =>
        intro K hK
        have yq67 : uq60.cell? ⟨r, 4, none⟩ = some vs := by have := Rq62.out.blk.cell 4; simpa using this
        go_simp
        clear yq67
        refine hK.out _ _ (two_cells Tq63.out) (fun ht35 => ?_)
        clear hK K
        try simp only [Act.put, List.setIfInBounds_toArray, List.set_cons_zero, List.set_cons_succ]
        refine wpAnyH_ready (rs := [9]) (by kernel_rfl) (by simp) ?_
        refine AllReadyH.cons (o := ?ot36) ?ht36 ?st36 AllReadyH.nil
        case ht36 => (simp only [List.getElem?_toArray, List.getElem?_cons_zero, List.getElem?_cons_succ]; rfl)
        case st36 =>
          intro K hK
          go_simp
          obtain ⟨uq68, huq69⟩ : ∃ z, z = uq60.alloc (.cells #[.int .i64 k, .int .i64 p] 78) := ⟨_, rfl⟩
          have Nq73 : Hid (Blk uq68 uq60.heap.size 78 #[.int .i64 k, .int .i64 p]) := Lib.hid (by rw [huq69]; exact Blk.new _ _ _)
          rw [← huq69]
          have hbq70 : Below uq60.heap.size uq60 uq68 := by rw [huq69]; exact (Below.refl _ uq60).alloc (Nat.le_refl _) _
          have NEq74 : Hid (vs.ownBlock ≠ some uq60.heap.size) := Lib.hid (fun e => Nat.lt_irrefl _ (Rq62.out.stR.lt _ e).2)
          have Rq71 := Lib.hid (Rq62.out.then hbq70)
          have Tq72 := Lib.hid (Tq63.out.below hbq70 Tq63.out.lt)
          have Kq75 := Lib.hid (below_then Kq66.out hbq70 Kq66.out.size)
          clear huq69 hbq70
          refine hK.out _ _ (two_cells Tq72.out) (fun ht37 => ?_)
          clear hK K
          try simp only [Act.put, List.setIfInBounds_toArray, List.set_cons_zero, List.set_cons_succ]
          refine wpAnyH_ready (rs := [10]) (by kernel_rfl) (by simp) ?_
          refine AllReadyH.cons (o := ?ot38) ?ht38 ?st38 AllReadyH.nil
          case ht38 => (simp only [List.getElem?_toArray, List.getElem?_cons_zero, List.getElem?_cons_succ]; rfl)
          case st38 =>
            intro K hK
            go_simp
            refine (ins_any _ w0.heap.size vs st.length (st.flatMap stV) Rq71.out.stR (stV_one st) I hIl (by omega) _ (.int .i64 k) (.int .i64 p) Nq73.out NEq74.out rfl rfl Rq71.out.below.size).mono ?_
            rintro eq77 uq76 ⟨v', rfl, hwq78, hgq79, hlq80⟩
            obtain ⟨Aq83, cq84, rfl⟩ := own_slice hwq78
            rw [HD.out] at hwq78
            have Bq81 := Lib.hid (Rq71.out.blk.grown hgq79 (fun e => own_blk_ne Rq71.out.stR Rq71.out.blk (by decide) e.symm))
            have Tq82 := Lib.hid (Tq72.out.grown hgq79 (fun e => HNS.out e.symm))
            have Hhwq78 := Lib.hid hwq78
            have Hhgq79 := Lib.hid hgq79
            have Hhlq80 := Lib.hid hlq80
            clear hwq78 hgq79 hlq80
            go_wp2_with fail
            refine hK.out _ _ (two_cells Tq82.out) (fun ht39 => ?_)
            clear hK K
            try simp only [Act.put, List.setIfInBounds_toArray, List.set_cons_zero, List.set_cons_succ]
            refine wpAnyH_take (i := 11) (oi := ?oit4011) (v := ?vt4011) ?hit4011 (by kernel_rfl) (by kernel_rfl) (by kernel_rfl) ?hQt4011 (Or.inl ⟨?hwt4011, ?hyt4011⟩) (by assumption) ?restt4011
            case hit4011 => (first | (simp only [List.getElem?_toArray, List.getElem?_cons_zero, List.getElem?_cons_succ]; rfl) | rfl)
            case hQt4011 => exact fun _ _ _ h => h
            case hwt4011 => rfl
            case hyt4011 => ((intro w hSw; go_simp); first | done | with_reducible rfl)
            try simp only [Act.put, List.setIfInBounds_toArray, List.set_cons_zero, List.set_cons_succ]
            refine wpAnyH_take (i := 12) (oi := ?oit4112) (v := ?vt4112) ?hit4112 (by kernel_rfl) (by kernel_rfl) (by kernel_rfl) ?hQt4112 (Or.inl ⟨?hwt4112, ?hyt4112⟩) (by assumption) ?restt4112
            case hit4112 => (first | (simp only [List.getElem?_toArray, List.getElem?_cons_zero, List.getElem?_cons_succ]; rfl) | rfl)
            case hQt4112 => exact fun _ _ _ h => h
            case hwt4112 => rfl
            case hyt4112 => ((intro w hSw; go_simp); first | done | with_reducible rfl)
            try simp only [Act.put, List.setIfInBounds_toArray, List.set_cons_zero, List.set_cons_succ]
            refine wpAnyH_ready (rs := [13]) (by kernel_rfl) (by simp) ?_
            refine AllReadyH.cons (o := ?ot42) ?ht42 ?st42 AllReadyH.nil
            case ht42 => (simp only [List.getElem?_toArray, List.getElem?_cons_zero, List.getElem?_cons_succ]; rfl)
            case st42 =>
              intro K hK
              have yq85 : uq76.cell? ⟨r, 4, none⟩ = some vs := by have := Bq81.out.cell 4; simpa using this
              have zq86 := Bq81.out.frozen 4
              go_simp
              clear yq85 zq86
              have Fq87 := Lib.hid (Rq71.out.setSt (st' := addS st (k, p)) (vs' := (.slice Aq83 (st.length + 1) cq84)) (w2 := uq76) (by rw [HL.out]; exact Hhwq78.out) Hhgq79.out (by rw [HL.out]; omega) HF.out)
              have Tq88 := Lib.hid (Tq82.out.far (p := ⟨r, 4, none⟩) HNR.out (.slice Aq83 (st.length + 1) cq84))
              have Kq89 := Lib.hid (StStep.set (r := r) Kq75.out Hhgq79.out Hhlq80.out)
              refine hK.out _ _ (two_cells Tq88.out) (fun ht43 => ?_)
              clear hK K
              try simp only [Act.put, List.setIfInBounds_toArray, List.set_cons_zero, List.set_cons_succ]
              refine wpAnyH_done (by kernel_rfl) ?_ _
              go_wp2_with fail
              go_end0
              exact ⟨rfl, _, Fq87.out, Kq89.out⟩
      case st34 =>
        intro K hK
        go_simp
        obtain ⟨uq90, huq91⟩ : ∃ z, z = uq60.alloc (.cells #[.int .i64 k, .int .i64 p] 78) := ⟨_, rfl⟩
        have Nq95 : Hid (Blk uq90 uq60.heap.size 78 #[.int .i64 k, .int .i64 p]) := Lib.hid (by rw [huq91]; exact Blk.new _ _ _)
        rw [← huq91]
        have hbq92 : Below uq60.heap.size uq60 uq90 := by rw [huq91]; exact (Below.refl _ uq60).alloc (Nat.le_refl _) _
        have NEq96 : Hid (vs.ownBlock ≠ some uq60.heap.size) := Lib.hid (fun e => Nat.lt_irrefl _ (Rq62.out.stR.lt _ e).2)
        have Rq93 := Lib.hid (Rq62.out.then hbq92)
        have Tq94 := Lib.hid (Tq63.out.below hbq92 Tq63.out.lt)
        have Kq97 := Lib.hid (below_then Kq66.out hbq92 Kq66.out.size)
        clear huq91 hbq92
        refine hK.out _ _ (two_cells Tq94.out) (fun ht44 => ?_)
        clear hK K
        try simp only [Act.put, List.setIfInBounds_toArray, List.set_cons_zero, List.set_cons_succ]
        refine wpAnyH_ready (rs := [4]) (by kernel_rfl) (by simp) ?_
        refine AllReadyH.cons (o := ?ot45) ?ht45 ?st45 AllReadyH.nil
        case ht45 => (simp only [List.getElem?_toArray, List.getElem?_cons_zero, List.getElem?_cons_succ]; rfl)
        case st45 =>
          intro K hK
          have yq98 : uq90.cell? ⟨r, 4, none⟩ = some vs := by have := Rq93.out.blk.cell 4; simpa using this
          go_simp
          clear yq98
          refine hK.out _ _ (two_cells Tq94.out) (fun ht46 => ?_)
          clear hK K
          try simp only [Act.put, List.setIfInBounds_toArray, List.set_cons_zero, List.set_cons_succ]
          refine wpAnyH_ready (rs := [10]) (by kernel_rfl) (by simp) ?_
          refine AllReadyH.cons (o := ?ot47) ?ht47 ?st47 AllReadyH.nil
          case ht47 => (simp only [List.getElem?_toArray, List.getElem?_cons_zero, List.getElem?_cons_succ]; rfl)
          case st47 =>
            intro K hK
            go_simp
            refine (ins_any _ w0.heap.size vs st.length (st.flatMap stV) Rq93.out.stR (stV_one st) I hIl (by omega) _ (.int .i64 k) (.int .i64 p) Nq95.out NEq96.out rfl rfl Rq93.out.below.size).mono ?_
            rintro eq100 uq99 ⟨v', rfl, hwq101, hgq102, hlq103⟩
            obtain ⟨Aq106, cq107, rfl⟩ := own_slice hwq101
            rw [HD.out] at hwq101
            have Bq104 := Lib.hid (Rq93.out.blk.grown hgq102 (fun e => own_blk_ne Rq93.out.stR Rq93.out.blk (by decide) e.symm))
            have Tq105 := Lib.hid (Tq94.out.grown hgq102 (fun e => HNS.out e.symm))
            have Hhwq101 := Lib.hid hwq101
            have Hhgq102 := Lib.hid hgq102
            have Hhlq103 := Lib.hid hlq103
            clear hwq101 hgq102 hlq103
            go_wp2_with fail
            refine hK.out _ _ (two_cells Tq105.out) (fun ht48 => ?_)
            clear hK K
            try simp only [Act.put, List.setIfInBounds_toArray, List.set_cons_zero, List.set_cons_succ]
            refine wpAnyH_take (i := 11) (oi := ?oit4911) (v := ?vt4911) ?hit4911 (by kernel_rfl) (by kernel_rfl) (by kernel_rfl) ?hQt4911 (Or.inl ⟨?hwt4911, ?hyt4911⟩) (by assumption) ?restt4911
            case hit4911 => (first | (simp only [List.getElem?_toArray, List.getElem?_cons_zero, List.getElem?_cons_succ]; rfl) | rfl)
            case hQt4911 => exact fun _ _ _ h => h
            case hwt4911 => rfl
            case hyt4911 => ((intro w hSw; go_simp); first | done | with_reducible rfl)
            try simp only [Act.put, List.setIfInBounds_toArray, List.set_cons_zero, List.set_cons_succ]
            refine wpAnyH_take (i := 12) (oi := ?oit5012) (v := ?vt5012) ?hit5012 (by kernel_rfl) (by kernel_rfl) (by kernel_rfl) ?hQt5012 (Or.inl ⟨?hwt5012, ?hyt5012⟩) (by assumption) ?restt5012
            case hit5012 => (first | (simp only [List.getElem?_toArray, List.getElem?_cons_zero, List.getElem?_cons_succ]; rfl) | rfl)
            case hQt5012 => exact fun _ _ _ h => h
            case hwt5012 => rfl
            case hyt5012 => ((intro w hSw; go_simp); first | done | with_reducible rfl)
            try simp only [Act.put, List.setIfInBounds_toArray, List.set_cons_zero, List.set_cons_succ]
            refine wpAnyH_ready (rs := [13]) (by kernel_rfl) (by simp) ?_
            refine AllReadyH.cons (o := ?ot51) ?ht51 ?st51 AllReadyH.nil
            case ht51 => (simp only [List.getElem?_toArray, List.getElem?_cons_zero, List.getElem?_cons_succ]; rfl)
            case st51 =>
              intro K hK
              have yq108 : uq99.cell? ⟨r, 4, none⟩ = some vs := by have := Bq104.out.cell 4; simpa using this
              have zq109 := Bq104.out.frozen 4
              go_simp
              clear yq108 zq109
              have Fq110 := Lib.hid (Rq93.out.setSt (st' := addS st (k, p)) (vs' := (.slice Aq106 (st.length + 1) cq107)) (w2 := uq99) (by rw [HL.out]; exact Hhwq101.out) Hhgq102.out (by rw [HL.out]; omega) HF.out)
              have Tq111 := Lib.hid (Tq105.out.far (p := ⟨r, 4, none⟩) HNR.out (.slice Aq106 (st.length + 1) cq107))
              have Kq112 := Lib.hid (StStep.set (r := r) Kq97.out Hhgq102.out Hhlq103.out)
              refine hK.out _ _ (two_cells Tq111.out) (fun ht52 => ?_)
              clear hK K
              try simp only [Act.put, List.setIfInBounds_toArray, List.set_cons_zero, List.set_cons_succ]
              refine wpAnyH_done (by kernel_rfl) ?_ _
              go_wp2_with fail
              go_end0
              exact ⟨rfl, _, Fq110.out, Kq112.out⟩
    case st10 =>
      intro K hK
      go_simp
      obtain ⟨uq113, huq114⟩ : ∃ z, z = u0.alloc (.cells #[.int .i64 k, .int .i64 p] 78) := ⟨_, rfl⟩
      have Nq118 : Hid (Blk uq113 u0.heap.size 78 #[.int .i64 k, .int .i64 p]) := Lib.hid (by rw [huq114]; exact Blk.new _ _ _)
      rw [← huq114]
      have hbq115 : Below u0.heap.size u0 uq113 := by rw [huq114]; exact (Below.refl _ u0).alloc (Nat.le_refl _) _
      have NEq119 : Hid (vs.ownBlock ≠ some u0.heap.size) := Lib.hid (fun e => Nat.lt_irrefl _ (HR0.out.stR.lt _ e).2)
      have Rq116 := Lib.hid (HR0.out.then hbq115)
      have Tq117 := Lib.hid (HST0.out.below hbq115 HST0.out.lt)
      have Kq120 := Lib.hid (below_then HK0.out hbq115 HK0.out.size)
      clear huq114 hbq115
      refine hK.out _ _ (two_cells Tq117.out) (fun ht53 => ?_)
      clear hK K
      try simp only [Act.put, List.setIfInBounds_toArray, List.set_cons_zero, List.set_cons_succ]
      refine wpAnyH_ready (rs := [4, 7]) (by kernel_rfl) (by simp) ?_
      refine AllReadyH.cons (o := ?ot54) ?ht54 ?st54 (AllReadyH.cons (o := ?ot55) ?ht55 ?st55 AllReadyH.nil)
      case ht54 => (simp only [List.getElem?_toArray, List.getElem?_cons_zero, List.getElem?_cons_succ]; rfl)
      case ht55 => (simp only [List.getElem?_toArray, List.getElem?_cons_zero, List.getElem?_cons_succ]; rfl)
      case st54 =>
        intro K hK
        have yq121 : uq113.cell? ⟨r, 4, none⟩ = some vs := by have := Rq116.out.blk.cell 4; simpa using this
        go_simp
        clear yq121
        refine hK.out _ _ (two_cells Tq117.out) (fun ht56 => ?_)
        clear hK K
        try simp only [Act.put, List.setIfInBounds_toArray, List.set_cons_zero, List.set_cons_succ]
        refine wpAnyH_ready (rs := [7]) (by kernel_rfl) (by simp) ?_
        refine AllReadyH.cons (o := ?ot57) ?ht57 ?st57 AllReadyH.nil
        case ht57 => (simp only [List.getElem?_toArray, List.getElem?_cons_zero, List.getElem?_cons_succ]; rfl)
        case st57 =>
          intro K hK
          go_simp
          refine (find_any w0 _ r b ⟨va, vb, vc, vs, Rq116.out⟩ HSO.out (k, p)).mono ?_
          rintro eq127 uq122 ⟨rfl, hq123⟩
          rw [← HI.out]
          have Rq124 := Lib.hid (Rq116.out.then hq123)
          have Tq125 := Lib.hid (Tq117.out.below hq123 Tq117.out.lt)
          have Kq128 := Lib.hid (below_then Kq120.out hq123 Kq120.out.size)
          have Nq126 := Lib.hid (Nq118.out.below hq123 Nq118.out.lt)
          clear hq123
          go_wp2_with fail
          refine hK.out _ _ (two_cells Tq125.out) (fun ht58 => ?_)
          clear hK K
          try simp only [Act.put, List.setIfInBounds_toArray, List.set_cons_zero, List.set_cons_succ]
          refine wpAnyH_ready (rs := [10]) (by kernel_rfl) (by simp) ?_
          refine AllReadyH.cons (o := ?ot59) ?ht59 ?st59 AllReadyH.nil
          case ht59 => (simp only [List.getElem?_toArray, List.getElem?_cons_zero, List.getElem?_cons_succ]; rfl)
          case st59 =>
            intro K hK
            go_simp
            refine (ins_any _ w0.heap.size vs st.length (st.flatMap stV) Rq124.out.stR (stV_one st) I hIl (by omega) _ (.int .i64 k) (.int .i64 p) Nq126.out NEq119.out rfl rfl Rq124.out.below.size).mono ?_
            rintro eq130 uq129 ⟨v', rfl, hwq131, hgq132, hlq133⟩
            obtain ⟨Aq136, cq137, rfl⟩ := own_slice hwq131
            rw [HD.out] at hwq131
            have Bq134 := Lib.hid (Rq124.out.blk.grown hgq132 (fun e => own_blk_ne Rq124.out.stR Rq124.out.blk (by decide) e.symm))
            have Tq135 := Lib.hid (Tq125.out.grown hgq132 (fun e => HNS.out e.symm))
            have Hhwq131 := Lib.hid hwq131
            have Hhgq132 := Lib.hid hgq132
            have Hhlq133 := Lib.hid hlq133
            clear hwq131 hgq132 hlq133
            go_wp2_with fail
            refine hK.out _ _ (two_cells Tq135.out) (fun ht60 => ?_)
            clear hK K
            try simp only [Act.put, List.setIfInBounds_toArray, List.set_cons_zero, List.set_cons_succ]
            refine wpAnyH_take (i := 11) (oi := ?oit6111) (v := ?vt6111) ?hit6111 (by kernel_rfl) (by kernel_rfl) (by kernel_rfl) ?hQt6111 (Or.inl ⟨?hwt6111, ?hyt6111⟩) (by assumption) ?restt6111
            case hit6111 => (first | (simp only [List.getElem?_toArray, List.getElem?_cons_zero, List.getElem?_cons_succ]; rfl) | rfl)
            case hQt6111 => exact fun _ _ _ h => h
            case hwt6111 => rfl
            case hyt6111 => ((intro w hSw; go_simp); first | done | with_reducible rfl)
            try simp only [Act.put, List.setIfInBounds_toArray, List.set_cons_zero, List.set_cons_succ]
            refine wpAnyH_take (i := 12) (oi := ?oit6212) (v := ?vt6212) ?hit6212 (by kernel_rfl) (by kernel_rfl) (by kernel_rfl) ?hQt6212 (Or.inl ⟨?hwt6212, ?hyt6212⟩) (by assumption) ?restt6212
            case hit6212 => (first | (simp only [List.getElem?_toArray, List.getElem?_cons_zero, List.getElem?_cons_succ]; rfl) | rfl)
            case hQt6212 => exact fun _ _ _ h => h
            case hwt6212 => rfl
            case hyt6212 => ((intro w hSw; go_simp); first | done | with_reducible rfl)
            try simp only [Act.put, List.setIfInBounds_toArray, List.set_cons_zero, List.set_cons_succ]
            refine wpAnyH_ready (rs := [13]) (by kernel_rfl) (by simp) ?_
            refine AllReadyH.cons (o := ?ot63) ?ht63 ?st63 AllReadyH.nil
            case ht63 => (simp only [List.getElem?_toArray, List.getElem?_cons_zero, List.getElem?_cons_succ]; rfl)
            case st63 =>
              intro K hK
              have yq138 : uq129.cell? ⟨r, 4, none⟩ = some vs := by have := Bq134.out.cell 4; simpa using this
              have zq139 := Bq134.out.frozen 4
              go_simp
              clear yq138 zq139
              have Fq140 := Lib.hid (Rq124.out.setSt (st' := addS st (k, p)) (vs' := (.slice Aq136 (st.length + 1) cq137)) (w2 := uq129) (by rw [HL.out]; exact Hhwq131.out) Hhgq132.out (by rw [HL.out]; omega) HF.out)
              have Tq141 := Lib.hid (Tq135.out.far (p := ⟨r, 4, none⟩) HNR.out (.slice Aq136 (st.length + 1) cq137))
              have Kq142 := Lib.hid (StStep.set (r := r) Kq128.out Hhgq132.out Hhlq133.out)
              refine hK.out _ _ (two_cells Tq141.out) (fun ht64 => ?_)
              clear hK K
              try simp only [Act.put, List.setIfInBounds_toArray, List.set_cons_zero, List.set_cons_succ]
              refine wpAnyH_done (by kernel_rfl) ?_ _
              go_wp2_with fail
              go_end0
              exact ⟨rfl, _, Fq140.out, Kq142.out⟩
      case st55 =>
        intro K hK
        go_simp
        refine (find_any w0 _ r b ⟨va, vb, vc, vs, Rq116.out⟩ HSO.out (k, p)).mono ?_
        rintro eq148 uq143 ⟨rfl, hq144⟩
        rw [← HI.out]
        have Rq145 := Lib.hid (Rq116.out.then hq144)
        have Tq146 := Lib.hid (Tq117.out.below hq144 Tq117.out.lt)
        have Kq149 := Lib.hid (below_then Kq120.out hq144 Kq120.out.size)
        have Nq147 := Lib.hid (Nq118.out.below hq144 Nq118.out.lt)
        clear hq144
        go_wp2_with fail
        refine hK.out _ _ (two_cells Tq146.out) (fun ht65 => ?_)
        clear hK K
        try simp only [Act.put, List.setIfInBounds_toArray, List.set_cons_zero, List.set_cons_succ]
        refine wpAnyH_ready (rs := [4]) (by kernel_rfl) (by simp) ?_
        refine AllReadyH.cons (o := ?ot66) ?ht66 ?st66 AllReadyH.nil
        case ht66 => (simp only [List.getElem?_toArray, List.getElem?_cons_zero, List.getElem?_cons_succ]; rfl)
        case st66 =>
          intro K hK
          have yq150 : uq143.cell? ⟨r, 4, none⟩ = some vs := by have := Rq145.out.blk.cell 4; simpa using this
          go_simp
          clear yq150
          refine hK.out _ _ (two_cells Tq146.out) (fun ht67 => ?_)
          clear hK K
          try simp only [Act.put, List.setIfInBounds_toArray, List.set_cons_zero, List.set_cons_succ]
          refine wpAnyH_ready (rs := [10]) (by kernel_rfl) (by simp) ?_
          refine AllReadyH.cons (o := ?ot68) ?ht68 ?st68 AllReadyH.nil
          case ht68 => (simp only [List.getElem?_toArray, List.getElem?_cons_zero, List.getElem?_cons_succ]; rfl)
          case st68 =>
            intro K hK
            go_simp
            refine (ins_any _ w0.heap.size vs st.length (st.flatMap stV) Rq145.out.stR (stV_one st) I hIl (by omega) _ (.int .i64 k) (.int .i64 p) Nq147.out NEq119.out rfl rfl Rq145.out.below.size).mono ?_
            rintro eq152 uq151 ⟨v', rfl, hwq153, hgq154, hlq155⟩
            obtain ⟨Aq158, cq159, rfl⟩ := own_slice hwq153
            rw [HD.out] at hwq153
            have Bq156 := Lib.hid (Rq145.out.blk.grown hgq154 (fun e => own_blk_ne Rq145.out.stR Rq145.out.blk (by decide) e.symm))
            have Tq157 := Lib.hid (Tq146.out.grown hgq154 (fun e => HNS.out e.symm))
            have Hhwq153 := Lib.hid hwq153
            have Hhgq154 := Lib.hid hgq154
            have Hhlq155 := Lib.hid hlq155
            clear hwq153 hgq154 hlq155
            go_wp2_with fail
            refine hK.out _ _ (two_cells Tq157.out) (fun ht69 => ?_)
            clear hK K
            try simp only [Act.put, List.setIfInBounds_toArray, List.set_cons_zero, List.set_cons_succ]
            refine wpAnyH_take (i := 11) (oi := ?oit7011) (v := ?vt7011) ?hit7011 (by kernel_rfl) (by kernel_rfl) (by kernel_rfl) ?hQt7011 (Or.inl ⟨?hwt7011, ?hyt7011⟩) (by assumption) ?restt7011
            case hit7011 => (first | (simp only [List.getElem?_toArray, List.getElem?_cons_zero, List.getElem?_cons_succ]; rfl) | rfl)
            case hQt7011 => exact fun _ _ _ h => h
            case hwt7011 => rfl
            case hyt7011 => ((intro w hSw; go_simp); first | done | with_reducible rfl)
            try simp only [Act.put, List.setIfInBounds_toArray, List.set_cons_zero, List.set_cons_succ]
            refine wpAnyH_take (i := 12) (oi := ?oit7112) (v := ?vt7112) ?hit7112 (by kernel_rfl) (by kernel_rfl) (by kernel_rfl) ?hQt7112 (Or.inl ⟨?hwt7112, ?hyt7112⟩) (by assumption) ?restt7112
            case hit7112 => (first | (simp only [List.getElem?_toArray, List.getElem?_cons_zero, List.getElem?_cons_succ]; rfl) | rfl)
            case hQt7112 => exact fun _ _ _ h => h
            case hwt7112 => rfl
            case hyt7112 => ((intro w hSw; go_simp); first | done | with_reducible rfl)
            try simp only [Act.put, List.setIfInBounds_toArray, List.set_cons_zero, List.set_cons_succ]
            refine wpAnyH_ready (rs := [13]) (by kernel_rfl) (by simp) ?_
            refine AllReadyH.cons (o := ?ot72) ?ht72 ?st72 AllReadyH.nil
            case ht72 => (simp only [List.getElem?_toArray, List.getElem?_cons_zero, List.getElem?_cons_succ]; rfl)
            case st72 =>
              intro K hK
              have yq160 : uq151.cell? ⟨r, 4, none⟩ = some vs := by have := Bq156.out.cell 4; simpa using this
              have zq161 := Bq156.out.frozen 4
              go_simp
              clear yq160 zq161
              have Fq162 := Lib.hid (Rq145.out.setSt (st' := addS st (k, p)) (vs' := (.slice Aq158 (st.length + 1) cq159)) (w2 := uq151) (by rw [HL.out]; exact Hhwq153.out) Hhgq154.out (by rw [HL.out]; omega) HF.out)
              have Tq163 := Lib.hid (Tq157.out.far (p := ⟨r, 4, none⟩) HNR.out (.slice Aq158 (st.length + 1) cq159))
              have Kq164 := Lib.hid (StStep.set (r := r) Kq149.out Hhgq154.out Hhlq155.out)
              refine hK.out _ _ (two_cells Tq163.out) (fun ht73 => ?_)
              clear hK K
              try simp only [Act.put, List.setIfInBounds_toArray, List.set_cons_zero, List.set_cons_succ]
              refine wpAnyH_done (by kernel_rfl) ?_ _
              go_wp2_with fail
              go_end0
              exact ⟨rfl, _, Fq162.out, Kq164.out⟩
end Go.Proofs.Ytimbimnbaoaboaa
