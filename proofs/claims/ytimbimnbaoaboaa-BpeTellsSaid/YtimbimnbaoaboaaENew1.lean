/- The program's newRow: a text's bytes, and their steps. (Printed by mk/newrow.py.) -/
import Derived.Test.YtimbimnbaoaboaaEIns
import Derived.Test.YtimbimnbaoaboaaEMath
import Derived.Test.YtimbimnbaoaboaaEFind
import Derived.Test.YtimbimnbaoaboaaEAdd
namespace Go.Proofs.Ytimbimnbaoaboaa
open Go.RowKit Go.Maps Go.WideMaps
set_option linter.unusedSimpArgs false

/-- A row at first. -/
def NewOut (w : World) (b : Nat) (M : List Mg) (s : Nm) (e : Ending) (w' : World) : Prop :=
  ∃ r st, e = .returned (at0 r) ∧ Row w w' r b (bytesI s) (befI (s.length + 1)) (behI s.length) st ∧ StOK st (stepSet M (bytesI s) (List.range (s.length + 1))) ∧ st.length ≤ s.length
set_option maxHeartbeats 8000000 in
set_option maxRecDepth 100000 in
theorem newRow_any (w : World) (b : Nat) (V : Voc) (hC : Coder w b V) (A : Option Addr) (n c : Nat) (s : Nm) (hs : BytesIn w A n s) (hn : n ≤ 1000000) (hM : V.mer.length ≤ 1000000) :
    Calls Try.prog 23 #[at0 b, .slice A n c] w (NewOut w b V.mer s) := by
  obtain ⟨i0, hi, hz0, hz1, hz2⟩ := info_parts intInfo1
  obtain ⟨j0, hj0, hy0, hy1, hy2⟩ := info_parts stepInfo
  have hsl : s.length = n := by have := hs.2.1.len; simpa using this
  have hO := rowOK_init s
  rw [hsl] at hO
  obtain ⟨r, hr⟩ : ∃ r, r = w.heap.size := ⟨_, rfl⟩
  have hb1 : Below w.heap.size w (w.alloc (.cells #[at0 b, .slice none 0 0, .slice none 0 0, .slice none 0 0, .slice none 0 0] 65)) := (Below.refl _ w).alloc (Nat.le_refl _) _
  have hR1 : IsRow w (w.alloc (.cells #[at0 b, .slice none 0 0, .slice none 0 0, .slice none 0 0, .slice none 0 0] 65)) r b [] [] [] [] (.slice none 0 0) (.slice none 0 0) (.slice none 0 0) (.slice none 0 0) := {
    blk := by rw [hr]; exact Blk.new _ _ _
    new := by omega
    below := hb1
    atR := World.ownsRow_nil _ _ _ _
    befR := World.ownsRow_nil _ _ _ _
    behR := World.ownsRow_nil _ _ _ _
    stR := World.ownsRow_nil _ _ _ _
    nab := fun g h => by simp [Value.ownBlock] at h
    nac := fun g h => by simp [Value.ownBlock] at h
    nbc := fun g h => by simp [Value.ownBlock] at h
    fits := ⟨by simp, by simp, by simp⟩
    small := by simp
    stF := by simp }
  have HC := Lib.hid hC
  have HSB := Lib.hid hs
  have HSL := Lib.hid hsl
  have HO := Lib.hid hO
  have HR1 := Lib.hid hR1
  have HRR := Lib.hid hr
  clear hC hs hsl hO hb1 hR1
  unfold at0
  go_enter Try.func23, Try.ntmps23
  go_wp2_with fail
  rw [← hr]
  clear hr
  go_loopw [16] (fun i wr => ∃ (j : Nat) (va vb vc : Value), j ≤ n ∧ i = .int .i64 (j : Nat) ∧ IsRow w wr r b ((bytesI s).take j) (befI j) (behI j) [] va vb vc (.slice none 0 0)) (fun i _ => n - (intOf i).toNat)
  case atStart => exact ⟨0, _, _, _, Nat.zero_le _, rfl, HR1.out⟩
  case round =>
    obtain ⟨j, va, vb, vc, hj, rfl, hR⟩ := hrel
    rcases Nat.lt_or_ge j n with hlt | hge
    · obtain ⟨adx, x, e1, hx, xc⟩ := (HSB.out.below hR.below).at j hlt
      subst e1
      have hxl : x.toNat < 256 := x.toBitVec.isLt
      have hx0 : (0 : Int) ≤ (x.toNat : Int) := by omega
      have hx1 : (x.toNat : Int) < 256 := by omega
      obtain ⟨L, hL⟩ : ∃ L, L = (bytesI s).take j := ⟨_, rfl⟩
      have htl : L.length = j := by rw [hL, List.length_take, bytesI_len, HSL.out]; omega
      have htk : (bytesI s).take (j + 1) = L ++ [((x.toNat : Nat) : Int)] := by
        rw [hL, List.take_add_one]
        unfold bytesI
        rw [List.getElem?_map, hx]
        rfl
      rw [← hL] at hR
      have HR := Lib.hid hR
      have HTL := Lib.hid htl
      have HTK := Lib.hid htk
      obtain ⟨Ac, Bc, ca, cb, bp, D, csC, hCC⟩ := HC.out
      have hcb : ∀ w', Below w.heap.size w w' → w'.cell? ⟨b, 2 + x.toNat, none⟩ = some (.int .i64 (x.toNat : Nat)) := fun w' hb => by
        rw [(hCC.blk.below hb hCC.blk.lt).cell]
        exact hCC.cB x.toNat hxl
      have HCB := Lib.hid hcb
      have hjz : (0 : Int) ≤ (j : Int) := by omega
      have hjn : (j : Int) < (n : Int) := by omega
      have hjb : (j : Int) ≤ 1000000 := by omega
      clear hR htl htk hcb hCC hx hL
      go_wp2_with fail
      clear xc
      refine wp_region_held_drew (S := fun w' => w'.cell? ⟨b, 2 + x.toNat, none⟩ = some (.int .i64 (x.toNat : Nat))) (by kernel_rfl) (HCB.out _ HR.out.below.drew) (fun hHeld => ?_)
      obtain ⟨u0, hu0⟩ : ∃ z, z = wr.drew := ⟨_, rfl⟩
      rw [← hu0] at hHeld ⊢
      have hb0 : Below wr.heap.size wr u0 := by rw [hu0]; exact (Below.refl _ wr).drew
      have HR0 := Lib.hid (HR.out.then hb0)
      clear hu0 hb0
      refine wpAnyH_take (i := 0) (oi := ?oit10) (v := ?vt10) ?hit10 (by kernel_rfl) (by kernel_rfl) (by kernel_rfl) ?hQt10 (Or.inl ⟨?hwt10, ?hyt10⟩) (by assumption) ?restt10
      case hit10 => (first | (simp only [List.getElem?_toArray, List.getElem?_cons_zero, List.getElem?_cons_succ]; rfl) | rfl)
      case hQt10 => exact fun _ _ _ h => h
      case hwt10 => rfl
      case hyt10 => ((intro w hSw; go_simp); first | done | with_reducible rfl)
      try simp only [Act.put, List.setIfInBounds_toArray, List.set_cons_zero, List.set_cons_succ]
      refine wpAnyH_take (i := 1) (oi := ?oit21) (v := ?vt21) ?hit21 (by kernel_rfl) (by kernel_rfl) (by kernel_rfl) ?hQt21 (Or.inl ⟨?hwt21, ?hyt21⟩) (by assumption) ?restt21
      case hit21 => (first | (simp only [List.getElem?_toArray, List.getElem?_cons_zero, List.getElem?_cons_succ]; rfl) | rfl)
      case hQt21 => exact fun _ _ _ h => h
      case hwt21 => rfl
      case hyt21 => ((intro w hSw; go_simp); first | done | with_reducible rfl)
      try simp only [Act.put, List.setIfInBounds_toArray, List.set_cons_zero, List.set_cons_succ]
      refine wpAnyH_take (i := 5) (oi := ?oit35) (v := ?vt35) ?hit35 (by kernel_rfl) (by kernel_rfl) (by kernel_rfl) ?hQt35 (Or.inl ⟨?hwt35, ?hyt35⟩) (by assumption) ?restt35
      case hit35 => (first | (simp only [List.getElem?_toArray, List.getElem?_cons_zero, List.getElem?_cons_succ]; rfl) | rfl)
      case hQt35 => exact fun _ _ _ h => h
      case hwt35 => rfl
      case hyt35 => ((intro w hSw; go_simp); first | done | with_reducible rfl)
      try simp only [Act.put, List.setIfInBounds_toArray, List.set_cons_zero, List.set_cons_succ]
      refine wpAnyH_take (i := 6) (oi := ?oit46) (v := ?vt46) ?hit46 (by kernel_rfl) (by kernel_rfl) (by kernel_rfl) ?hQt46 (Or.inl ⟨?hwt46, ?hyt46⟩) (by assumption) ?restt46
      case hit46 => (first | (simp only [List.getElem?_toArray, List.getElem?_cons_zero, List.getElem?_cons_succ]; rfl) | rfl)
      case hQt46 => exact fun _ _ _ h => h
      case hwt46 => rfl
      case hyt46 => ((intro w hSw; go_simp); first | done | with_reducible rfl)
      try simp only [Act.put, List.setIfInBounds_toArray, List.set_cons_zero, List.set_cons_succ]
      refine wpAnyH_take (i := 2) (oi := ?oit52) (v := ?vt52) ?hit52 (by kernel_rfl) (by kernel_rfl) (by kernel_rfl) ?hQt52 (Or.inl ⟨?hwt52, ?hyt52⟩) (by assumption) ?restt52
      case hit52 => (first | (simp only [List.getElem?_toArray, List.getElem?_cons_zero, List.getElem?_cons_succ]; rfl) | rfl)
      case hQt52 => exact fun _ _ _ h => h
      case hwt52 => rfl
      case hyt52 => ((intro w hSw; go_simp); first | done | with_reducible rfl)
      try simp only [Act.put, List.setIfInBounds_toArray, List.set_cons_zero, List.set_cons_succ]
      refine wpAnyH_take (i := 7) (oi := ?oit67) (v := ?vt67) ?hit67 (by kernel_rfl) (by kernel_rfl) (by kernel_rfl) ?hQt67 (Or.inl ⟨?hwt67, ?hyt67⟩) (by assumption) ?restt67
      case hit67 => (first | (simp only [List.getElem?_toArray, List.getElem?_cons_zero, List.getElem?_cons_succ]; rfl) | rfl)
      case hQt67 => exact fun _ _ _ h => h
      case hwt67 => rfl
      case hyt67 => ((intro w hSw; go_simp); first | done | with_reducible rfl)
      try simp only [Act.put, List.setIfInBounds_toArray, List.set_cons_zero, List.set_cons_succ]
      refine wpAnyH_take (i := 3) (oi := ?oit73) (v := ?vt73) ?hit73 (by kernel_rfl) (by kernel_rfl) (by kernel_rfl) ?hQt73 (Or.inl ⟨?hwt73, ?hyt73⟩) (by assumption) ?restt73
      case hit73 => (first | (simp only [List.getElem?_toArray, List.getElem?_cons_zero, List.getElem?_cons_succ]; rfl) | rfl)
      case hQt73 => exact fun _ _ _ h => h
      case hwt73 => rfl
      case hyt73 => ((intro w hSw; go_simp); first | done | with_reducible rfl)
      try simp only [Act.put, List.setIfInBounds_toArray, List.set_cons_zero, List.set_cons_succ]
      refine wpAnyH_take (i := 8) (oi := ?oit88) (v := ?vt88) ?hit88 (by kernel_rfl) (by kernel_rfl) (by kernel_rfl) ?hQt88 (Or.inl ⟨?hwt88, ?hyt88⟩) (by assumption) ?restt88
      case hit88 => (first | (simp only [List.getElem?_toArray, List.getElem?_cons_zero, List.getElem?_cons_succ]; rfl) | rfl)
      case hQt88 => exact fun _ _ _ h => h
      case hwt88 => rfl
      case hyt88 => ((intro w hSw; go_simp); first | done | with_reducible rfl)
      try simp only [Act.put, List.setIfInBounds_toArray, List.set_cons_zero, List.set_cons_succ]
      refine wpAnyH_take (i := 9) (oi := ?oit99) (v := ?vt99) ?hit99 (by kernel_rfl) (by kernel_rfl) (by kernel_rfl) ?hQt99 (Or.inl ⟨?hwt99, ?hyt99⟩) (by assumption) ?restt99
      case hit99 => (first | (simp only [List.getElem?_toArray, List.getElem?_cons_zero, List.getElem?_cons_succ]; rfl) | rfl)
      case hQt99 => exact fun _ _ _ h => h
      case hwt99 => rfl
      case hyt99 => ((intro w hSw; go_simp); first | done | with_reducible rfl)
      try simp only [Act.put, List.setIfInBounds_toArray, List.set_cons_zero, List.set_cons_succ]
      refine wpAnyH_take (i := 10) (oi := ?oit1010) (v := ?vt1010) ?hit1010 (by kernel_rfl) (by kernel_rfl) (by kernel_rfl) ?hQt1010 (Or.inl ⟨?hwt1010, ?hyt1010⟩) (by assumption) ?restt1010
      case hit1010 => (first | (simp only [List.getElem?_toArray, List.getElem?_cons_zero, List.getElem?_cons_succ]; rfl) | rfl)
      case hQt1010 => exact fun _ _ _ h => h
      case hwt1010 => rfl
      case hyt1010 => ((intro w hSw; go_simp); first | done | with_reducible rfl)
      try simp only [Act.put, List.setIfInBounds_toArray, List.set_cons_zero, List.set_cons_succ]
      refine wpAnyH_ready (rs := [4, 11]) (by kernel_rfl) (by simp) ?_
      refine AllReadyH.cons (o := ?ot11) ?ht11 ?st11 (AllReadyH.cons (o := ?ot12) ?ht12 ?st12 AllReadyH.nil)
      case ht11 => (simp only [List.getElem?_toArray, List.getElem?_cons_zero, List.getElem?_cons_succ]; rfl)
      case ht12 => (simp only [List.getElem?_toArray, List.getElem?_cons_zero, List.getElem?_cons_succ]; rfl)
      case st11 =>
        intro K hK
        have yq1 : u0.cell? ⟨r, 1, none⟩ = some va := by have := HR0.out.blk.cell 1; simpa using this
        go_simp
        clear yq1
        refine hK.out _ _ (HCB.out _ HR0.out.below) (fun ht13 => ?_)
        clear hK K
        try simp only [Act.put, List.setIfInBounds_toArray, List.set_cons_zero, List.set_cons_succ]
        refine wpAnyH_ready (rs := [11]) (by kernel_rfl) (by simp) ?_
        refine AllReadyH.cons (o := ?ot14) ?ht14 ?st14 AllReadyH.nil
        case ht14 => (simp only [List.getElem?_toArray, List.getElem?_cons_zero, List.getElem?_cons_succ]; rfl)
        case st14 =>
          intro K hK
          go_simp
          obtain ⟨uq2, huq3⟩ : ∃ z, z = u0.alloc (.cells #[.int .i64 (x.toNat : Nat)] 3) := ⟨_, rfl⟩
          have Nq6 : Hid (Blk uq2 u0.heap.size 3 #[.int .i64 (x.toNat : Nat)]) := Lib.hid (by rw [huq3]; exact Blk.new _ _ _)
          rw [← huq3]
          have hbq4 : Below u0.heap.size u0 uq2 := by rw [huq3]; exact (Below.refl _ u0).alloc (Nat.le_refl _) _
          have Rq5 := Lib.hid (HR0.out.then hbq4)
          clear huq3 hbq4
          refine hK.out _ _ (HCB.out _ Rq5.out.below) (fun ht15 => ?_)
          clear hK K
          try simp only [Act.put, List.setIfInBounds_toArray, List.set_cons_zero, List.set_cons_succ]
          refine wpAnyH_ready (rs := [12]) (by kernel_rfl) (by simp) ?_
          refine AllReadyH.cons (o := ?ot16) ?ht16 ?st16 AllReadyH.nil
          case ht16 => (simp only [List.getElem?_toArray, List.getElem?_cons_zero, List.getElem?_cons_succ]; rfl)
          case st16 =>
            intro K hK
            refine step_append_srcN _ rfl (.tmp 25) (.tmp 32) 24 rfl w.heap.size 3 i0 (.int .i64 0) 1 8 Try.underlying24 hi hz0 hz1 hz2 rfl (by omega) va _ _ rfl Rq5.out.atR (some ⟨u0.heap.size, 0, none⟩) 1 1 [.int .i64 (x.toNat : Nat)] rfl ⟨rfl, fun ad e j u hu => by cases e; rw [addr_add, Nq6.out.cell]; simpa using hu, fun e => by cases e⟩ (by simp [Value.oneCell']) (by rw [HTL.out]; unfold maxLen; omega) (by rw [HTL.out]; omega) Rq5.out.below.size ?_
            intro v' uq8 hwq9 hgq10 hlq11
            obtain ⟨Aq12, cq13, rfl⟩ := own_slice hwq9
            have Bq14 := Lib.hid (Rq5.out.blk.grown hgq10 (fun e => own_blk_ne Rq5.out.atR Rq5.out.blk (by decide) e.symm))
            have Bq14b : Hid (Below w.heap.size w uq8) := Lib.hid (Rq5.out.below.grown hgq10 Rq5.out.below.size (fun k e => (Rq5.out.atR.lt k e).1))
            have Hhwq9 := Lib.hid hwq9
            have Hhgq10 := Lib.hid hgq10
            have Hhlq11 := Lib.hid hlq11
            clear hwq9 hgq10 hlq11
            refine hK.out _ _ (HCB.out _ Bq14b.out) (fun ht17 => ?_)
            clear hK K
            try simp only [Act.put, List.setIfInBounds_toArray, List.set_cons_zero, List.set_cons_succ]
            refine wpAnyH_take (i := 13) (oi := ?oit1813) (v := ?vt1813) ?hit1813 (by kernel_rfl) (by kernel_rfl) (by kernel_rfl) ?hQt1813 (Or.inl ⟨?hwt1813, ?hyt1813⟩) (by assumption) ?restt1813
            case hit1813 => (first | (simp only [List.getElem?_toArray, List.getElem?_cons_zero, List.getElem?_cons_succ]; rfl) | rfl)
            case hQt1813 => exact fun _ _ _ h => h
            case hwt1813 => rfl
            case hyt1813 => ((intro w hSw; go_simp); first | done | with_reducible rfl)
            try simp only [Act.put, List.setIfInBounds_toArray, List.set_cons_zero, List.set_cons_succ]
            refine wpAnyH_take (i := 14) (oi := ?oit1914) (v := ?vt1914) ?hit1914 (by kernel_rfl) (by kernel_rfl) (by kernel_rfl) ?hQt1914 (Or.inl ⟨?hwt1914, ?hyt1914⟩) (by assumption) ?restt1914
            case hit1914 => (first | (simp only [List.getElem?_toArray, List.getElem?_cons_zero, List.getElem?_cons_succ]; rfl) | rfl)
            case hQt1914 => exact fun _ _ _ h => h
            case hwt1914 => rfl
            case hyt1914 => ((intro w hSw; go_simp); first | done | with_reducible rfl)
            try simp only [Act.put, List.setIfInBounds_toArray, List.set_cons_zero, List.set_cons_succ]
            refine wpAnyH_ready (rs := [15]) (by kernel_rfl) (by simp) ?_
            refine AllReadyH.cons (o := ?ot20) ?ht20 ?st20 AllReadyH.nil
            case ht20 => (simp only [List.getElem?_toArray, List.getElem?_cons_zero, List.getElem?_cons_succ]; rfl)
            case st20 =>
              intro K hK
              have yq15 : uq8.cell? ⟨r, 1, none⟩ = some va := by have := Bq14.out.cell 1; simpa using this
              have zq16 := Bq14.out.frozen 1
              go_simp
              clear yq15 zq16
              have Fq17 := Lib.hid (Rq5.out.pushAt (v' := (.slice Aq12 (L.length + 1) cq13)) (w2 := uq8) (x := (x.toNat : Nat)) Hhwq9.out Hhgq10.out Hhlq11.out ⟨by omega, by omega⟩ (by rw [HTL.out]; omega))
              refine hK.out _ _ (HCB.out _ Fq17.out.below) (fun ht21 => ?_)
              clear hK K
              try simp only [Act.put, List.setIfInBounds_toArray, List.set_cons_zero, List.set_cons_succ]
              refine wpAnyH_done (by kernel_rfl) ?_ _
              obtain ⟨W5, hW5⟩ : ∃ z, z = (uq8.setCell ⟨r, 1, none⟩ (.slice Aq12 (L.length + 1) cq13)) := ⟨_, rfl⟩
              have H5 := Fq17.out
              rw [← hW5] at H5 ⊢
              have HR5 := Lib.hid H5
              have HR5a := Lib.hid (H5.then ((Below.refl _ W5).alloc (Nat.le_refl _) (.cells #[.int .i64 ((j : Int) - 1)] 3)))
              have y2 : W5.cell? ⟨r, 2, none⟩ = some vb := H5.cl.2.2.1
              clear hW5 H5 hHeld
              go_wp2_with (at_builtin; clear y2; refine wpList_append_own_at _ rfl _ _ 24 rfl w.heap.size 3 i0 (.int .i64 0) 1 8 Try.underlying24 hi hz0 hz1 hz2 rfl (by decide) vb _ _ rfl HR5a.out.befR ⟨W5.heap.size, 0, none⟩ 1 1 [.int .i64 ((j : Int) - 1)] rfl rfl one_cell_at (by simp [Value.oneCell']) (by rw [befI_len]; unfold maxLen; omega) (by rw [befI_len]; omega) HR5a.out.below.size ?_; intro v6 w6 ho6 hg6 hn6 hl6; clear hn6; obtain ⟨A6, c6, rfl⟩ := own_slice ho6; have B6 := HR5a.out.blk.grown hg6 (fun e => own_blk_ne HR5a.out.befR HR5a.out.blk (by decide) e.symm); have e6 : w6.cell? ⟨r, 2, none⟩ = some vb := (by have := B6.cell 2; simpa using this); have z6 := B6.frozen 2; have r6 := HR5a.out.pushBef (x := (j : Int) - 1) ho6 hg6 hl6 ⟨by omega, by omega⟩ (by rw [befI_len]; omega); have y3 := r6.cl.2.2.2.1; rw [befI_len] at y3; rw [befI_len]; rw [befI_len, ← befI_succ] at r6; have R6 := Lib.hid r6; clear B6 ho6 hg6 hl6 r6; have R6a := Lib.hid (R6.out.then ((Below.refl _ _).alloc (Nat.le_refl _) (.cells #[.int .i64 ((j : Int) + 1)] 3))); go_wp2_with (at_builtin; clear y3 e6 z6; refine wpList_append_own_at _ rfl _ _ 24 rfl w.heap.size 3 i0 (.int .i64 0) 1 8 Try.underlying24 hi hz0 hz1 hz2 rfl (by decide) vc _ _ rfl R6a.out.behR ⟨w6.heap.size, 0, none⟩ 1 1 [.int .i64 ((j : Int) + 1)] rfl rfl (one_cell_at' (size_setCell' _ _ _)) (by simp [Value.oneCell']) (by rw [behI_len]; unfold maxLen; omega) (by rw [behI_len]; omega) R6a.out.below.size ?_; intro v7 w7 ho7 hg7 hn7 hl7; clear hn7; obtain ⟨A7, c7, rfl⟩ := own_slice ho7; have B7 := R6a.out.blk.grown hg7 (fun e => own_blk_ne R6a.out.behR R6a.out.blk (by decide) e.symm); have e7 : w7.cell? ⟨r, 3, none⟩ = some vc := (by have := B7.cell 3; simpa using this); have z7 := B7.frozen 3; have r7 := R6a.out.pushBeh (x := (j : Int) + 1) ho7 hg7 hl7 ⟨by omega, by omega⟩ (by rw [behI_len]; omega); rw [behI_len]; rw [behI_len, ← behI_succ, ← HTK.out] at r7; have R7 := Lib.hid r7; clear B7 ho7 hg7 hl7 r7))
              go_roundw
              case rel => exact ⟨j + 1, _, _, _, by omega, by go_num, R7.out⟩
              case measure => simp [intOf]; omega
      case st12 =>
        intro K hK
        go_simp
        obtain ⟨uq18, huq19⟩ : ∃ z, z = u0.alloc (.cells #[.int .i64 (x.toNat : Nat)] 3) := ⟨_, rfl⟩
        have Nq22 : Hid (Blk uq18 u0.heap.size 3 #[.int .i64 (x.toNat : Nat)]) := Lib.hid (by rw [huq19]; exact Blk.new _ _ _)
        rw [← huq19]
        have hbq20 : Below u0.heap.size u0 uq18 := by rw [huq19]; exact (Below.refl _ u0).alloc (Nat.le_refl _) _
        have Rq21 := Lib.hid (HR0.out.then hbq20)
        clear huq19 hbq20
        refine hK.out _ _ (HCB.out _ Rq21.out.below) (fun ht22 => ?_)
        clear hK K
        try simp only [Act.put, List.setIfInBounds_toArray, List.set_cons_zero, List.set_cons_succ]
        refine wpAnyH_ready (rs := [4]) (by kernel_rfl) (by simp) ?_
        refine AllReadyH.cons (o := ?ot23) ?ht23 ?st23 AllReadyH.nil
        case ht23 => (simp only [List.getElem?_toArray, List.getElem?_cons_zero, List.getElem?_cons_succ]; rfl)
        case st23 =>
          intro K hK
          have yq24 : uq18.cell? ⟨r, 1, none⟩ = some va := by have := Rq21.out.blk.cell 1; simpa using this
          go_simp
          clear yq24
          refine hK.out _ _ (HCB.out _ Rq21.out.below) (fun ht24 => ?_)
          clear hK K
          try simp only [Act.put, List.setIfInBounds_toArray, List.set_cons_zero, List.set_cons_succ]
          refine wpAnyH_ready (rs := [12]) (by kernel_rfl) (by simp) ?_
          refine AllReadyH.cons (o := ?ot25) ?ht25 ?st25 AllReadyH.nil
          case ht25 => (simp only [List.getElem?_toArray, List.getElem?_cons_zero, List.getElem?_cons_succ]; rfl)
          case st25 =>
            intro K hK
            refine step_append_srcN _ rfl (.tmp 25) (.tmp 32) 24 rfl w.heap.size 3 i0 (.int .i64 0) 1 8 Try.underlying24 hi hz0 hz1 hz2 rfl (by omega) va _ _ rfl Rq21.out.atR (some ⟨u0.heap.size, 0, none⟩) 1 1 [.int .i64 (x.toNat : Nat)] rfl ⟨rfl, fun ad e j u hu => by cases e; rw [addr_add, Nq22.out.cell]; simpa using hu, fun e => by cases e⟩ (by simp [Value.oneCell']) (by rw [HTL.out]; unfold maxLen; omega) (by rw [HTL.out]; omega) Rq21.out.below.size ?_
            intro v' uq25 hwq26 hgq27 hlq28
            obtain ⟨Aq29, cq30, rfl⟩ := own_slice hwq26
            have Bq31 := Lib.hid (Rq21.out.blk.grown hgq27 (fun e => own_blk_ne Rq21.out.atR Rq21.out.blk (by decide) e.symm))
            have Bq31b : Hid (Below w.heap.size w uq25) := Lib.hid (Rq21.out.below.grown hgq27 Rq21.out.below.size (fun k e => (Rq21.out.atR.lt k e).1))
            have Hhwq26 := Lib.hid hwq26
            have Hhgq27 := Lib.hid hgq27
            have Hhlq28 := Lib.hid hlq28
            clear hwq26 hgq27 hlq28
            refine hK.out _ _ (HCB.out _ Bq31b.out) (fun ht26 => ?_)
            clear hK K
            try simp only [Act.put, List.setIfInBounds_toArray, List.set_cons_zero, List.set_cons_succ]
            refine wpAnyH_take (i := 13) (oi := ?oit2713) (v := ?vt2713) ?hit2713 (by kernel_rfl) (by kernel_rfl) (by kernel_rfl) ?hQt2713 (Or.inl ⟨?hwt2713, ?hyt2713⟩) (by assumption) ?restt2713
            case hit2713 => (first | (simp only [List.getElem?_toArray, List.getElem?_cons_zero, List.getElem?_cons_succ]; rfl) | rfl)
            case hQt2713 => exact fun _ _ _ h => h
            case hwt2713 => rfl
            case hyt2713 => ((intro w hSw; go_simp); first | done | with_reducible rfl)
            try simp only [Act.put, List.setIfInBounds_toArray, List.set_cons_zero, List.set_cons_succ]
            refine wpAnyH_take (i := 14) (oi := ?oit2814) (v := ?vt2814) ?hit2814 (by kernel_rfl) (by kernel_rfl) (by kernel_rfl) ?hQt2814 (Or.inl ⟨?hwt2814, ?hyt2814⟩) (by assumption) ?restt2814
            case hit2814 => (first | (simp only [List.getElem?_toArray, List.getElem?_cons_zero, List.getElem?_cons_succ]; rfl) | rfl)
            case hQt2814 => exact fun _ _ _ h => h
            case hwt2814 => rfl
            case hyt2814 => ((intro w hSw; go_simp); first | done | with_reducible rfl)
            try simp only [Act.put, List.setIfInBounds_toArray, List.set_cons_zero, List.set_cons_succ]
            refine wpAnyH_ready (rs := [15]) (by kernel_rfl) (by simp) ?_
            refine AllReadyH.cons (o := ?ot29) ?ht29 ?st29 AllReadyH.nil
            case ht29 => (simp only [List.getElem?_toArray, List.getElem?_cons_zero, List.getElem?_cons_succ]; rfl)
            case st29 =>
              intro K hK
              have yq32 : uq25.cell? ⟨r, 1, none⟩ = some va := by have := Bq31.out.cell 1; simpa using this
              have zq33 := Bq31.out.frozen 1
              go_simp
              clear yq32 zq33
              have Fq34 := Lib.hid (Rq21.out.pushAt (v' := (.slice Aq29 (L.length + 1) cq30)) (w2 := uq25) (x := (x.toNat : Nat)) Hhwq26.out Hhgq27.out Hhlq28.out ⟨by omega, by omega⟩ (by rw [HTL.out]; omega))
              refine hK.out _ _ (HCB.out _ Fq34.out.below) (fun ht30 => ?_)
              clear hK K
              try simp only [Act.put, List.setIfInBounds_toArray, List.set_cons_zero, List.set_cons_succ]
              refine wpAnyH_done (by kernel_rfl) ?_ _
              obtain ⟨W5, hW5⟩ : ∃ z, z = (uq25.setCell ⟨r, 1, none⟩ (.slice Aq29 (L.length + 1) cq30)) := ⟨_, rfl⟩
              have H5 := Fq34.out
              rw [← hW5] at H5 ⊢
              have HR5 := Lib.hid H5
              have HR5a := Lib.hid (H5.then ((Below.refl _ W5).alloc (Nat.le_refl _) (.cells #[.int .i64 ((j : Int) - 1)] 3)))
              have y2 : W5.cell? ⟨r, 2, none⟩ = some vb := H5.cl.2.2.1
              clear hW5 H5 hHeld
              go_wp2_with (at_builtin; clear y2; refine wpList_append_own_at _ rfl _ _ 24 rfl w.heap.size 3 i0 (.int .i64 0) 1 8 Try.underlying24 hi hz0 hz1 hz2 rfl (by decide) vb _ _ rfl HR5a.out.befR ⟨W5.heap.size, 0, none⟩ 1 1 [.int .i64 ((j : Int) - 1)] rfl rfl one_cell_at (by simp [Value.oneCell']) (by rw [befI_len]; unfold maxLen; omega) (by rw [befI_len]; omega) HR5a.out.below.size ?_; intro v6 w6 ho6 hg6 hn6 hl6; clear hn6; obtain ⟨A6, c6, rfl⟩ := own_slice ho6; have B6 := HR5a.out.blk.grown hg6 (fun e => own_blk_ne HR5a.out.befR HR5a.out.blk (by decide) e.symm); have e6 : w6.cell? ⟨r, 2, none⟩ = some vb := (by have := B6.cell 2; simpa using this); have z6 := B6.frozen 2; have r6 := HR5a.out.pushBef (x := (j : Int) - 1) ho6 hg6 hl6 ⟨by omega, by omega⟩ (by rw [befI_len]; omega); have y3 := r6.cl.2.2.2.1; rw [befI_len] at y3; rw [befI_len]; rw [befI_len, ← befI_succ] at r6; have R6 := Lib.hid r6; clear B6 ho6 hg6 hl6 r6; have R6a := Lib.hid (R6.out.then ((Below.refl _ _).alloc (Nat.le_refl _) (.cells #[.int .i64 ((j : Int) + 1)] 3))); go_wp2_with (at_builtin; clear y3 e6 z6; refine wpList_append_own_at _ rfl _ _ 24 rfl w.heap.size 3 i0 (.int .i64 0) 1 8 Try.underlying24 hi hz0 hz1 hz2 rfl (by decide) vc _ _ rfl R6a.out.behR ⟨w6.heap.size, 0, none⟩ 1 1 [.int .i64 ((j : Int) + 1)] rfl rfl (one_cell_at' (size_setCell' _ _ _)) (by simp [Value.oneCell']) (by rw [behI_len]; unfold maxLen; omega) (by rw [behI_len]; omega) R6a.out.below.size ?_; intro v7 w7 ho7 hg7 hn7 hl7; clear hn7; obtain ⟨A7, c7, rfl⟩ := own_slice ho7; have B7 := R6a.out.blk.grown hg7 (fun e => own_blk_ne R6a.out.behR R6a.out.blk (by decide) e.symm); have e7 : w7.cell? ⟨r, 3, none⟩ = some vc := (by have := B7.cell 3; simpa using this); have z7 := B7.frozen 3; have r7 := R6a.out.pushBeh (x := (j : Int) + 1) ho7 hg7 hl7 ⟨by omega, by omega⟩ (by rw [behI_len]; omega); rw [behI_len]; rw [behI_len, ← behI_succ, ← HTK.out] at r7; have R7 := Lib.hid r7; clear B7 ho7 hg7 hl7 r7))
              go_roundw
              case rel => exact ⟨j + 1, _, _, _, by omega, by go_num, R7.out⟩
              case measure => simp [intOf]; omega
    · obtain rfl : n = j := by omega
      have htl : (bytesI s).take n = bytesI s := List.take_of_length_le (by rw [bytesI_len, HSL.out]; omega)
      rw [htl] at hR
      have y2 : wr.cell? ⟨r, 2, none⟩ = some vb := hR.cl.2.2.1
      have HRa := Lib.hid (hR.then ((Below.refl _ wr).alloc (Nat.le_refl _) (.cells #[.int .i64 ((n : Int) - 1)] 3)))
      have hn0 : (0 : Int) ≤ (n : Int) := by omega
      have hn1 : (n : Int) ≤ 1000000 := by omega
      clear hR htl
      go_wp2_with (at_builtin; clear y2; refine wpList_append_own_at _ rfl _ _ 24 rfl w.heap.size 3 i0 (.int .i64 0) 1 8 Try.underlying24 hi hz0 hz1 hz2 rfl (by decide) vb _ _ rfl HRa.out.befR ⟨wr.heap.size, 0, none⟩ 1 1 [.int .i64 ((n : Int) - 1)] rfl rfl one_cell_at (by simp [Value.oneCell']) (by rw [befI_len]; unfold maxLen; omega) (by rw [befI_len]; omega) HRa.out.below.size ?_; intro v6 w6 ho6 hg6 hn6 hl6; clear hn6; obtain ⟨A6, c6, rfl⟩ := own_slice ho6; have B6 := HRa.out.blk.grown hg6 (fun e => own_blk_ne HRa.out.befR HRa.out.blk (by decide) e.symm); have e6 : w6.cell? ⟨r, 2, none⟩ = some vb := (by have := B6.cell 2; simpa using this); have z6 := B6.frozen 2; have r6 := HRa.out.pushBef (x := (n : Int) - 1) ho6 hg6 hl6 ⟨by omega, by omega⟩ (by rw [befI_len]; omega); have y3 := r6.cl.2.2.2.1; rw [befI_len] at y3; rw [befI_len]; rw [befI_len, ← befI_succ] at r6; have R6 := Lib.hid r6; clear B6 ho6 hg6 hl6 r6)
      obtain ⟨W9, hW9⟩ : ∃ z, z = w6.setCell ⟨r, 2, none⟩ (.slice A6 (n + 1) c6) := ⟨_, rfl⟩
      have R9 := R6.out
      rw [← hW9] at R9 ⊢
      have HR9 := Lib.hid R9
      clear R6 HRa HR1 R9 hW9 y3 e6 z6
      go_loopw [73] (fun i wr => ∃ (j : Nat) (st : List (Nat × Nat)) (vs : Value), j ≤ n ∧ i = .int .i64 (j : Nat) ∧ IsRow w wr r b (bytesI s) (befI (n + 1)) (behI n) st va (.slice A6 (n + 1) c6) vc vs ∧ StUp V.mer (bytesI s) (List.range (n + 1)) j st) (fun i _ => n - (intOf i).toNat)
      case atStart => exact ⟨0, [], _, Nat.zero_le _, rfl, HR9.out, StUp.nil _ _ _⟩
      case round =>
        obtain ⟨j, st, vs, hj, rfl, hR, hU⟩ := hrel
        clear HR9
        have hul := hU.len
        rcases Nat.lt_or_ge j n with hlt | hge
        · have hjq : (List.range (n + 1))[j]? = some j := List.getElem?_range (by omega)
          have hbl : (bytesI s).length = n := by rw [bytesI_len, HSL.out]
          have hso := HO.out.stepAt (M := V.mer) hjq (by rw [hbl]; exact hlt)
          have hsm := fun x hx => HO.out.step_small (M := V.mer) (j := j) (x := x) hx
          have hinc := HO.out.inc
          obtain ⟨o, ho⟩ : ∃ o, o = stepOf V.mer (bytesI s) (List.range (n + 1)) j := ⟨_, rfl⟩
          rw [← ho] at hso
          have hstep := stepAt_any w wr r b V (HC.out.below hR.below) ⟨_, _, _, _, hR⟩ hso.1
          have HSTEP := Lib.hid hstep
          have HR := Lib.hid hR
          have HU := Lib.hid hU
          have hjn : (j : Int) < (n : Int) := by omega
          have hjz : (0 : Int) ≤ (j : Int) := by omega
          have HINC := Lib.hid hinc
          have HSO2 := Lib.hid hso.2
          have HSM := Lib.hid hsm
          have HO2 := Lib.hid ho
          clear hR hU hstep hso hinc hsm ho hjq hbl
          cases o with
          | none =>
            go_wp2_with fail
            refine HSTEP.out.mono ?_
            rintro e w1 ⟨x, y, rfl, hk, hb⟩
            have HR2 := Lib.hid ((HR.out.then hb).then ((Below.refl _ w1).alloc (Nat.le_refl _) (.cells #[.int .i64 x, .int .i64 y] 78)))
            clear hk hb
            go_wp2_with fail
            go_roundw
            case rel => exact ⟨j + 1, st, vs, by omega, by go_num, HR2.out, HU.out.skip HO2.out.symm⟩
            case measure => simp [intOf]; omega
          | some sp =>
            obtain ⟨k, p⟩ := sp
            obtain rfl : j = p := Int.ofNat.inj (HSO2.out k p rfl)
            have hkp := HSM.out (k, j) HO2.out.symm
            have hfl : (st ++ [(k, j)]).flatMap stV = st.flatMap stV ++ [.int .i64 k, .int .i64 j] := by rw [List.flatMap_append]; rfl
            have hll : (st ++ [(k, j)]).length = st.length + 1 := by simp
            have HAP : Hid ((st ++ [(k, j)]).length = st.length + 1 ∧ (st ++ [(k, j)]).flatMap stV = st.flatMap stV ++ [.int .i64 k, .int .i64 j]) := Lib.hid ⟨hll, hfl⟩
            have HSF : Hid (∀ s ∈ st ++ [(k, j)], s.1 ≤ 1048576 ∧ s.2 ≤ 1048576) := Lib.hid (fun s hs => by
              rcases List.mem_append.1 hs with h | h
              · exact HR.out.stF s h
              · rw [List.mem_singleton.1 h]; exact ⟨by have := hkp.1; omega, by have := hkp.2; omega⟩)
            clear hkp hfl hll
            go_wp2_with fail
            refine HSTEP.out.mono ?_
            rintro e w1 ⟨x, y, rfl, hk, hb⟩
            obtain ⟨rfl, rfl⟩ := hk k rfl
            obtain ⟨W2, hW2⟩ : ∃ z, z = w1.alloc (.cells #[.int .i64 k, .int .i64 (j : Nat)] 78) := ⟨_, rfl⟩
            have HST : Hid (Blk W2 w1.heap.size 78 #[.int .i64 k, .int .i64 (j : Nat)]) := Lib.hid (by rw [hW2]; exact Blk.new _ _ _)
            have b1 : Below w1.heap.size w1 W2 := by rw [hW2]; exact (Below.refl _ w1).alloc (Nat.le_refl _) _
            have HNS : Hid (vs.ownBlock ≠ some w1.heap.size) := Lib.hid (fun e => Nat.lt_irrefl _ ((HR.out.then hb).stR.lt _ e).2)
            have HNR : Hid (w1.heap.size ≠ r) := Lib.hid (fun e => by have := (HR.out.then hb).blk.lt; omega)
            have HB := Lib.hid ((HR.out.then hb).then b1)
            have HW2 := Lib.hid hW2
            clear hk hb b1 hW2
            go_wp2_with fail
            rw [← HW2.out]
            refine wp_region_held_drew (S := fun w' => w'.cell? ⟨w1.heap.size, 0, none⟩ = some (.int .i64 k) ∧ w'.cell? ⟨w1.heap.size, 1, none⟩ = some (.int .i64 (j : Nat))) (by kernel_rfl) (two_cells HST.out) (fun hHeld => ?_)
            obtain ⟨u0, hu0⟩ : ∃ z, z = W2.drew := ⟨_, rfl⟩
            rw [← hu0] at hHeld ⊢
            have hb0 : Below W2.heap.size W2 u0 := by rw [hu0]; exact (Below.refl _ W2).drew
            have HR0 := Lib.hid (HB.out.then hb0)
            have HST0 := Lib.hid (HST.out.below hb0 HST.out.lt)
            clear hu0 hb0
            refine wpAnyH_take (i := 0) (oi := ?ois10) (v := ?vs10) ?his10 (by kernel_rfl) (by kernel_rfl) (by kernel_rfl) ?hQs10 (Or.inl ⟨?hws10, ?hys10⟩) (by assumption) ?rests10
            case his10 => (first | (simp only [List.getElem?_toArray, List.getElem?_cons_zero, List.getElem?_cons_succ]; rfl) | rfl)
            case hQs10 => exact fun _ _ _ h => h
            case hws10 => rfl
            case hys10 => ((intro w hSw; go_simp); first | done | with_reducible rfl)
            try simp only [Act.put, List.setIfInBounds_toArray, List.set_cons_zero, List.set_cons_succ]
            refine wpAnyH_take (i := 1) (oi := ?ois21) (v := ?vs21) ?his21 (by kernel_rfl) (by kernel_rfl) (by kernel_rfl) ?hQs21 (Or.inl ⟨?hws21, ?hys21⟩) (by assumption) ?rests21
            case his21 => (first | (simp only [List.getElem?_toArray, List.getElem?_cons_zero, List.getElem?_cons_succ]; rfl) | rfl)
            case hQs21 => exact fun _ _ _ h => h
            case hws21 => rfl
            case hys21 => ((intro w hSw; go_simp); first | done | with_reducible rfl)
            try simp only [Act.put, List.setIfInBounds_toArray, List.set_cons_zero, List.set_cons_succ]
            refine wpAnyH_take (i := 5) (oi := ?ois35) (v := ?vs35) ?his35 (by kernel_rfl) (by kernel_rfl) (by kernel_rfl) ?hQs35 (Or.inl ⟨?hws35, ?hys35⟩) (by assumption) ?rests35
            case his35 => (first | (simp only [List.getElem?_toArray, List.getElem?_cons_zero, List.getElem?_cons_succ]; rfl) | rfl)
            case hQs35 => exact fun _ _ _ h => h
            case hws35 => rfl
            case hys35 => ((intro w hSw; go_simp); first | done | with_reducible rfl)
            try simp only [Act.put, List.setIfInBounds_toArray, List.set_cons_zero, List.set_cons_succ]
            refine wpAnyH_take (i := 2) (oi := ?ois42) (v := ?vs42) ?his42 (by kernel_rfl) (by kernel_rfl) (by kernel_rfl) ?hQs42 (Or.inl ⟨?hws42, ?hys42⟩) (by assumption) ?rests42
            case his42 => (first | (simp only [List.getElem?_toArray, List.getElem?_cons_zero, List.getElem?_cons_succ]; rfl) | rfl)
            case hQs42 => exact fun _ _ _ h => h
            case hws42 => rfl
            case hys42 => ((intro w hSw; go_simp); first | done | with_reducible rfl)
            try simp only [Act.put, List.setIfInBounds_toArray, List.set_cons_zero, List.set_cons_succ]
            refine wpAnyH_take (i := 3) (oi := ?ois53) (v := ?vs53) ?his53 (by kernel_rfl) (by kernel_rfl) (by kernel_rfl) ?hQs53 (Or.inl ⟨?hws53, ?hys53⟩) (by assumption) ?rests53
            case his53 => (first | (simp only [List.getElem?_toArray, List.getElem?_cons_zero, List.getElem?_cons_succ]; rfl) | rfl)
            case hQs53 => exact fun _ _ _ h => h
            case hws53 => rfl
            case hys53 => ((intro w hSw; go_simp); first | done | with_reducible rfl)
            try simp only [Act.put, List.setIfInBounds_toArray, List.set_cons_zero, List.set_cons_succ]
            refine wpAnyH_ready (rs := [4, 6]) (by kernel_rfl) (by simp) ?_
            refine AllReadyH.cons (o := ?os6) ?hs6 ?ss6 (AllReadyH.cons (o := ?os7) ?hs7 ?ss7 AllReadyH.nil)
            case hs6 => (simp only [List.getElem?_toArray, List.getElem?_cons_zero, List.getElem?_cons_succ]; rfl)
            case hs7 => (simp only [List.getElem?_toArray, List.getElem?_cons_zero, List.getElem?_cons_succ]; rfl)
            case ss6 =>
              intro K hK
              have yq35 : u0.cell? ⟨r, 4, none⟩ = some vs := by have := HR0.out.blk.cell 4; simpa using this
              go_simp
              clear yq35
              refine hK.out _ _ (two_cells HST0.out) (fun hs8 => ?_)
              clear hK K
              try simp only [Act.put, List.setIfInBounds_toArray, List.set_cons_zero, List.set_cons_succ]
              refine wpAnyH_ready (rs := [6]) (by kernel_rfl) (by simp) ?_
              refine AllReadyH.cons (o := ?os9) ?hs9 ?ss9 AllReadyH.nil
              case hs9 => (simp only [List.getElem?_toArray, List.getElem?_cons_zero, List.getElem?_cons_succ]; rfl)
              case ss9 =>
                intro K hK
                go_simp
                obtain ⟨uq36, huq37⟩ : ∃ z, z = u0.alloc (.cells #[.int .i64 k, .int .i64 (j : Nat)] 78) := ⟨_, rfl⟩
                have Nq40 : Hid (Blk uq36 u0.heap.size 78 #[.int .i64 k, .int .i64 (j : Nat)]) := Lib.hid (by rw [huq37]; exact Blk.new _ _ _)
                rw [← huq37]
                have hbq38 : Below u0.heap.size u0 uq36 := by rw [huq37]; exact (Below.refl _ u0).alloc (Nat.le_refl _) _
                have Rq39 := Lib.hid (HR0.out.then hbq38)
                have Tq41 := Lib.hid (HST0.out.below hbq38 HST0.out.lt)
                have Tq41n : Hid (vs.ownBlock ≠ some u0.heap.size) := Lib.hid (fun e => Nat.lt_irrefl _ (HR0.out.stR.lt _ e).2)
                clear huq37 hbq38
                refine hK.out _ _ (two_cells Tq41.out) (fun hs10 => ?_)
                clear hK K
                try simp only [Act.put, List.setIfInBounds_toArray, List.set_cons_zero, List.set_cons_succ]
                refine wpAnyH_ready (rs := [7]) (by kernel_rfl) (by simp) ?_
                refine AllReadyH.cons (o := ?os11) ?hs11 ?ss11 AllReadyH.nil
                case hs11 => (simp only [List.getElem?_toArray, List.getElem?_cons_zero, List.getElem?_cons_succ]; rfl)
                case ss11 =>
                  intro K hK
                  refine step_append_srcN _ rfl (.tmp 87) (.tmp 89) 63 rfl w.heap.size 78 j0 _ 2 16 Try.underlying63 hj0 hy0 hy1 hy2 rfl (by omega) vs _ _ rfl Rq39.out.stR (some ⟨u0.heap.size, 0, none⟩) 1 1 [.int .i64 k, .int .i64 (j : Nat)] rfl ⟨rfl, fun ad e j u hu => by cases e; rw [addr_add, Nq40.out.cell]; simpa using hu, fun e => by cases e⟩ (by simp [Value.oneCell']) (by unfold maxLen; omega) (by omega) Rq39.out.below.size ?_
                  intro v' uq42 hwq43 hgq44 hlq45
                  obtain ⟨Aq46, cq47, rfl⟩ := own_slice hwq43
                  have Bq48 := Lib.hid (Rq39.out.blk.grown hgq44 (fun e => own_blk_ne Rq39.out.stR Rq39.out.blk (by decide) e.symm))
                  have Tq49 := Lib.hid (Tq41.out.grown hgq44 (fun e => HNS.out e.symm))
                  have Hhwq43 := Lib.hid hwq43
                  have Hhgq44 := Lib.hid hgq44
                  clear hwq43 hgq44 hlq45
                  refine hK.out _ _ (two_cells Tq49.out) (fun hs12 => ?_)
                  clear hK K
                  try simp only [Act.put, List.setIfInBounds_toArray, List.set_cons_zero, List.set_cons_succ]
                  refine wpAnyH_take (i := 8) (oi := ?ois138) (v := ?vs138) ?his138 (by kernel_rfl) (by kernel_rfl) (by kernel_rfl) ?hQs138 (Or.inl ⟨?hws138, ?hys138⟩) (by assumption) ?rests138
                  case his138 => (first | (simp only [List.getElem?_toArray, List.getElem?_cons_zero, List.getElem?_cons_succ]; rfl) | rfl)
                  case hQs138 => exact fun _ _ _ h => h
                  case hws138 => rfl
                  case hys138 => ((intro w hSw; go_simp); first | done | with_reducible rfl)
                  try simp only [Act.put, List.setIfInBounds_toArray, List.set_cons_zero, List.set_cons_succ]
                  refine wpAnyH_take (i := 9) (oi := ?ois149) (v := ?vs149) ?his149 (by kernel_rfl) (by kernel_rfl) (by kernel_rfl) ?hQs149 (Or.inl ⟨?hws149, ?hys149⟩) (by assumption) ?rests149
                  case his149 => (first | (simp only [List.getElem?_toArray, List.getElem?_cons_zero, List.getElem?_cons_succ]; rfl) | rfl)
                  case hQs149 => exact fun _ _ _ h => h
                  case hws149 => rfl
                  case hys149 => ((intro w hSw; go_simp); first | done | with_reducible rfl)
                  try simp only [Act.put, List.setIfInBounds_toArray, List.set_cons_zero, List.set_cons_succ]
                  refine wpAnyH_ready (rs := [10]) (by kernel_rfl) (by simp) ?_
                  refine AllReadyH.cons (o := ?os15) ?hs15 ?ss15 AllReadyH.nil
                  case hs15 => (simp only [List.getElem?_toArray, List.getElem?_cons_zero, List.getElem?_cons_succ]; rfl)
                  case ss15 =>
                    intro K hK
                    have yq50 : uq42.cell? ⟨r, 4, none⟩ = some vs := by have := Bq48.out.cell 4; simpa using this
                    have zq51 := Bq48.out.frozen 4
                    go_simp
                    clear yq50 zq51
                    have Fq52 := Lib.hid (Rq39.out.setSt (st' := st ++ [(k, j)]) (vs' := (.slice Aq46 (st.length + 1) cq47)) (w2 := uq42) (by rw [HAP.out.1, HAP.out.2]; exact Hhwq43.out) Hhgq44.out (by rw [HAP.out.1]; omega) HSF.out)
                    have Tq53 := Lib.hid (Tq49.out.far (p := ⟨r, 4, none⟩) HNR.out (.slice Aq46 (st.length + 1) cq47))
                    refine hK.out _ _ (two_cells Tq53.out) (fun hs16 => ?_)
                    clear hK K
                    try simp only [Act.put, List.setIfInBounds_toArray, List.set_cons_zero, List.set_cons_succ]
                    refine wpAnyH_done (by kernel_rfl) ?_ _
                    go_wp2_with fail
                    go_roundw
                    case rel => exact ⟨j + 1, _, _, by omega, by go_num, Fq52.out, HU.out.push HINC.out HO2.out.symm⟩
                    case measure => simp [intOf]; omega
            case ss7 =>
              intro K hK
              go_simp
              obtain ⟨uq54, huq55⟩ : ∃ z, z = u0.alloc (.cells #[.int .i64 k, .int .i64 (j : Nat)] 78) := ⟨_, rfl⟩
              have Nq58 : Hid (Blk uq54 u0.heap.size 78 #[.int .i64 k, .int .i64 (j : Nat)]) := Lib.hid (by rw [huq55]; exact Blk.new _ _ _)
              rw [← huq55]
              have hbq56 : Below u0.heap.size u0 uq54 := by rw [huq55]; exact (Below.refl _ u0).alloc (Nat.le_refl _) _
              have Rq57 := Lib.hid (HR0.out.then hbq56)
              have Tq59 := Lib.hid (HST0.out.below hbq56 HST0.out.lt)
              have Tq59n : Hid (vs.ownBlock ≠ some u0.heap.size) := Lib.hid (fun e => Nat.lt_irrefl _ (HR0.out.stR.lt _ e).2)
              clear huq55 hbq56
              refine hK.out _ _ (two_cells Tq59.out) (fun hs17 => ?_)
              clear hK K
              try simp only [Act.put, List.setIfInBounds_toArray, List.set_cons_zero, List.set_cons_succ]
              refine wpAnyH_ready (rs := [4]) (by kernel_rfl) (by simp) ?_
              refine AllReadyH.cons (o := ?os18) ?hs18 ?ss18 AllReadyH.nil
              case hs18 => (simp only [List.getElem?_toArray, List.getElem?_cons_zero, List.getElem?_cons_succ]; rfl)
              case ss18 =>
                intro K hK
                have yq60 : uq54.cell? ⟨r, 4, none⟩ = some vs := by have := Rq57.out.blk.cell 4; simpa using this
                go_simp
                clear yq60
                refine hK.out _ _ (two_cells Tq59.out) (fun hs19 => ?_)
                clear hK K
                try simp only [Act.put, List.setIfInBounds_toArray, List.set_cons_zero, List.set_cons_succ]
                refine wpAnyH_ready (rs := [7]) (by kernel_rfl) (by simp) ?_
                refine AllReadyH.cons (o := ?os20) ?hs20 ?ss20 AllReadyH.nil
                case hs20 => (simp only [List.getElem?_toArray, List.getElem?_cons_zero, List.getElem?_cons_succ]; rfl)
                case ss20 =>
                  intro K hK
                  refine step_append_srcN _ rfl (.tmp 87) (.tmp 89) 63 rfl w.heap.size 78 j0 _ 2 16 Try.underlying63 hj0 hy0 hy1 hy2 rfl (by omega) vs _ _ rfl Rq57.out.stR (some ⟨u0.heap.size, 0, none⟩) 1 1 [.int .i64 k, .int .i64 (j : Nat)] rfl ⟨rfl, fun ad e j u hu => by cases e; rw [addr_add, Nq58.out.cell]; simpa using hu, fun e => by cases e⟩ (by simp [Value.oneCell']) (by unfold maxLen; omega) (by omega) Rq57.out.below.size ?_
                  intro v' uq61 hwq62 hgq63 hlq64
                  obtain ⟨Aq65, cq66, rfl⟩ := own_slice hwq62
                  have Bq67 := Lib.hid (Rq57.out.blk.grown hgq63 (fun e => own_blk_ne Rq57.out.stR Rq57.out.blk (by decide) e.symm))
                  have Tq68 := Lib.hid (Tq59.out.grown hgq63 (fun e => HNS.out e.symm))
                  have Hhwq62 := Lib.hid hwq62
                  have Hhgq63 := Lib.hid hgq63
                  clear hwq62 hgq63 hlq64
                  refine hK.out _ _ (two_cells Tq68.out) (fun hs21 => ?_)
                  clear hK K
                  try simp only [Act.put, List.setIfInBounds_toArray, List.set_cons_zero, List.set_cons_succ]
                  refine wpAnyH_take (i := 8) (oi := ?ois228) (v := ?vs228) ?his228 (by kernel_rfl) (by kernel_rfl) (by kernel_rfl) ?hQs228 (Or.inl ⟨?hws228, ?hys228⟩) (by assumption) ?rests228
                  case his228 => (first | (simp only [List.getElem?_toArray, List.getElem?_cons_zero, List.getElem?_cons_succ]; rfl) | rfl)
                  case hQs228 => exact fun _ _ _ h => h
                  case hws228 => rfl
                  case hys228 => ((intro w hSw; go_simp); first | done | with_reducible rfl)
                  try simp only [Act.put, List.setIfInBounds_toArray, List.set_cons_zero, List.set_cons_succ]
                  refine wpAnyH_take (i := 9) (oi := ?ois239) (v := ?vs239) ?his239 (by kernel_rfl) (by kernel_rfl) (by kernel_rfl) ?hQs239 (Or.inl ⟨?hws239, ?hys239⟩) (by assumption) ?rests239
                  case his239 => (first | (simp only [List.getElem?_toArray, List.getElem?_cons_zero, List.getElem?_cons_succ]; rfl) | rfl)
                  case hQs239 => exact fun _ _ _ h => h
                  case hws239 => rfl
                  case hys239 => ((intro w hSw; go_simp); first | done | with_reducible rfl)
                  try simp only [Act.put, List.setIfInBounds_toArray, List.set_cons_zero, List.set_cons_succ]
                  refine wpAnyH_ready (rs := [10]) (by kernel_rfl) (by simp) ?_
                  refine AllReadyH.cons (o := ?os24) ?hs24 ?ss24 AllReadyH.nil
                  case hs24 => (simp only [List.getElem?_toArray, List.getElem?_cons_zero, List.getElem?_cons_succ]; rfl)
                  case ss24 =>
                    intro K hK
                    have yq69 : uq61.cell? ⟨r, 4, none⟩ = some vs := by have := Bq67.out.cell 4; simpa using this
                    have zq70 := Bq67.out.frozen 4
                    go_simp
                    clear yq69 zq70
                    have Fq71 := Lib.hid (Rq57.out.setSt (st' := st ++ [(k, j)]) (vs' := (.slice Aq65 (st.length + 1) cq66)) (w2 := uq61) (by rw [HAP.out.1, HAP.out.2]; exact Hhwq62.out) Hhgq63.out (by rw [HAP.out.1]; omega) HSF.out)
                    have Tq72 := Lib.hid (Tq68.out.far (p := ⟨r, 4, none⟩) HNR.out (.slice Aq65 (st.length + 1) cq66))
                    refine hK.out _ _ (two_cells Tq72.out) (fun hs25 => ?_)
                    clear hK K
                    try simp only [Act.put, List.setIfInBounds_toArray, List.set_cons_zero, List.set_cons_succ]
                    refine wpAnyH_done (by kernel_rfl) ?_ _
                    go_wp2_with fail
                    go_roundw
                    case rel => exact ⟨j + 1, _, _, by omega, by go_num, Fq71.out, HU.out.push HINC.out HO2.out.symm⟩
                    case measure => simp [intOf]; omega
        · obtain rfl : n = j := by omega
          obtain ⟨A9, c9, rfl⟩ := own_slice hR.stR
          have y4 := hR.cl.2.2.2.2
          have HR := Lib.hid hR
          have HU := Lib.hid hU
          have hstl := hR.small.2.2.2
          clear hR hU
          go_wp2_with fail
          refine (sort_any wr w.heap.size _ st HR.out.stR hstl).mono ?_
          rintro e w2 ⟨rfl, st', hp, hs, hown, hg⟩
          have hok := HU.out.ok (by rw [bytesI_len, HSL.out]; exact Nat.le_refl _) hp hs
          have hpl : st'.length ≤ n := by rw [hp.length_eq]; exact hul
          have hfin := HR.out.sorted hown hg (by omega) (fun s hs' => HR.out.stF s (hp.mem_iff.1 hs'))
          have HOK := Lib.hid hok
          have HF := Lib.hid hfin
          clear y4 hp hs hown hg hok hfin
          go_wp2_with fail
          go_ret
          refine ⟨r, st', rfl, ?_, ?_, ?_⟩
          · rw [HSL.out]; exact ⟨_, _, _, _, HF.out⟩
          · rw [HSL.out]; exact HOK.out
          · rw [HSL.out]; exact hpl
end Go.Proofs.Ytimbimnbaoaboaa
