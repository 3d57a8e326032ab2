/- The contract of the program's New. -/
import Derived.Test.YtjnbilcanfhkjaaOCov
import Derived.Test.YtjnbilcanfhkjaaKClone
import Derived.Test.YtjnbilcanfhkjaaKRowsG
import Derived.Deep.AppendLies
import Derived.Deep.RegionHeld3
import Derived.Deep.DeepCutAuto
namespace Go.Proofs.Ytjnbilcanfhkjaa
open Go.RowKit Go.Maps Go.WideMaps
set_option linter.unusedSimpArgs false

/-- A cover that is being built, of the first j tokens. -/
structure CMade (w0 : World) (b bt : Nat) (L : List Nm) (j : Nat) (tv : Value) (u : World) : Prop where
  blk : Blk u b 49 #[tv, .pointer (some ⟨bt, 0, none⟩)]
  rows : RowsG u (b + 1) tv (L.take j)
  below : Below b w0 u
theorem CMade.c0 {w0 : World} {b bt : Nat} {L : List Nm} {j : Nat} {tv : Value} {u : World} (_ : CMade w0 b bt L j tv u) : (#[tv, .pointer (some ⟨bt, 0, none⟩)] : Array Value)[0]? = some tv := rfl
theorem CMade.then {w0 : World} {b bt : Nat} {L : List Nm} {j : Nat} {tv : Value} {u u' : World} (h : CMade w0 b bt L j tv u) (hb : Below u.heap.size u u') : CMade w0 b bt L j tv u' :=
  ⟨h.blk.below hb h.blk.lt, h.rows.below hb, below_then h.below hb (by have := h.blk.lt; omega)⟩
theorem CMade.tvb {w0 : World} {b bt : Nat} {L : List Nm} {j : Nat} {tv : Value} {u : World} (h : CMade w0 b bt L j tv u) : tv.ownBlock ≠ some b := fun e => by
  obtain ⟨svs, h1, _⟩ := h.rows
  have := (h1.lt b e).1
  omega
theorem CMade.tlt {w0 : World} {b bt : Nat} {L : List Nm} {j : Nat} {tv : Value} {u : World} (h : CMade w0 b bt L j tv u) : ∀ g, tv.ownBlock = some g → g < u.heap.size := fun g e => by
  obtain ⟨svs, h1, _⟩ := h.rows
  exact (h1.lt g e).2
theorem CMade.setTok {w0 : World} {b bt : Nat} {L : List Nm} {j : Nat} {tv v' : Value} {u u' : World} {x : Nm} (h : CMade w0 b bt L j tv u) (hg : u.grownBy u' tv.ownBlock) (hL : L.take (j + 1) = L.take j ++ [x]) (hr : RowsG u' (b + 1) v' (L.take j ++ [x])) :
    CMade w0 b bt L (j + 1) v' (u'.setCell ⟨b, 0, none⟩ v') where
  blk := by
    have := (h.blk.grown hg (fun e => h.tvb e.symm)).set_ 0 v'
    simpa using this
  rows := by
    rw [hL]
    exact hr.keep (fun i hi _ => heap_setCell_other _ _ _ (by show i ≠ b; omega)) (by rw [size_setCell']; exact Nat.le_refl _)
  below := by
    have hb1 := h.below.grown hg (by have := h.blk.lt; omega) (fun g e => by
      obtain ⟨svs, h1, _⟩ := h.rows
      have := (h1.lt g e).1
      omega)
    exact ⟨hb1.os, hb1.tape, hb1.output, by rw [size_setCell']; exact hb1.size, fun k hk => (heap_setCell_other _ _ _ (by show k ≠ b; omega)).trans (hb1.block k hk)⟩
theorem addr_at0 (g k : Nat) : (⟨g, 0, none⟩ : Addr).add k = ⟨g, k, none⟩ := by
  unfold Addr.add
  split
  · rename_i h0; rw [h0]
  · simp
theorem rowsInfo : (Try.prog.info? 23).map (fun i => (i.zero, i.size, i.bytes)) = some (some (.slice none 0 0), 1, 24) := rowInfo

set_option maxHeartbeats 4000000 in
set_option maxRecDepth 100000 in
theorem pnew_none (w : World) (A : Option Addr) (n ca : Nat) (L : List Nm) (ha : RowsSee w A n L) (hn : n ≤ 140737488355328) (hr : rightB L = false) :
    Calls Try.prog 10 #[.slice A n ca] w fun e w' => e = .returned (.pointer none) ∧ Below w.heap.size w w' := by
  have HT := Lib.hid (tnew_none w A n ca L ha hn hr)
  clear ha hr
  go_enter Try.func10, Try.ntmps10
  go_wp2_with fail
  refine HT.out.mono ?_
  rintro e w2 ⟨rfl, rfl⟩
  go_wp2
  go_ret
  exact ⟨rfl, Below.refl _ _⟩

set_option maxHeartbeats 8000000 in
set_option maxRecDepth 100000 in
theorem pnew_any (w : World) (A : Option Addr) (n ca : Nat) (L : List Nm) (ha : RowsSee w A n L) (hr : rightB L = true) :
    Calls Try.prog 10 #[.slice A n ca] w fun e w' => ∃ b, e = .returned (.pointer (some ⟨b, 0, none⟩)) ∧ Below w.heap.size w w' ∧ CovAt w' b L := by
  obtain ⟨i0, hi, hz0, hz1, hz2⟩ := info_parts rowsInfo
  have hn512 : n ≤ 512 := by have := right_len hr; rw [ha.len] at this; exact this
  have HR16 : Hid (∀ (k : Nat) (x : Nm), L[k]? = some x → x.length ≤ 16) := Lib.hid (fun k x hx => right_16 hr hx)
  have HT := Lib.hid (tnew_any w A n ca L ha hr)
  have HA := Lib.hid ha
  have HLA := Lib.hid ha.len
  clear ha hr
  go_enter Try.func10, Try.ntmps10
  go_wp2_with fail
  refine HT.out.mono ?_
  rintro e w2 ⟨bt, rfl, hb2, ht2⟩
  have HB2 := Lib.hid hb2
  have HT2 := Lib.hid ht2
  clear hb2 ht2
  go_wp2_with fail
  obtain ⟨W0, hW0⟩ : ∃ z, z = w2.alloc (.cells #[.slice none 0 0, .pointer (some ⟨bt, 0, none⟩)] 49) := ⟨_, rfl⟩
  have hm0 : CMade w2 w2.heap.size bt L 0 (.slice none 0 0) W0 := by
    rw [hW0]
    exact ⟨Blk.new _ _ _, RowsG.nil _ _, (Below.refl _ _).alloc (Nat.le_refl _) _⟩
  rw [← hW0]
  obtain ⟨b, hbb⟩ : ∃ b, b = w2.heap.size := ⟨_, rfl⟩
  rw [← hbb] at hm0 ⊢
  have HM0 := Lib.hid hm0
  have HBB := Lib.hid hbb
  clear hm0 hW0 hbb
  go_loopw [16] (fun i wr => ∃ (j : Nat) (tv : Value), j ≤ n ∧ i = .int .i64 j ∧ CMade w2 b bt L j tv wr) (fun i _ => n - (intOf i).toNat)
  case atStart => exact ⟨0, _, by omega, rfl, HM0.out⟩
  case round =>
    obtain ⟨j, tv, hjle, rfl, hR⟩ := hrel
    have HR := Lib.hid hR
    rcases Nat.lt_or_ge j n with hlt | hge
    · have hjn : (j : Int) < (n : Int) := by omega
      have hjz : (0 : Int) ≤ (j : Int) := by omega
      obtain ⟨x, hx⟩ : ∃ x, L[j]? = some x := ⟨_, List.getElem?_eq_getElem (by rw [HLA.out]; exact hlt)⟩
      have hsee := HA.out.below (below_then HB2.out (hR.below.mono (by rw [HBB.out]; exact Nat.le_refl _)) HB2.out.size)
      obtain ⟨pa, Bt, ct, rfl, ea, ecx, hbt⟩ := hsee.at_ j x hx
      have hxl : x.length ≤ 16 := HR16.out j x hx
      have htk : L.take (j + 1) = L.take j ++ [x] := by rw [List.take_add_one, hx]; rfl
      have htl : (L.take j).length = j := by rw [List.length_take, HLA.out]; omega
      have hw5 : IntKind.i64.wrap ((j : Int) + 1) = (j : Int) + 1 := IntWalk.i64_in _ (by omega)
      have HXL := Lib.hid hxl
      have HTK := Lib.hid htk
      have HTL := Lib.hid htl
      have HTV := Lib.hid hR.tlt
      have HTB := Lib.hid hR.tvb
      have HBT := Lib.hid hbt
      clear hR hx hsee hxl htk htl hbt ecx
      go_wp2_with fail
      refine wp_region_held_drew (S := fun _ => True) (by kernel_rfl) trivial (fun hHeld => ?_)
      obtain ⟨u0, hu0⟩ : ∃ z, z = wr.drew := ⟨_, rfl⟩
      rw [← hu0]
      have hb0 : Below wr.heap.size wr u0 := by rw [hu0]; exact (Below.refl _ wr).drew
      have HR0 := Lib.hid (HR.out.then hb0)
      have HX0 := Lib.hid (HBT.out.below hb0)
      have HSZu0 := Lib.hid hb0.size
      clear hu0 hb0
      refine wpAnyH_take (i := 0) (oi := ?oit10) (v := ?vt10) ?hit10 (by kernel_rfl) (by kernel_rfl) (by kernel_rfl) ?hQt10 (Or.inl ⟨?hwt10, ?hyt10⟩) (by assumption) ?restt10
      case hit10 => (first | (simp only [List.getElem?_toArray, List.getElem?_cons_zero, List.getElem?_cons_succ]; rfl) | rfl)
      case hQt10 => exact fun _ _ _ h => h
      case hwt10 => rfl
      case hyt10 => ((intro w hSw; go_simp); first | done | with_reducible rfl)
      try simp only [Act.put, List.setIfInBounds_toArray, List.set_cons_zero, List.set_cons_succ]
      refine wpAnyH_take (i := 1) (oi := ?oit21) (v := ?vt21) ?hit21 (by kernel_rfl) (by kernel_rfl) (by kernel_rfl) ?hQt21 (Or.inl ⟨?hwt21, ?hyt21⟩) (by assumption) ?restt21
      case hit21 => (first | (simp only [List.getElem?_toArray, List.getElem?_cons_zero, List.getElem?_cons_succ]; rfl) | rfl)
      case hQt21 => exact fun _ _ _ h => h
      case hwt21 => rfl
      case hyt21 => ((intro w hSw; go_simp); first | done | with_reducible rfl)
      try simp only [Act.put, List.setIfInBounds_toArray, List.set_cons_zero, List.set_cons_succ]
      refine wpAnyH_take (i := 5) (oi := ?oit35) (v := ?vt35) ?hit35 (by kernel_rfl) (by kernel_rfl) (by kernel_rfl) ?hQt35 (Or.inl ⟨?hwt35, ?hyt35⟩) (by assumption) ?restt35
      case hit35 => (first | (simp only [List.getElem?_toArray, List.getElem?_cons_zero, List.getElem?_cons_succ]; rfl) | rfl)
      case hQt35 => exact fun _ _ _ h => h
      case hwt35 => rfl
      case hyt35 => ((intro w hSw; go_simp); first | done | with_reducible rfl)
      try simp only [Act.put, List.setIfInBounds_toArray, List.set_cons_zero, List.set_cons_succ]
      refine wpAnyH_take (i := 2) (oi := ?oit42) (v := ?vt42) ?hit42 (by kernel_rfl) (by kernel_rfl) (by kernel_rfl) ?hQt42 (Or.inl ⟨?hwt42, ?hyt42⟩) (by assumption) ?restt42
      case hit42 => (first | (simp only [List.getElem?_toArray, List.getElem?_cons_zero, List.getElem?_cons_succ]; rfl) | rfl)
      case hQt42 => exact fun _ _ _ h => h
      case hwt42 => rfl
      case hyt42 => ((intro w hSw; go_simp); first | done | with_reducible rfl)
      try simp only [Act.put, List.setIfInBounds_toArray, List.set_cons_zero, List.set_cons_succ]
      refine wpAnyH_take (i := 3) (oi := ?oit53) (v := ?vt53) ?hit53 (by kernel_rfl) (by kernel_rfl) (by kernel_rfl) ?hQt53 (Or.inl ⟨?hwt53, ?hyt53⟩) (by assumption) ?restt53
      case hit53 => (first | (simp only [List.getElem?_toArray, List.getElem?_cons_zero, List.getElem?_cons_succ]; rfl) | rfl)
      case hQt53 => exact fun _ _ _ h => h
      case hwt53 => rfl
      case hyt53 => ((intro w hSw; go_simp); first | done | with_reducible rfl)
      try simp only [Act.put, List.setIfInBounds_toArray, List.set_cons_zero, List.set_cons_succ]
      refine wpAnyH_ready (rs := [4, 6]) (by kernel_rfl) (by simp) ?_
      refine AllReadyH.cons (o := ?ot6) ?ht6 ?st6 (AllReadyH.cons (o := ?ot7) ?ht7 ?st7 AllReadyH.nil)
      case ht6 => (simp only [List.getElem?_toArray, List.getElem?_cons_zero, List.getElem?_cons_succ]; rfl)
      case ht7 => (simp only [List.getElem?_toArray, List.getElem?_cons_zero, List.getElem?_cons_succ]; rfl)
      case st6 =>
        intro K hK
        have yq1 : u0.cell? ⟨b, 0, none⟩ = some tv := by rw [HR0.out.blk.cell]; exact HR0.out.c0
        go_simp
        clear yq1
        refine hK.out _ _ trivial (fun ht8 => ?_)
        clear hK K
        try simp only [Act.put, List.setIfInBounds_toArray, List.set_cons_zero, List.set_cons_succ]
        refine wpAnyH_ready (rs := [6]) (by kernel_rfl) (by simp) ?_
        refine AllReadyH.cons (o := ?ot9) ?ht9 ?st9 AllReadyH.nil
        case ht9 => (simp only [List.getElem?_toArray, List.getElem?_cons_zero, List.getElem?_cons_succ]; rfl)
        case st9 =>
          intro K hK
          go_simp
          refine (clone_any u0 Bt x.length ct x HX0.out (by have := HXL.out; omega)).mono ?_
          rintro eq6 uq2 ⟨v, rfl, oq7, hq3⟩
          obtain ⟨Aq8, cq9, rfl⟩ := own_slice oq7
          have Hq10 : Hid (Holds1 uq2 (.slice Aq8 x.length cq9) x) := Lib.hid (Holds1.own oq7 (by have := HXL.out; unfold maxLen; omega))
          have Hq10b : Hid (∀ ad, Aq8 = some ad → 0 < x.length → u0.heap.size ≤ ad.block ∧ ad.block < uq2.heap.size) := Lib.hid (fun ad e _ => oq7.lt ad.block (by rw [e]; rfl))
          have Rq4 := Lib.hid (HR0.out.then hq3)
          clear oq7 hq3
          go_wp2_with fail
          refine hK.out _ _ trivial (fun ht10 => ?_)
          clear hK K
          try simp only [Act.put, List.setIfInBounds_toArray, List.set_cons_zero, List.set_cons_succ]
          refine wpAnyH_ready (rs := [7]) (by kernel_rfl) (by simp) ?_
          refine AllReadyH.cons (o := ?ot11) ?ht11 ?st11 AllReadyH.nil
          case ht11 => (simp only [List.getElem?_toArray, List.getElem?_cons_zero, List.getElem?_cons_succ]; rfl)
          case st11 =>
            intro K hK
            go_simp
            obtain ⟨uq11, huq12⟩ : ∃ z, z = uq2.alloc (.cells #[.slice Aq8 x.length cq9] 23) := ⟨_, rfl⟩
            have Nq15 : Hid (Blk uq11 uq2.heap.size 23 #[.slice Aq8 x.length cq9]) := Lib.hid (by rw [huq12]; exact Blk.new _ _ _)
            rw [← huq12]
            have hbq13 : Below uq2.heap.size uq2 uq11 := by rw [huq12]; exact (Below.refl _ uq2).alloc (Nat.le_refl _) _
            have Hq16 := Lib.hid (Hq10.out.below hbq13)
            have Hq16b : Hid (∀ ad, Aq8 = some ad → 0 < x.length → b + 1 ≤ ad.block ∧ tv.ownBlock ≠ some ad.block) := Lib.hid (fun ad e h0 => by
              have h1 := Hq10b.out ad e h0
              have h2 := HR.out.blk.lt
              have h3 := HSZu0.out
              exact ⟨by omega, fun e2 => by have := HTV.out _ e2; omega⟩)
            have Rq14 := Lib.hid (Rq4.out.then hbq13)
            clear huq12 hbq13
            refine hK.out _ _ trivial (fun ht12 => ?_)
            clear hK K
            try simp only [Act.put, List.setIfInBounds_toArray, List.set_cons_zero, List.set_cons_succ]
            refine wpAnyH_ready (rs := [8]) (by kernel_rfl) (by simp) ?_
            refine AllReadyH.cons (o := ?ot13) ?ht13 ?st13 AllReadyH.nil
            case ht13 => (simp only [List.getElem?_toArray, List.getElem?_cons_zero, List.getElem?_cons_succ]; rfl)
            case st13 =>
              intro K hK
              obtain ⟨svsq23, hoq24, hsq25⟩ := Rq14.out.rows
              rw [HTL.out] at hoq24
              refine step_append_src _ rfl (.tmp 24) (.tmp 27) 22 rfl (b + 1) 23 i0 (.slice none 0 0) 24 Try.underlying22 hi hz0 hz1 hz2 rfl tv j svsq23 rfl hoq24 (some ⟨uq2.heap.size, 0, none⟩) 1 1 [.slice Aq8 x.length cq9] rfl ⟨rfl, fun ad e j u hu => by cases e; rw [addr_at0, Nq15.out.cell]; simpa using hu, fun e => by cases e⟩ (by simp [Value.oneCell']) (by unfold maxLen; omega) (by omega) Rq14.out.blk.lt ?_
              intro v' uq17 hwq18 hgq19 hlq20
              have Gq26 := Lib.hid (RowsG.push (w := uq11) (v := tv) (L := L.take j) (x := x) hsq25 (by have := hoq24.1; rw [HTL.out]; simpa using this) Hq16.out (fun A c ad e1 e2 e3 => by cases e1; exact Hq16b.out ad e2 e3) (by rw [HTL.out]; exact hwq18) hgq19 (hlq20.imp id fun h => ⟨_, h, Nat.le_refl _⟩))
              obtain ⟨Aq21, cq22, rfl⟩ := own_slice hwq18
              have Gq26n : Hid (b ≠ (Value.slice Aq21 (j + 1) cq22).ownBlock.getD (b + 1)) := Lib.hid (by
                cases hq : (Value.slice Aq21 (j + 1) cq22).ownBlock with
                | none => simp
                | some g => have := (hwq18.lt g hq).1; simp; omega)
              have Gq26g := Lib.hid hgq19
              clear hwq18 hlq20 hoq24 hsq25
              refine hK.out _ _ trivial (fun ht14 => ?_)
              clear hK K
              try simp only [Act.put, List.setIfInBounds_toArray, List.set_cons_zero, List.set_cons_succ]
              refine wpAnyH_take (i := 9) (oi := ?oit159) (v := ?vt159) ?hit159 (by kernel_rfl) (by kernel_rfl) (by kernel_rfl) ?hQt159 (Or.inl ⟨?hwt159, ?hyt159⟩) (by assumption) ?restt159
              case hit159 => (first | (simp only [List.getElem?_toArray, List.getElem?_cons_zero, List.getElem?_cons_succ]; rfl) | rfl)
              case hQt159 => exact fun _ _ _ h => h
              case hwt159 => rfl
              case hyt159 => ((intro w hSw; go_simp); first | done | with_reducible rfl)
              try simp only [Act.put, List.setIfInBounds_toArray, List.set_cons_zero, List.set_cons_succ]
              refine wpAnyH_take (i := 10) (oi := ?oit1610) (v := ?vt1610) ?hit1610 (by kernel_rfl) (by kernel_rfl) (by kernel_rfl) ?hQt1610 (Or.inl ⟨?hwt1610, ?hyt1610⟩) (by assumption) ?restt1610
              case hit1610 => (first | (simp only [List.getElem?_toArray, List.getElem?_cons_zero, List.getElem?_cons_succ]; rfl) | rfl)
              case hQt1610 => exact fun _ _ _ h => h
              case hwt1610 => rfl
              case hyt1610 => ((intro w hSw; go_simp); first | done | with_reducible rfl)
              try simp only [Act.put, List.setIfInBounds_toArray, List.set_cons_zero, List.set_cons_succ]
              refine wpAnyH_ready (rs := [11]) (by kernel_rfl) (by simp) ?_
              refine AllReadyH.cons (o := ?ot17) ?ht17 ?st17 AllReadyH.nil
              case ht17 => (simp only [List.getElem?_toArray, List.getElem?_cons_zero, List.getElem?_cons_succ]; rfl)
              case st17 =>
                intro K hK
                have Bq30 := Rq14.out.blk.grown Gq26g.out (fun e => HTB.out e.symm)
                have yq27 : uq17.cell? ⟨b, 0, none⟩ = some tv := by rw [Bq30.cell]; exact Rq14.out.c0
                have zq28 := Bq30.frozen 0
                go_simp
                clear yq27 zq28 Bq30
                have Fq29 := Lib.hid (Rq14.out.setTok (x := x) Gq26g.out HTK.out (v' := (.slice Aq21 (j + 1) cq22)) Gq26.out)
                refine hK.out _ _ trivial (fun ht18 => ?_)
                clear hK K
                try simp only [Act.put, List.setIfInBounds_toArray, List.set_cons_zero, List.set_cons_succ]
                refine wpAnyH_done (by kernel_rfl) ?_ _
                have H5 := Fq29.out
                obtain ⟨W5, hW5⟩ : ∃ z, z = (uq17.setCell ⟨b, 0, none⟩ (.slice Aq21 (j + 1) cq22)) := ⟨_, rfl⟩
                rw [← hW5] at H5 ⊢
                have HR5 := Lib.hid H5
                clear hW5 H5 hHeld
                go_wp2_with fail
                go_roundw
                case rel => exact ⟨j + 1, _, by omega, by go_num, HR5.out⟩
                case measure => simp [intOf]; omega
      case st7 =>
        intro K hK
        go_simp
        refine (clone_any u0 Bt x.length ct x HX0.out (by have := HXL.out; omega)).mono ?_
        rintro eq35 uq31 ⟨v, rfl, oq36, hq32⟩
        obtain ⟨Aq37, cq38, rfl⟩ := own_slice oq36
        have Hq39 : Hid (Holds1 uq31 (.slice Aq37 x.length cq38) x) := Lib.hid (Holds1.own oq36 (by have := HXL.out; unfold maxLen; omega))
        have Hq39b : Hid (∀ ad, Aq37 = some ad → 0 < x.length → u0.heap.size ≤ ad.block ∧ ad.block < uq31.heap.size) := Lib.hid (fun ad e _ => oq36.lt ad.block (by rw [e]; rfl))
        have Rq33 := Lib.hid (HR0.out.then hq32)
        clear oq36 hq32
        go_wp2_with fail
        refine hK.out _ _ trivial (fun ht19 => ?_)
        clear hK K
        try simp only [Act.put, List.setIfInBounds_toArray, List.set_cons_zero, List.set_cons_succ]
        refine wpAnyH_ready (rs := [4, 7]) (by kernel_rfl) (by simp) ?_
        refine AllReadyH.cons (o := ?ot20) ?ht20 ?st20 (AllReadyH.cons (o := ?ot21) ?ht21 ?st21 AllReadyH.nil)
        case ht20 => (simp only [List.getElem?_toArray, List.getElem?_cons_zero, List.getElem?_cons_succ]; rfl)
        case ht21 => (simp only [List.getElem?_toArray, List.getElem?_cons_zero, List.getElem?_cons_succ]; rfl)
        case st20 =>
          intro K hK
          have yq40 : uq31.cell? ⟨b, 0, none⟩ = some tv := by rw [Rq33.out.blk.cell]; exact Rq33.out.c0
          go_simp
          clear yq40
          refine hK.out _ _ trivial (fun ht22 => ?_)
          clear hK K
          try simp only [Act.put, List.setIfInBounds_toArray, List.set_cons_zero, List.set_cons_succ]
          refine wpAnyH_ready (rs := [7]) (by kernel_rfl) (by simp) ?_
          refine AllReadyH.cons (o := ?ot23) ?ht23 ?st23 AllReadyH.nil
          case ht23 => (simp only [List.getElem?_toArray, List.getElem?_cons_zero, List.getElem?_cons_succ]; rfl)
          case st23 =>
            intro K hK
            go_simp
            obtain ⟨uq41, huq42⟩ : ∃ z, z = uq31.alloc (.cells #[.slice Aq37 x.length cq38] 23) := ⟨_, rfl⟩
            have Nq45 : Hid (Blk uq41 uq31.heap.size 23 #[.slice Aq37 x.length cq38]) := Lib.hid (by rw [huq42]; exact Blk.new _ _ _)
            rw [← huq42]
            have hbq43 : Below uq31.heap.size uq31 uq41 := by rw [huq42]; exact (Below.refl _ uq31).alloc (Nat.le_refl _) _
            have Hq46 := Lib.hid (Hq39.out.below hbq43)
            have Hq46b : Hid (∀ ad, Aq37 = some ad → 0 < x.length → b + 1 ≤ ad.block ∧ tv.ownBlock ≠ some ad.block) := Lib.hid (fun ad e h0 => by
              have h1 := Hq39b.out ad e h0
              have h2 := HR.out.blk.lt
              have h3 := HSZu0.out
              exact ⟨by omega, fun e2 => by have := HTV.out _ e2; omega⟩)
            have Rq44 := Lib.hid (Rq33.out.then hbq43)
            clear huq42 hbq43
            refine hK.out _ _ trivial (fun ht24 => ?_)
            clear hK K
            try simp only [Act.put, List.setIfInBounds_toArray, List.set_cons_zero, List.set_cons_succ]
            refine wpAnyH_ready (rs := [8]) (by kernel_rfl) (by simp) ?_
            refine AllReadyH.cons (o := ?ot25) ?ht25 ?st25 AllReadyH.nil
            case ht25 => (simp only [List.getElem?_toArray, List.getElem?_cons_zero, List.getElem?_cons_succ]; rfl)
            case st25 =>
              intro K hK
              obtain ⟨svsq53, hoq54, hsq55⟩ := Rq44.out.rows
              rw [HTL.out] at hoq54
              refine step_append_src _ rfl (.tmp 24) (.tmp 27) 22 rfl (b + 1) 23 i0 (.slice none 0 0) 24 Try.underlying22 hi hz0 hz1 hz2 rfl tv j svsq53 rfl hoq54 (some ⟨uq31.heap.size, 0, none⟩) 1 1 [.slice Aq37 x.length cq38] rfl ⟨rfl, fun ad e j u hu => by cases e; rw [addr_at0, Nq45.out.cell]; simpa using hu, fun e => by cases e⟩ (by simp [Value.oneCell']) (by unfold maxLen; omega) (by omega) Rq44.out.blk.lt ?_
              intro v' uq47 hwq48 hgq49 hlq50
              have Gq56 := Lib.hid (RowsG.push (w := uq41) (v := tv) (L := L.take j) (x := x) hsq55 (by have := hoq54.1; rw [HTL.out]; simpa using this) Hq46.out (fun A c ad e1 e2 e3 => by cases e1; exact Hq46b.out ad e2 e3) (by rw [HTL.out]; exact hwq48) hgq49 (hlq50.imp id fun h => ⟨_, h, Nat.le_refl _⟩))
              obtain ⟨Aq51, cq52, rfl⟩ := own_slice hwq48
              have Gq56n : Hid (b ≠ (Value.slice Aq51 (j + 1) cq52).ownBlock.getD (b + 1)) := Lib.hid (by
                cases hq : (Value.slice Aq51 (j + 1) cq52).ownBlock with
                | none => simp
                | some g => have := (hwq48.lt g hq).1; simp; omega)
              have Gq56g := Lib.hid hgq49
              clear hwq48 hlq50 hoq54 hsq55
              refine hK.out _ _ trivial (fun ht26 => ?_)
              clear hK K
              try simp only [Act.put, List.setIfInBounds_toArray, List.set_cons_zero, List.set_cons_succ]
              refine wpAnyH_take (i := 9) (oi := ?oit279) (v := ?vt279) ?hit279 (by kernel_rfl) (by kernel_rfl) (by kernel_rfl) ?hQt279 (Or.inl ⟨?hwt279, ?hyt279⟩) (by assumption) ?restt279
              case hit279 => (first | (simp only [List.getElem?_toArray, List.getElem?_cons_zero, List.getElem?_cons_succ]; rfl) | rfl)
              case hQt279 => exact fun _ _ _ h => h
              case hwt279 => rfl
              case hyt279 => ((intro w hSw; go_simp); first | done | with_reducible rfl)
              try simp only [Act.put, List.setIfInBounds_toArray, List.set_cons_zero, List.set_cons_succ]
              refine wpAnyH_take (i := 10) (oi := ?oit2810) (v := ?vt2810) ?hit2810 (by kernel_rfl) (by kernel_rfl) (by kernel_rfl) ?hQt2810 (Or.inl ⟨?hwt2810, ?hyt2810⟩) (by assumption) ?restt2810
              case hit2810 => (first | (simp only [List.getElem?_toArray, List.getElem?_cons_zero, List.getElem?_cons_succ]; rfl) | rfl)
              case hQt2810 => exact fun _ _ _ h => h
              case hwt2810 => rfl
              case hyt2810 => ((intro w hSw; go_simp); first | done | with_reducible rfl)
              try simp only [Act.put, List.setIfInBounds_toArray, List.set_cons_zero, List.set_cons_succ]
              refine wpAnyH_ready (rs := [11]) (by kernel_rfl) (by simp) ?_
              refine AllReadyH.cons (o := ?ot29) ?ht29 ?st29 AllReadyH.nil
              case ht29 => (simp only [List.getElem?_toArray, List.getElem?_cons_zero, List.getElem?_cons_succ]; rfl)
              case st29 =>
                intro K hK
                have Bq60 := Rq44.out.blk.grown Gq56g.out (fun e => HTB.out e.symm)
                have yq57 : uq47.cell? ⟨b, 0, none⟩ = some tv := by rw [Bq60.cell]; exact Rq44.out.c0
                have zq58 := Bq60.frozen 0
                go_simp
                clear yq57 zq58 Bq60
                have Fq59 := Lib.hid (Rq44.out.setTok (x := x) Gq56g.out HTK.out (v' := (.slice Aq51 (j + 1) cq52)) Gq56.out)
                refine hK.out _ _ trivial (fun ht30 => ?_)
                clear hK K
                try simp only [Act.put, List.setIfInBounds_toArray, List.set_cons_zero, List.set_cons_succ]
                refine wpAnyH_done (by kernel_rfl) ?_ _
                have H5 := Fq59.out
                obtain ⟨W5, hW5⟩ : ∃ z, z = (uq47.setCell ⟨b, 0, none⟩ (.slice Aq51 (j + 1) cq52)) := ⟨_, rfl⟩
                rw [← hW5] at H5 ⊢
                have HR5 := Lib.hid H5
                clear hW5 H5 hHeld
                go_wp2_with fail
                go_roundw
                case rel => exact ⟨j + 1, _, by omega, by go_num, HR5.out⟩
                case measure => simp [intOf]; omega
        case st21 =>
          intro K hK
          go_simp
          obtain ⟨uq61, huq62⟩ : ∃ z, z = uq31.alloc (.cells #[.slice Aq37 x.length cq38] 23) := ⟨_, rfl⟩
          have Nq65 : Hid (Blk uq61 uq31.heap.size 23 #[.slice Aq37 x.length cq38]) := Lib.hid (by rw [huq62]; exact Blk.new _ _ _)
          rw [← huq62]
          have hbq63 : Below uq31.heap.size uq31 uq61 := by rw [huq62]; exact (Below.refl _ uq31).alloc (Nat.le_refl _) _
          have Hq66 := Lib.hid (Hq39.out.below hbq63)
          have Hq66b : Hid (∀ ad, Aq37 = some ad → 0 < x.length → b + 1 ≤ ad.block ∧ tv.ownBlock ≠ some ad.block) := Lib.hid (fun ad e h0 => by
            have h1 := Hq39b.out ad e h0
            have h2 := HR.out.blk.lt
            have h3 := HSZu0.out
            exact ⟨by omega, fun e2 => by have := HTV.out _ e2; omega⟩)
          have Rq64 := Lib.hid (Rq33.out.then hbq63)
          clear huq62 hbq63
          refine hK.out _ _ trivial (fun ht31 => ?_)
          clear hK K
          try simp only [Act.put, List.setIfInBounds_toArray, List.set_cons_zero, List.set_cons_succ]
          refine wpAnyH_ready (rs := [4]) (by kernel_rfl) (by simp) ?_
          refine AllReadyH.cons (o := ?ot32) ?ht32 ?st32 AllReadyH.nil
          case ht32 => (simp only [List.getElem?_toArray, List.getElem?_cons_zero, List.getElem?_cons_succ]; rfl)
          case st32 =>
            intro K hK
            have yq67 : uq61.cell? ⟨b, 0, none⟩ = some tv := by rw [Rq64.out.blk.cell]; exact Rq64.out.c0
            go_simp
            clear yq67
            refine hK.out _ _ trivial (fun ht33 => ?_)
            clear hK K
            try simp only [Act.put, List.setIfInBounds_toArray, List.set_cons_zero, List.set_cons_succ]
            refine wpAnyH_ready (rs := [8]) (by kernel_rfl) (by simp) ?_
            refine AllReadyH.cons (o := ?ot34) ?ht34 ?st34 AllReadyH.nil
            case ht34 => (simp only [List.getElem?_toArray, List.getElem?_cons_zero, List.getElem?_cons_succ]; rfl)
            case st34 =>
              intro K hK
              obtain ⟨svsq74, hoq75, hsq76⟩ := Rq64.out.rows
              rw [HTL.out] at hoq75
              refine step_append_src _ rfl (.tmp 24) (.tmp 27) 22 rfl (b + 1) 23 i0 (.slice none 0 0) 24 Try.underlying22 hi hz0 hz1 hz2 rfl tv j svsq74 rfl hoq75 (some ⟨uq31.heap.size, 0, none⟩) 1 1 [.slice Aq37 x.length cq38] rfl ⟨rfl, fun ad e j u hu => by cases e; rw [addr_at0, Nq65.out.cell]; simpa using hu, fun e => by cases e⟩ (by simp [Value.oneCell']) (by unfold maxLen; omega) (by omega) Rq64.out.blk.lt ?_
              intro v' uq68 hwq69 hgq70 hlq71
              have Gq77 := Lib.hid (RowsG.push (w := uq61) (v := tv) (L := L.take j) (x := x) hsq76 (by have := hoq75.1; rw [HTL.out]; simpa using this) Hq66.out (fun A c ad e1 e2 e3 => by cases e1; exact Hq66b.out ad e2 e3) (by rw [HTL.out]; exact hwq69) hgq70 (hlq71.imp id fun h => ⟨_, h, Nat.le_refl _⟩))
              obtain ⟨Aq72, cq73, rfl⟩ := own_slice hwq69
              have Gq77n : Hid (b ≠ (Value.slice Aq72 (j + 1) cq73).ownBlock.getD (b + 1)) := Lib.hid (by
                cases hq : (Value.slice Aq72 (j + 1) cq73).ownBlock with
                | none => simp
                | some g => have := (hwq69.lt g hq).1; simp; omega)
              have Gq77g := Lib.hid hgq70
              clear hwq69 hlq71 hoq75 hsq76
              refine hK.out _ _ trivial (fun ht35 => ?_)
              clear hK K
              try simp only [Act.put, List.setIfInBounds_toArray, List.set_cons_zero, List.set_cons_succ]
              refine wpAnyH_take (i := 9) (oi := ?oit369) (v := ?vt369) ?hit369 (by kernel_rfl) (by kernel_rfl) (by kernel_rfl) ?hQt369 (Or.inl ⟨?hwt369, ?hyt369⟩) (by assumption) ?restt369
              case hit369 => (first | (simp only [List.getElem?_toArray, List.getElem?_cons_zero, List.getElem?_cons_succ]; rfl) | rfl)
              case hQt369 => exact fun _ _ _ h => h
              case hwt369 => rfl
              case hyt369 => ((intro w hSw; go_simp); first | done | with_reducible rfl)
              try simp only [Act.put, List.setIfInBounds_toArray, List.set_cons_zero, List.set_cons_succ]
              refine wpAnyH_take (i := 10) (oi := ?oit3710) (v := ?vt3710) ?hit3710 (by kernel_rfl) (by kernel_rfl) (by kernel_rfl) ?hQt3710 (Or.inl ⟨?hwt3710, ?hyt3710⟩) (by assumption) ?restt3710
              case hit3710 => (first | (simp only [List.getElem?_toArray, List.getElem?_cons_zero, List.getElem?_cons_succ]; rfl) | rfl)
              case hQt3710 => exact fun _ _ _ h => h
              case hwt3710 => rfl
              case hyt3710 => ((intro w hSw; go_simp); first | done | with_reducible rfl)
              try simp only [Act.put, List.setIfInBounds_toArray, List.set_cons_zero, List.set_cons_succ]
              refine wpAnyH_ready (rs := [11]) (by kernel_rfl) (by simp) ?_
              refine AllReadyH.cons (o := ?ot38) ?ht38 ?st38 AllReadyH.nil
              case ht38 => (simp only [List.getElem?_toArray, List.getElem?_cons_zero, List.getElem?_cons_succ]; rfl)
              case st38 =>
                intro K hK
                have Bq81 := Rq64.out.blk.grown Gq77g.out (fun e => HTB.out e.symm)
                have yq78 : uq68.cell? ⟨b, 0, none⟩ = some tv := by rw [Bq81.cell]; exact Rq64.out.c0
                have zq79 := Bq81.frozen 0
                go_simp
                clear yq78 zq79 Bq81
                have Fq80 := Lib.hid (Rq64.out.setTok (x := x) Gq77g.out HTK.out (v' := (.slice Aq72 (j + 1) cq73)) Gq77.out)
                refine hK.out _ _ trivial (fun ht39 => ?_)
                clear hK K
                try simp only [Act.put, List.setIfInBounds_toArray, List.set_cons_zero, List.set_cons_succ]
                refine wpAnyH_done (by kernel_rfl) ?_ _
                have H5 := Fq80.out
                obtain ⟨W5, hW5⟩ : ∃ z, z = (uq68.setCell ⟨b, 0, none⟩ (.slice Aq72 (j + 1) cq73)) := ⟨_, rfl⟩
                rw [← hW5] at H5 ⊢
                have HR5 := Lib.hid H5
                clear hW5 H5 hHeld
                go_wp2_with fail
                go_roundw
                case rel => exact ⟨j + 1, _, by omega, by go_num, HR5.out⟩
                case measure => simp [intOf]; omega
    · obtain rfl : j = n := by omega
      have hlz : ¬ ((j : Int) < (j : Int)) := by omega
      have hfull : L.take j = L := List.take_of_length_le (by rw [HLA.out]; exact Nat.le_refl _)
      have hRW := hR.rows.rows (b := 0) (Nat.zero_le _)
      rw [hfull] at hRW
      have hbl := hR.blk
      obtain ⟨svs, hsv, _⟩ := hRW
      obtain ⟨At, ct, hv⟩ := own_slice hsv
      subst hv
      have hRW := hR.rows.rows (b := 0) (Nat.zero_le _)
      rw [hfull] at hRW
      obtain ⟨q1, q2, q3⟩ := hRW.see (by rw [HLA.out]; unfold maxLen; omega)
      have hbelow : Below w2.heap.size w2 wr := by have := hR.below; rw [HBB.out] at this; exact this
      have HCOV : Hid (CovAt wr b L) := Lib.hid ⟨At, ct, bt, hbl, q1, q3, (HT2.out.below hbelow).base (Nat.zero_le _)⟩
      have HFIN := Lib.hid (below_then HB2.out (hbelow) HB2.out.size)
      clear hR hfull hbl hsv hRW q1 q2 q3 hbelow
      go_wp2
      go_ret
      exact ⟨_, rfl, HFIN.out, HCOV.out⟩
end Go.Proofs.Ytjnbilcanfhkjaa
