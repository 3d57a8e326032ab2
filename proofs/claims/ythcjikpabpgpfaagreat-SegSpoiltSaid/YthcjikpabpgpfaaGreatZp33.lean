import Derived.Test.YthcjikpabpgpfaaGreatZp0
import Derived.Test.YthcjikpabpgpfaaGreatZp19
import Derived.Test.YthcjikpabpgpfaaGreatZp31
import Derived.Deep.RegionHeld3
import Derived.Test.YthcjikpabpgpfaaGreatZp28
import Derived.Test.YthcjikpabpgpfaaGreatZp27
import Derived.Test.YthcjikpabpgpfaaGreatZp6
import Derived.Test.YthcjikpabpgpfaaGreatZp3
import Derived.Test.YthcjikpabpgpfaaGreatZp5
import Derived.Test.YthcjikpabpgpfaaGreatZp9
import Derived.Deep.QuietTactic
import Derived.BigQuiet
set_option linter.unusedSimpArgs false
set_option maxHeartbeats 16000000
set_option maxRecDepth 100000
namespace Go.Proofs.YthcjikpabpgpfaaGreat
open Go.RowKit Go.Maps Go.WideMaps
theorem zeroCoder : Tryz.zeroCells92.size = 259 ∧ Tryz.zeroCells92[0]? = some (.slice none 0 0) := ⟨by kernel_rfl, by kernel_rfl⟩
theorem zeroSingles0 : (List.range 256).map (fun c => Tryz.zeroCells92[2 + c]?) = List.replicate 256 (some (.int .i64 0)) := by kernel_rfl
theorem zeroSingles {c : Nat} (hc : c < 256) : Tryz.zeroCells92[2 + c]? = some (.int .i64 0) := by
 have h : ((List.range 256).map (fun c => Tryz.zeroCells92[2 + c]?))[c]? = (List.replicate 256 (some (Value.int .i64 0)))[c]? := by rw [zeroSingles0]
 rw [List.getElem?_map, List.getElem?_range hc, List.getElem?_replicate, if_pos hc] at h
 exact Option.some.inj h
theorem new_any (w : World) (A B : Option Addr) (n m ca cb : Nat) (V : Voc) (hV : VocSee w A B n m ca cb V) (hO : VOk V) :
  Calls Tryz.prog 13 #[vocV A B n m ca cb] w fun e w' => ∃ b, e = .returned (at0 b) ∧ Below w.heap.size w w' ∧ Coder w' b V := by
 have b1 : Below w.heap.size w (w.alloc (.cells #[.slice A n ca, .slice B m cb] 30)) := (Below.refl _ w).alloc (Nat.le_refl _) _
 have hck := vCheck_any _ A B n m ca cb V (hV.below b1)
 rw [hO.check] at hck
 have HCK := Lib.hid hck
 have HB1 := Lib.hid b1
 have HV := Lib.hid hV
 have HO := Lib.hid hO
 clear hV hck b1 hO
 unfold vocV at HCK ⊢
 go_enter Tryz.func13, Tryz.ntmps13
 go_wp2_with fail
 refine HCK.out.mono ?_
 rintro e w2 ⟨rfl, hb2⟩
 have HB2 := Lib.hid (below_then HB1.out hb2 HB1.out.size)
 have hbox : Blk w2 w.heap.size 30 #[.slice A n ca, .slice B m cb] := (Blk.new w _ _).below hb2 (by simp)
 have HBOX := Lib.hid hbox
 obtain ⟨k0, k1⟩ := two_cells hbox
 have HV2 := Lib.hid (HV.out.below HB2.out)
 clear hb2 hbox
 go_wp2_with fail
 refine (cloneMg_any w2 B m cb V.mer HV2.out.mer (by have := HO.out.ml; have := HV2.out.mer.len; omega)).mono ?_
 rintro e w3 ⟨v3, rfl, ho3, hb3⟩
 obtain ⟨A3, c3, rfl⟩ := own_slice ho3
 have HO3 := Lib.hid ho3
 have HB3 := Lib.hid (below_then HB2.out hb3 HB2.out.size)
 have HB23 := Lib.hid hb3
 have HV3 := Lib.hid (HV2.out.below hb3)
 have HBOX3 := Lib.hid (HBOX.out.below hb3 HBOX.out.lt)
 obtain ⟨k0', k1'⟩ := two_cells HBOX3.out
 obtain ⟨CS, hCS⟩ : ∃ CS, CS = (Tryz.zeroCells92.setIfInBounds 1 (Value.slice A3 m c3)).setIfInBounds 258 (Value.map (some w3.heap.size)) := ⟨_, rfl⟩
 obtain ⟨W4, hW4⟩ : ∃ W4, W4 = (w3.alloc (.map #[] 0)).alloc (.cells CS 92) := ⟨_, rfl⟩
 have hb4 : Below w3.heap.size w3 W4 := by rw [hW4]; exact ((Below.refl _ w3).alloc (Nat.le_refl _) _).alloc (by simp) _
 obtain ⟨b, hbn⟩ : ∃ b, b = w3.heap.size + 1 := ⟨_, rfl⟩
 have hml : V.mer.length = m := HV3.out.mer.len
 have htl : V.tok.length = n := HV3.out.tok.len
 have hCB : CB w2 W4 V b w3.heap.size 0 0 0 (.slice none 0 0) (.slice A3 m c3) (.map []) CS := {
  below := below_then HB23.out hb4 HB23.out.size
  new := by have := HB23.out.size; omega
  blk := by
   rw [hW4, hbn]
   have := Blk.new (w3.alloc (.map #[] 0)) 92 CS
   simpa using this
  size := by rw [hCS, Array.size_setIfInBounds, Array.size_setIfInBounds]; exact zeroCoder.1
  c0 := by rw [hCS, Array.getElem?_setIfInBounds, if_neg (by omega), Array.getElem?_setIfInBounds, if_neg (by omega)]; exact zeroCoder.2
  c1 := by rw [hCS, Array.getElem?_setIfInBounds, if_neg (by omega), Array.getElem?_setIfInBounds, if_pos rfl, if_pos (by rw [zeroCoder.1]; omega)]
  cB := fun c hc => by rw [hCS, Array.getElem?_setIfInBounds, if_neg (by omega), Array.getElem?_setIfInBounds, if_neg (by omega), zeroSingles hc]; rfl
  cM := by rw [hCS, Array.getElem?_setIfInBounds, if_pos rfl, if_pos (by simp [zeroCoder.1])]
  rows := RowsG.nil _ _
  mrow := by
   have h1 : W4.ownsRow w2.heap.size 88 3 (.slice A3 m c3) m (V.mer.flatMap mgCells) := by rw [hW4]; exact (HO3.out.alloc _).alloc _
   rw [hml]
   exact h1
  map := by
   rw [hW4]
   exact (World.ownsMap_made w3 _ _ _).alloc _
  isR := RankMap.nil
  bpn := ⟨HB23.out.size, by omega⟩ }
 have hmm := @run_makeMap Tryz.prog
 have k2 : W4.cell? ⟨w.heap.size, 0, none⟩ = some (.slice A n ca) := (two_cells (HBOX3.out.below hb4 HBOX3.out.lt)).1
 rw [hW4, hCS] at k2
 have HCB := Lib.hid hCB
 have HBN := Lib.hid hbn
 have HW4 := Lib.hid hW4
 have HCS := Lib.hid hCS
 have HML := Lib.hid hml
 have HTL0 := Lib.hid htl
 have HBOX4 := Lib.hid (HBOX3.out.below hb4 HBOX3.out.lt)
 have HB34 := Lib.hid hb4
 have hn5 : n ≤ 512 := by have := HO.out.tl; omega
 have hm5 : m ≤ 512 := by have := HO.out.ml; omega
 obtain ⟨i0, hi, hz0, hz1, hz2⟩ := info_parts rowInfo
 clear ho3 hb3 k0 k1 k0' k1' hCB hbn hW4 hCS hml htl hb4
 go_wp2_with fail
 rw [← HCS.out, ← HW4.out, ← HBN.out]
 clear k2 hmm
 go_loopw [20] (fun i wr => ∃ (j : Nat) (tv : Value) (cs : Array Value), j ≤ n ∧ i = .int .i64 (j : Nat) ∧ CB w2 wr V b w3.heap.size j j 0 tv (.slice A3 m c3) (.map []) cs) (fun i _ => n - (intOf i).toNat)
 case atStart => exact ⟨0, _, _, Nat.zero_le _, rfl, HCB.out⟩
 case round =>
  obtain ⟨j, tv, cs, hj, rfl, hR⟩ := hrel
  rcases Nat.lt_or_ge j n with hlt | hge
  ·have HR := Lib.hid hR
   have hx : V.tok[j]? = some (V.tok[j]'(by rw [HTL0.out]; exact hlt)) := List.getElem?_eq_getElem _
   obtain ⟨x, hxe⟩ : ∃ x, x = V.tok[j]'(by rw [HTL0.out]; exact hlt) := ⟨_, rfl⟩
   rw [← hxe] at hx
   obtain ⟨adt, Bt, ct, e1, tc0, hct, hbt0⟩ := HV2.out.tok.at_ j x hx
   subst e1
   have tc := below_cells hR.below tc0
   have hbt := hbt0.below hR.below
   have HBT0 := Lib.hid hbt0
   have hx16 := HO.out.short x (List.mem_of_getElem? hx)
   have htk : V.tok.take (j + 1) = V.tok.take j ++ [x] := by rw [List.take_add_one, hx]; rfl
   have htl : (V.tok.take j).length = j := by rw [List.length_take, HTL0.out]; omega
   have HXL := Lib.hid hx16.2
   have HTK := Lib.hid htk
   have HTL := Lib.hid htl
   have HTV := Lib.hid (fun g e => (hR.rows.lt g e).2 : ∀ g, tv.ownBlock = some g → g < wr.heap.size)
   have HTB := Lib.hid hR.tvb
   have HBT := Lib.hid hbt
   have HX := Lib.hid hx
   have hjn : (j : Int) < (n : Int) := by omega
   have hjz : (0 : Int) ≤ (j : Int) := by omega
   clear hR hx hxe hx16 htk htl hbt tc0 hbt0
   go_wp2_with fail
   clear tc
   refine wp_region_held_drew (S := fun _ => True) (by kernel_rfl) trivial (fun hHeld => ?_)
   obtain ⟨u0, hu0⟩ : ∃ z, z = wr.drew := ⟨_, rfl⟩
   rw [← hu0]
   have hb0 : Below wr.heap.size wr u0 := by rw [hu0]; exact (Below.refl _ wr).drew
   have HR0 := Lib.hid (HR.out.then hb0)
   have HX0 := Lib.hid (HBT.out.below hb0)
   have HSZu0 := Lib.hid hb0.size
   clear hu0 hb0
   refine wpAnyH_take (i := 0) (oi := ?oit10) (v := ?vt10) ?hit10 (by kernel_rfl) (by kernel_rfl) (by kernel_rfl) ?hQt10 (Or.inl ⟨?hwt10, ?hyt10⟩) (by assumption) ?restt10
   case hit10 => (first | (simp only [lz0, lz1, lz2]; rfl) | rfl)
   case hQt10 => exact fun _ _ _ h => h
   case hwt10 => rfl
   case hyt10 => ((intro w hSw; go_simp); first | done | with_reducible rfl)
   try simp only [Act.put, lz3, lz4, lz5]
   refine wpAnyH_take (i := 1) (oi := ?oit21) (v := ?vt21) ?hit21 (by kernel_rfl) (by kernel_rfl) (by kernel_rfl) ?hQt21 (Or.inl ⟨?hwt21, ?hyt21⟩) (by assumption) ?restt21
   case hit21 => (first | (simp only [lz0, lz1, lz2]; rfl) | rfl)
   case hQt21 => exact fun _ _ _ h => h
   case hwt21 => rfl
   case hyt21 => ((intro w hSw; go_simp); first | done | with_reducible rfl)
   try simp only [Act.put, lz3, lz4, lz5]
   refine wpAnyH_take (i := 5) (oi := ?oit35) (v := ?vt35) ?hit35 (by kernel_rfl) (by kernel_rfl) (by kernel_rfl) ?hQt35 (Or.inl ⟨?hwt35, ?hyt35⟩) (by assumption) ?restt35
   case hit35 => (first | (simp only [lz0, lz1, lz2]; rfl) | rfl)
   case hQt35 => exact fun _ _ _ h => h
   case hwt35 => rfl
   case hyt35 => ((intro w hSw; go_simp); first | done | with_reducible rfl)
   try simp only [Act.put, lz3, lz4, lz5]
   refine wpAnyH_take (i := 2) (oi := ?oit42) (v := ?vt42) ?hit42 (by kernel_rfl) (by kernel_rfl) (by kernel_rfl) ?hQt42 (Or.inl ⟨?hwt42, ?hyt42⟩) (by assumption) ?restt42
   case hit42 => (first | (simp only [lz0, lz1, lz2]; rfl) | rfl)
   case hQt42 => exact fun _ _ _ h => h
   case hwt42 => rfl
   case hyt42 => ((intro w hSw; go_simp); first | done | with_reducible rfl)
   try simp only [Act.put, lz3, lz4, lz5]
   refine wpAnyH_take (i := 3) (oi := ?oit53) (v := ?vt53) ?hit53 (by kernel_rfl) (by kernel_rfl) (by kernel_rfl) ?hQt53 (Or.inl ⟨?hwt53, ?hyt53⟩) (by assumption) ?restt53
   case hit53 => (first | (simp only [lz0, lz1, lz2]; rfl) | rfl)
   case hQt53 => exact fun _ _ _ h => h
   case hwt53 => rfl
   case hyt53 => ((intro w hSw; go_simp); first | done | with_reducible rfl)
   try simp only [Act.put, lz3, lz4, lz5]
   refine wpAnyH_ready (rs := [4, 6]) (by kernel_rfl) (by simp) ?_
   refine AllReadyH.cons (o := ?ot6) ?ht6 ?st6 (AllReadyH.cons (o := ?ot7) ?ht7 ?st7 AllReadyH.nil)
   case ht6 => (simp only [lz0, lz1, lz2]; rfl)
   case ht7 => (simp only [lz0, lz1, lz2]; rfl)
   case st6 =>
    intro K hK
    have yq1 : u0.cell? ⟨b, 0, none⟩ = some tv := by rw [HR0.out.blk.cell]; exact HR0.out.c0
    go_simp
    clear yq1
    refine hK.out _ _ trivial (fun ht8 => ?_)
    clear hK K
    try simp only [Act.put, lz3, lz4, lz5]
    refine wpAnyH_ready (rs := [6]) (by kernel_rfl) (by simp) ?_
    refine AllReadyH.cons (o := ?ot9) ?ht9 ?st9 AllReadyH.nil
    case ht9 => (simp only [lz0, lz1, lz2]; rfl)
    case st9 =>
     intro K hK
     go_simp
     refine (clone_any u0 Bt x.length ct x HX0.out (by have := HXL.out; omega)).mono ?_
     rintro eq6 uq2 ⟨v, rfl, oq7, hq3⟩
     obtain ⟨Aq8, cq9, rfl⟩ := own_slice oq7
     have Hq10 : Hid (Holds1 uq2 (.slice Aq8 x.length cq9) x) := Lib.hid (Holds1.own oq7 (by have := HXL.out; unfold maxLen; omega))
     have Hq10b : Hid (∀ ad, Aq8 = some ad → 0 < x.length → u0.heap.size ≤ ad.block ∧ ad.block < uq2.heap.size) := Lib.hid (fun ad e _ => oq7.lt ad.block (by rw [e]; rfl))
     have Rq4 := Lib.hid (HR0.out.then hq3)
     clear oq7 hq3
     go_wp2_with fail
     refine hK.out _ _ trivial (fun ht10 => ?_)
     clear hK K
     try simp only [Act.put, lz3, lz4, lz5]
     refine wpAnyH_ready (rs := [7]) (by kernel_rfl) (by simp) ?_
     refine AllReadyH.cons (o := ?ot11) ?ht11 ?st11 AllReadyH.nil
     case ht11 => (simp only [lz0, lz1, lz2]; rfl)
     case st11 =>
      intro K hK
      go_simp
      obtain ⟨uq11, huq12⟩ : ∃ z, z = uq2.alloc (.cells #[.slice Aq8 x.length cq9] 24) := ⟨_, rfl⟩
      have Nq15 : Hid (Blk uq11 uq2.heap.size 24 #[.slice Aq8 x.length cq9]) := Lib.hid (by rw [huq12]; exact Blk.new _ _ _)
      rw [← huq12]
      have hbq13 : Below uq2.heap.size uq2 uq11 := by rw [huq12]; exact (Below.refl _ uq2).alloc (Nat.le_refl _) _
      have Hq16 := Lib.hid (Hq10.out.below hbq13)
      have Hq16b : Hid (∀ ad, Aq8 = some ad → 0 < x.length → b + 1 ≤ ad.block ∧ tv.ownBlock ≠ some ad.block) := Lib.hid (fun ad e h0 => by
       have h1 := Hq10b.out ad e h0
       have h2 := HR.out.blk.lt
       have h3 := HSZu0.out
       exact ⟨by omega, fun e2 => by have := HTV.out _ e2; omega⟩)
      have Rq14 := Lib.hid (Rq4.out.then hbq13)
      clear huq12 hbq13
      refine hK.out _ _ trivial (fun ht12 => ?_)
      clear hK K
      try simp only [Act.put, lz3, lz4, lz5]
      refine wpAnyH_ready (rs := [8]) (by kernel_rfl) (by simp) ?_
      refine AllReadyH.cons (o := ?ot13) ?ht13 ?st13 AllReadyH.nil
      case ht13 => (simp only [lz0, lz1, lz2]; rfl)
      case st13 =>
       intro K hK
       obtain ⟨svsq23, hoq24, hsq25⟩ := Rq14.out.rows
       rw [HTL.out] at hoq24
       refine step_append_srcN _ rfl (.tmp 29) (.tmp 32) 27 rfl (b + 1) 24 i0 (.slice none 0 0) 1 24 Tryz.underlying27 hi hz0 hz1 hz2 rfl (by omega) tv j svsq23 rfl hoq24 (some ⟨uq2.heap.size, 0, none⟩) 1 1 [.slice Aq8 x.length cq9] rfl ⟨rfl, fun ad e j u hu => by cases e; rw [addr_add, Nq15.out.cell]; simpa using hu, fun e => by cases e⟩ (by simp [Value.oneCell']) (by unfold maxLen; omega) (by omega) Rq14.out.blk.lt ?_
       intro v' uq17 hwq18 hgq19 hlq20
       have Gq26 := Lib.hid (RowsG.push (w := uq11) (v := tv) (L := V.tok.take j) (x := x) hsq25 (by have := hoq24.1; rw [HTL.out]; simpa using this) Hq16.out (fun A c ad e1 e2 e3 => by cases e1; exact Hq16b.out ad e2 e3) (by rw [HTL.out]; exact hwq18) hgq19 (hlq20.imp id fun h => ⟨_, h, Nat.le_refl _⟩))
       obtain ⟨Aq21, cq22, rfl⟩ := own_slice hwq18
       have Gq26n : Hid (b ≠ (Value.slice Aq21 (j + 1) cq22).ownBlock.getD (b + 1)) := Lib.hid (by
        cases hq : (Value.slice Aq21 (j + 1) cq22).ownBlock with
        | none => simp
        | some g => have := (hwq18.lt g hq).1; simp; omega)
       have Gq26g := Lib.hid hgq19
       clear hwq18 hlq20 hoq24 hsq25
       refine hK.out _ _ trivial (fun ht14 => ?_)
       clear hK K
       try simp only [Act.put, lz3, lz4, lz5]
       refine wpAnyH_take (i := 9) (oi := ?oit159) (v := ?vt159) ?hit159 (by kernel_rfl) (by kernel_rfl) (by kernel_rfl) ?hQt159 (Or.inl ⟨?hwt159, ?hyt159⟩) (by assumption) ?restt159
       case hit159 => (first | (simp only [lz0, lz1, lz2]; rfl) | rfl)
       case hQt159 => exact fun _ _ _ h => h
       case hwt159 => rfl
       case hyt159 => ((intro w hSw; go_simp); first | done | with_reducible rfl)
       try simp only [Act.put, lz3, lz4, lz5]
       refine wpAnyH_take (i := 10) (oi := ?oit1610) (v := ?vt1610) ?hit1610 (by kernel_rfl) (by kernel_rfl) (by kernel_rfl) ?hQt1610 (Or.inl ⟨?hwt1610, ?hyt1610⟩) (by assumption) ?restt1610
       case hit1610 => (first | (simp only [lz0, lz1, lz2]; rfl) | rfl)
       case hQt1610 => exact fun _ _ _ h => h
       case hwt1610 => rfl
       case hyt1610 => ((intro w hSw; go_simp); first | done | with_reducible rfl)
       try simp only [Act.put, lz3, lz4, lz5]
       refine wpAnyH_ready (rs := [11]) (by kernel_rfl) (by simp) ?_
       refine AllReadyH.cons (o := ?ot17) ?ht17 ?st17 AllReadyH.nil
       case ht17 => (simp only [lz0, lz1, lz2]; rfl)
       case st17 =>
        intro K hK
        have Bq30 := Rq14.out.blk.grown Gq26g.out (fun e => HTB.out e.symm)
        have yq27 : uq17.cell? ⟨b, 0, none⟩ = some tv := by rw [Bq30.cell]; exact Rq14.out.c0
        have zq28 := Bq30.frozen 0
        go_simp
        clear yq27 zq28 Bq30
        have Fq29 := Lib.hid (Rq14.out.setTok (x := x) Gq26g.out HTK.out (v' := (.slice Aq21 (j + 1) cq22)) Gq26.out)
        refine hK.out _ _ trivial (fun ht18 => ?_)
        clear hK K
        try simp only [Act.put, lz3, lz4, lz5]
        refine wpAnyH_done (by kernel_rfl) ?_ _
        obtain ⟨W5, hW5⟩ : ∃ z, z = (uq17.setCell ⟨b, 0, none⟩ (.slice Aq21 (j + 1) cq22)) := ⟨_, rfl⟩
        have H5 := Fq29.out
        rw [← hW5] at H5 ⊢
        have HR5 := Lib.hid H5
        clear hW5 H5 hHeld
        by_cases h1 : x.length = 1
        ·obtain ⟨hj256, hxx⟩ := one_single HO.out HX.out h1
         have hcB := HR5.out.cB j hj256
         have d1 : W5.cell? ⟨b, 2 + j, none⟩ = some (.int .i64 ((if j < j then j else 0 : Nat) : Int)) := by rw [HR5.out.blk.cell]; exact hcB
         have z1 := HR5.out.blk.frozen (2 + j)
         obtain ⟨adb, y, e1, hy, yc⟩ := (HBT0.out.below HR5.out.below).at 0 (by omega)
         subst e1
         have yc0 : W5.cell? adb = some (.int .u8 (y.toNat : Int)) := by simpa [Addr.add] using yc
         have hyj : y.toNat = j := by
          rw [hxx] at hy
          simp at hy
          rw [← hy]
          exact UInt8.toNat_ofNat_of_lt' (by show _ < 256; omega)
         rw [hyj] at yc yc0
         have hl1 : ((x.length : Int) == 1) = true := by rw [h1]; rfl
         have hlN : 0 < x.length := by omega
         have hl0 : (0 : Int) < (x.length : Int) := by omega
         have hj1 : (j : Int) < 256 := by omega
         have HJ := Lib.hid hj256
         clear hcB hxx hy hyj hj256 h1
         go_wp2_with fail
         go_still_tail 8, (by kernel_rfl)
         change wpList _ _ _ _ _ W5.drew
         go_wp2_with fail
         obtain ⟨W6, hW6⟩ : ∃ z, z = (W5.setCell ⟨b, 2 + j, none⟩ (.int .i64 (j : Nat))).drew := ⟨_, rfl⟩
         have hb6 : Below W5.heap.size W5 W5 := Below.refl _ _
         have HR6 := Lib.hid ((HR5.out.setSingle HJ.out).then (w' := W6) (by rw [hW6]; exact (Below.refl _ _).drew))
         rw [← hW6]
         clear hW6 hb6 d1 z1 yc yc0
         go_roundw
         case rel => exact ⟨j + 1, _, _, by omega, by go_num, HR6.out⟩
         case measure => simp [intOf]; omega
        ·have hj256 : 256 ≤ j := by
          rcases Nat.lt_or_ge j 256 with h | h
          ·have h2 := HO.out.single j h
           rw [HX.out] at h2
           cases h2
           exact absurd rfl h1
          ·exact h
         have hl1 : ((x.length : Int) == 1) = false := by simp; omega
         have HR6 := Lib.hid (HR5.out.skip hj256)
         clear h1
         go_wp2_with fail
         go_roundw
         case rel => exact ⟨j + 1, _, _, by omega, by go_num, HR6.out⟩
         case measure => simp [intOf]; omega
   case st7 =>
    intro K hK
    go_simp
    refine (clone_any u0 Bt x.length ct x HX0.out (by have := HXL.out; omega)).mono ?_
    rintro eq35 uq31 ⟨v, rfl, oq36, hq32⟩
    obtain ⟨Aq37, cq38, rfl⟩ := own_slice oq36
    have Hq39 : Hid (Holds1 uq31 (.slice Aq37 x.length cq38) x) := Lib.hid (Holds1.own oq36 (by have := HXL.out; unfold maxLen; omega))
    have Hq39b : Hid (∀ ad, Aq37 = some ad → 0 < x.length → u0.heap.size ≤ ad.block ∧ ad.block < uq31.heap.size) := Lib.hid (fun ad e _ => oq36.lt ad.block (by rw [e]; rfl))
    have Rq33 := Lib.hid (HR0.out.then hq32)
    clear oq36 hq32
    go_wp2_with fail
    refine hK.out _ _ trivial (fun ht19 => ?_)
    clear hK K
    try simp only [Act.put, lz3, lz4, lz5]
    refine wpAnyH_ready (rs := [4, 7]) (by kernel_rfl) (by simp) ?_
    refine AllReadyH.cons (o := ?ot20) ?ht20 ?st20 (AllReadyH.cons (o := ?ot21) ?ht21 ?st21 AllReadyH.nil)
    case ht20 => (simp only [lz0, lz1, lz2]; rfl)
    case ht21 => (simp only [lz0, lz1, lz2]; rfl)
    case st20 =>
     intro K hK
     have yq40 : uq31.cell? ⟨b, 0, none⟩ = some tv := by rw [Rq33.out.blk.cell]; exact Rq33.out.c0
     go_simp
     clear yq40
     refine hK.out _ _ trivial (fun ht22 => ?_)
     clear hK K
     try simp only [Act.put, lz3, lz4, lz5]
     refine wpAnyH_ready (rs := [7]) (by kernel_rfl) (by simp) ?_
     refine AllReadyH.cons (o := ?ot23) ?ht23 ?st23 AllReadyH.nil
     case ht23 => (simp only [lz0, lz1, lz2]; rfl)
     case st23 =>
      intro K hK
      go_simp
      obtain ⟨uq41, huq42⟩ : ∃ z, z = uq31.alloc (.cells #[.slice Aq37 x.length cq38] 24) := ⟨_, rfl⟩
      have Nq45 : Hid (Blk uq41 uq31.heap.size 24 #[.slice Aq37 x.length cq38]) := Lib.hid (by rw [huq42]; exact Blk.new _ _ _)
      rw [← huq42]
      have hbq43 : Below uq31.heap.size uq31 uq41 := by rw [huq42]; exact (Below.refl _ uq31).alloc (Nat.le_refl _) _
      have Hq46 := Lib.hid (Hq39.out.below hbq43)
      have Hq46b : Hid (∀ ad, Aq37 = some ad → 0 < x.length → b + 1 ≤ ad.block ∧ tv.ownBlock ≠ some ad.block) := Lib.hid (fun ad e h0 => by
       have h1 := Hq39b.out ad e h0
       have h2 := HR.out.blk.lt
       have h3 := HSZu0.out
       exact ⟨by omega, fun e2 => by have := HTV.out _ e2; omega⟩)
      have Rq44 := Lib.hid (Rq33.out.then hbq43)
      clear huq42 hbq43
      refine hK.out _ _ trivial (fun ht24 => ?_)
      clear hK K
      try simp only [Act.put, lz3, lz4, lz5]
      refine wpAnyH_ready (rs := [8]) (by kernel_rfl) (by simp) ?_
      refine AllReadyH.cons (o := ?ot25) ?ht25 ?st25 AllReadyH.nil
      case ht25 => (simp only [lz0, lz1, lz2]; rfl)
      case st25 =>
       intro K hK
       obtain ⟨svsq53, hoq54, hsq55⟩ := Rq44.out.rows
       rw [HTL.out] at hoq54
       refine step_append_srcN _ rfl (.tmp 29) (.tmp 32) 27 rfl (b + 1) 24 i0 (.slice none 0 0) 1 24 Tryz.underlying27 hi hz0 hz1 hz2 rfl (by omega) tv j svsq53 rfl hoq54 (some ⟨uq31.heap.size, 0, none⟩) 1 1 [.slice Aq37 x.length cq38] rfl ⟨rfl, fun ad e j u hu => by cases e; rw [addr_add, Nq45.out.cell]; simpa using hu, fun e => by cases e⟩ (by simp [Value.oneCell']) (by unfold maxLen; omega) (by omega) Rq44.out.blk.lt ?_
       intro v' uq47 hwq48 hgq49 hlq50
       have Gq56 := Lib.hid (RowsG.push (w := uq41) (v := tv) (L := V.tok.take j) (x := x) hsq55 (by have := hoq54.1; rw [HTL.out]; simpa using this) Hq46.out (fun A c ad e1 e2 e3 => by cases e1; exact Hq46b.out ad e2 e3) (by rw [HTL.out]; exact hwq48) hgq49 (hlq50.imp id fun h => ⟨_, h, Nat.le_refl _⟩))
       obtain ⟨Aq51, cq52, rfl⟩ := own_slice hwq48
       have Gq56n : Hid (b ≠ (Value.slice Aq51 (j + 1) cq52).ownBlock.getD (b + 1)) := Lib.hid (by
        cases hq : (Value.slice Aq51 (j + 1) cq52).ownBlock with
        | none => simp
        | some g => have := (hwq48.lt g hq).1; simp; omega)
       have Gq56g := Lib.hid hgq49
       clear hwq48 hlq50 hoq54 hsq55
       refine hK.out _ _ trivial (fun ht26 => ?_)
       clear hK K
       try simp only [Act.put, lz3, lz4, lz5]
       refine wpAnyH_take (i := 9) (oi := ?oit279) (v := ?vt279) ?hit279 (by kernel_rfl) (by kernel_rfl) (by kernel_rfl) ?hQt279 (Or.inl ⟨?hwt279, ?hyt279⟩) (by assumption) ?restt279
       case hit279 => (first | (simp only [lz0, lz1, lz2]; rfl) | rfl)
       case hQt279 => exact fun _ _ _ h => h
       case hwt279 => rfl
       case hyt279 => ((intro w hSw; go_simp); first | done | with_reducible rfl)
       try simp only [Act.put, lz3, lz4, lz5]
       refine wpAnyH_take (i := 10) (oi := ?oit2810) (v := ?vt2810) ?hit2810 (by kernel_rfl) (by kernel_rfl) (by kernel_rfl) ?hQt2810 (Or.inl ⟨?hwt2810, ?hyt2810⟩) (by assumption) ?restt2810
       case hit2810 => (first | (simp only [lz0, lz1, lz2]; rfl) | rfl)
       case hQt2810 => exact fun _ _ _ h => h
       case hwt2810 => rfl
       case hyt2810 => ((intro w hSw; go_simp); first | done | with_reducible rfl)
       try simp only [Act.put, lz3, lz4, lz5]
       refine wpAnyH_ready (rs := [11]) (by kernel_rfl) (by simp) ?_
       refine AllReadyH.cons (o := ?ot29) ?ht29 ?st29 AllReadyH.nil
       case ht29 => (simp only [lz0, lz1, lz2]; rfl)
       case st29 =>
        intro K hK
        have Bq60 := Rq44.out.blk.grown Gq56g.out (fun e => HTB.out e.symm)
        have yq57 : uq47.cell? ⟨b, 0, none⟩ = some tv := by rw [Bq60.cell]; exact Rq44.out.c0
        have zq58 := Bq60.frozen 0
        go_simp
        clear yq57 zq58 Bq60
        have Fq59 := Lib.hid (Rq44.out.setTok (x := x) Gq56g.out HTK.out (v' := (.slice Aq51 (j + 1) cq52)) Gq56.out)
        refine hK.out _ _ trivial (fun ht30 => ?_)
        clear hK K
        try simp only [Act.put, lz3, lz4, lz5]
        refine wpAnyH_done (by kernel_rfl) ?_ _
        obtain ⟨W5, hW5⟩ : ∃ z, z = (uq47.setCell ⟨b, 0, none⟩ (.slice Aq51 (j + 1) cq52)) := ⟨_, rfl⟩
        have H5 := Fq59.out
        rw [← hW5] at H5 ⊢
        have HR5 := Lib.hid H5
        clear hW5 H5 hHeld
        by_cases h1 : x.length = 1
        ·obtain ⟨hj256, hxx⟩ := one_single HO.out HX.out h1
         have hcB := HR5.out.cB j hj256
         have d1 : W5.cell? ⟨b, 2 + j, none⟩ = some (.int .i64 ((if j < j then j else 0 : Nat) : Int)) := by rw [HR5.out.blk.cell]; exact hcB
         have z1 := HR5.out.blk.frozen (2 + j)
         obtain ⟨adb, y, e1, hy, yc⟩ := (HBT0.out.below HR5.out.below).at 0 (by omega)
         subst e1
         have yc0 : W5.cell? adb = some (.int .u8 (y.toNat : Int)) := by simpa [Addr.add] using yc
         have hyj : y.toNat = j := by
          rw [hxx] at hy
          simp at hy
          rw [← hy]
          exact UInt8.toNat_ofNat_of_lt' (by show _ < 256; omega)
         rw [hyj] at yc yc0
         have hl1 : ((x.length : Int) == 1) = true := by rw [h1]; rfl
         have hlN : 0 < x.length := by omega
         have hl0 : (0 : Int) < (x.length : Int) := by omega
         have hj1 : (j : Int) < 256 := by omega
         have HJ := Lib.hid hj256
         clear hcB hxx hy hyj hj256 h1
         go_wp2_with fail
         go_still_tail 8, (by kernel_rfl)
         change wpList _ _ _ _ _ W5.drew
         go_wp2_with fail
         obtain ⟨W6, hW6⟩ : ∃ z, z = (W5.setCell ⟨b, 2 + j, none⟩ (.int .i64 (j : Nat))).drew := ⟨_, rfl⟩
         have hb6 : Below W5.heap.size W5 W5 := Below.refl _ _
         have HR6 := Lib.hid ((HR5.out.setSingle HJ.out).then (w' := W6) (by rw [hW6]; exact (Below.refl _ _).drew))
         rw [← hW6]
         clear hW6 hb6 d1 z1 yc yc0
         go_roundw
         case rel => exact ⟨j + 1, _, _, by omega, by go_num, HR6.out⟩
         case measure => simp [intOf]; omega
        ·have hj256 : 256 ≤ j := by
          rcases Nat.lt_or_ge j 256 with h | h
          ·have h2 := HO.out.single j h
           rw [HX.out] at h2
           cases h2
           exact absurd rfl h1
          ·exact h
         have hl1 : ((x.length : Int) == 1) = false := by simp; omega
         have HR6 := Lib.hid (HR5.out.skip hj256)
         clear h1
         go_wp2_with fail
         go_roundw
         case rel => exact ⟨j + 1, _, _, by omega, by go_num, HR6.out⟩
         case measure => simp [intOf]; omega
    case st21 =>
     intro K hK
     go_simp
     obtain ⟨uq61, huq62⟩ : ∃ z, z = uq31.alloc (.cells #[.slice Aq37 x.length cq38] 24) := ⟨_, rfl⟩
     have Nq65 : Hid (Blk uq61 uq31.heap.size 24 #[.slice Aq37 x.length cq38]) := Lib.hid (by rw [huq62]; exact Blk.new _ _ _)
     rw [← huq62]
     have hbq63 : Below uq31.heap.size uq31 uq61 := by rw [huq62]; exact (Below.refl _ uq31).alloc (Nat.le_refl _) _
     have Hq66 := Lib.hid (Hq39.out.below hbq63)
     have Hq66b : Hid (∀ ad, Aq37 = some ad → 0 < x.length → b + 1 ≤ ad.block ∧ tv.ownBlock ≠ some ad.block) := Lib.hid (fun ad e h0 => by
      have h1 := Hq39b.out ad e h0
      have h2 := HR.out.blk.lt
      have h3 := HSZu0.out
      exact ⟨by omega, fun e2 => by have := HTV.out _ e2; omega⟩)
     have Rq64 := Lib.hid (Rq33.out.then hbq63)
     clear huq62 hbq63
     refine hK.out _ _ trivial (fun ht31 => ?_)
     clear hK K
     try simp only [Act.put, lz3, lz4, lz5]
     refine wpAnyH_ready (rs := [4]) (by kernel_rfl) (by simp) ?_
     refine AllReadyH.cons (o := ?ot32) ?ht32 ?st32 AllReadyH.nil
     case ht32 => (simp only [lz0, lz1, lz2]; rfl)
     case st32 =>
      intro K hK
      have yq67 : uq61.cell? ⟨b, 0, none⟩ = some tv := by rw [Rq64.out.blk.cell]; exact Rq64.out.c0
      go_simp
      clear yq67
      refine hK.out _ _ trivial (fun ht33 => ?_)
      clear hK K
      try simp only [Act.put, lz3, lz4, lz5]
      refine wpAnyH_ready (rs := [8]) (by kernel_rfl) (by simp) ?_
      refine AllReadyH.cons (o := ?ot34) ?ht34 ?st34 AllReadyH.nil
      case ht34 => (simp only [lz0, lz1, lz2]; rfl)
      case st34 =>
       intro K hK
       obtain ⟨svsq74, hoq75, hsq76⟩ := Rq64.out.rows
       rw [HTL.out] at hoq75
       refine step_append_srcN _ rfl (.tmp 29) (.tmp 32) 27 rfl (b + 1) 24 i0 (.slice none 0 0) 1 24 Tryz.underlying27 hi hz0 hz1 hz2 rfl (by omega) tv j svsq74 rfl hoq75 (some ⟨uq31.heap.size, 0, none⟩) 1 1 [.slice Aq37 x.length cq38] rfl ⟨rfl, fun ad e j u hu => by cases e; rw [addr_add, Nq65.out.cell]; simpa using hu, fun e => by cases e⟩ (by simp [Value.oneCell']) (by unfold maxLen; omega) (by omega) Rq64.out.blk.lt ?_
       intro v' uq68 hwq69 hgq70 hlq71
       have Gq77 := Lib.hid (RowsG.push (w := uq61) (v := tv) (L := V.tok.take j) (x := x) hsq76 (by have := hoq75.1; rw [HTL.out]; simpa using this) Hq66.out (fun A c ad e1 e2 e3 => by cases e1; exact Hq66b.out ad e2 e3) (by rw [HTL.out]; exact hwq69) hgq70 (hlq71.imp id fun h => ⟨_, h, Nat.le_refl _⟩))
       obtain ⟨Aq72, cq73, rfl⟩ := own_slice hwq69
       have Gq77n : Hid (b ≠ (Value.slice Aq72 (j + 1) cq73).ownBlock.getD (b + 1)) := Lib.hid (by
        cases hq : (Value.slice Aq72 (j + 1) cq73).ownBlock with
        | none => simp
        | some g => have := (hwq69.lt g hq).1; simp; omega)
       have Gq77g := Lib.hid hgq70
       clear hwq69 hlq71 hoq75 hsq76
       refine hK.out _ _ trivial (fun ht35 => ?_)
       clear hK K
       try simp only [Act.put, lz3, lz4, lz5]
       refine wpAnyH_take (i := 9) (oi := ?oit369) (v := ?vt369) ?hit369 (by kernel_rfl) (by kernel_rfl) (by kernel_rfl) ?hQt369 (Or.inl ⟨?hwt369, ?hyt369⟩) (by assumption) ?restt369
       case hit369 => (first | (simp only [lz0, lz1, lz2]; rfl) | rfl)
       case hQt369 => exact fun _ _ _ h => h
       case hwt369 => rfl
       case hyt369 => ((intro w hSw; go_simp); first | done | with_reducible rfl)
       try simp only [Act.put, lz3, lz4, lz5]
       refine wpAnyH_take (i := 10) (oi := ?oit3710) (v := ?vt3710) ?hit3710 (by kernel_rfl) (by kernel_rfl) (by kernel_rfl) ?hQt3710 (Or.inl ⟨?hwt3710, ?hyt3710⟩) (by assumption) ?restt3710
       case hit3710 => (first | (simp only [lz0, lz1, lz2]; rfl) | rfl)
       case hQt3710 => exact fun _ _ _ h => h
       case hwt3710 => rfl
       case hyt3710 => ((intro w hSw; go_simp); first | done | with_reducible rfl)
       try simp only [Act.put, lz3, lz4, lz5]
       refine wpAnyH_ready (rs := [11]) (by kernel_rfl) (by simp) ?_
       refine AllReadyH.cons (o := ?ot38) ?ht38 ?st38 AllReadyH.nil
       case ht38 => (simp only [lz0, lz1, lz2]; rfl)
       case st38 =>
        intro K hK
        have Bq81 := Rq64.out.blk.grown Gq77g.out (fun e => HTB.out e.symm)
        have yq78 : uq68.cell? ⟨b, 0, none⟩ = some tv := by rw [Bq81.cell]; exact Rq64.out.c0
        have zq79 := Bq81.frozen 0
        go_simp
        clear yq78 zq79 Bq81
        have Fq80 := Lib.hid (Rq64.out.setTok (x := x) Gq77g.out HTK.out (v' := (.slice Aq72 (j + 1) cq73)) Gq77.out)
        refine hK.out _ _ trivial (fun ht39 => ?_)
        clear hK K
        try simp only [Act.put, lz3, lz4, lz5]
        refine wpAnyH_done (by kernel_rfl) ?_ _
        obtain ⟨W5, hW5⟩ : ∃ z, z = (uq68.setCell ⟨b, 0, none⟩ (.slice Aq72 (j + 1) cq73)) := ⟨_, rfl⟩
        have H5 := Fq80.out
        rw [← hW5] at H5 ⊢
        have HR5 := Lib.hid H5
        clear hW5 H5 hHeld
        by_cases h1 : x.length = 1
        ·obtain ⟨hj256, hxx⟩ := one_single HO.out HX.out h1
         have hcB := HR5.out.cB j hj256
         have d1 : W5.cell? ⟨b, 2 + j, none⟩ = some (.int .i64 ((if j < j then j else 0 : Nat) : Int)) := by rw [HR5.out.blk.cell]; exact hcB
         have z1 := HR5.out.blk.frozen (2 + j)
         obtain ⟨adb, y, e1, hy, yc⟩ := (HBT0.out.below HR5.out.below).at 0 (by omega)
         subst e1
         have yc0 : W5.cell? adb = some (.int .u8 (y.toNat : Int)) := by simpa [Addr.add] using yc
         have hyj : y.toNat = j := by
          rw [hxx] at hy
          simp at hy
          rw [← hy]
          exact UInt8.toNat_ofNat_of_lt' (by show _ < 256; omega)
         rw [hyj] at yc yc0
         have hl1 : ((x.length : Int) == 1) = true := by rw [h1]; rfl
         have hlN : 0 < x.length := by omega
         have hl0 : (0 : Int) < (x.length : Int) := by omega
         have hj1 : (j : Int) < 256 := by omega
         have HJ := Lib.hid hj256
         clear hcB hxx hy hyj hj256 h1
         go_wp2_with fail
         go_still_tail 8, (by kernel_rfl)
         change wpList _ _ _ _ _ W5.drew
         go_wp2_with fail
         obtain ⟨W6, hW6⟩ : ∃ z, z = (W5.setCell ⟨b, 2 + j, none⟩ (.int .i64 (j : Nat))).drew := ⟨_, rfl⟩
         have hb6 : Below W5.heap.size W5 W5 := Below.refl _ _
         have HR6 := Lib.hid ((HR5.out.setSingle HJ.out).then (w' := W6) (by rw [hW6]; exact (Below.refl _ _).drew))
         rw [← hW6]
         clear hW6 hb6 d1 z1 yc yc0
         go_roundw
         case rel => exact ⟨j + 1, _, _, by omega, by go_num, HR6.out⟩
         case measure => simp [intOf]; omega
        ·have hj256 : 256 ≤ j := by
          rcases Nat.lt_or_ge j 256 with h | h
          ·have h2 := HO.out.single j h
           rw [HX.out] at h2
           cases h2
           exact absurd rfl h1
          ·exact h
         have hl1 : ((x.length : Int) == 1) = false := by simp; omega
         have HR6 := Lib.hid (HR5.out.skip hj256)
         clear h1
         go_wp2_with fail
         go_roundw
         case rel => exact ⟨j + 1, _, _, by omega, by go_num, HR6.out⟩
         case measure => simp [intOf]; omega
  ·have hjn : j = n := by omega
   subst hjn
   have hb1 := (two_cells (HBOX.out.below hR.below HBOX.out.lt)).2
   have HR := Lib.hid hR
   clear hR
   go_wp2_with fail
   clear hb1
   go_loopw [51] (fun i wq => ∃ (k : Nat) (D : DataW Unit), k ≤ m ∧ i = .int .i64 (k : Nat) ∧ CB w2 wq V b w3.heap.size j j k tv (.slice A3 m c3) D cs) (fun i _ => m - (intOf i).toNat)
   case atStart => exact ⟨0, _, Nat.zero_le _, rfl, HR.out⟩
   case round =>
    obtain ⟨k, D, hk, rfl, hQ⟩ := hrel
    rcases Nat.lt_or_ge k m with hlt | hge2
    ·have hmx : V.mer[k]? = some (V.mer[k]'(by rw [HML.out]; exact hlt)) := List.getElem?_eq_getElem _
     obtain ⟨x, hxe⟩ : ∃ x, x = V.mer[k]'(by rw [HML.out]; exact hlt) := ⟨_, rfl⟩
     rw [← hxe] at hmx
     obtain ⟨adm, e1, ma, mb, mt⟩ := (HV2.out.mer.below hQ.below).at_ k x hmx
     subst e1
     have fx := HV2.out.mer.bound x (List.mem_of_getElem? hmx)
     have hok := (merOk_iff hmx).1 (HO.out.mer k (by rw [HML.out]; exact hlt))
     have hno := hok.2.1
     have htk : V.mer.take (k + 1) = V.mer.take k ++ [x] := by rw [List.take_add_one, hmx]; rfl
     have htkl : (V.mer.take k).length = k := by rw [List.length_take, HML.out]; omega
     have HTKL := Lib.hid htkl
     have hiR := hQ.isR.put hno fx.1 fx.2.1
     rw [htkl, ← htk] at hiR
     have HIR := Lib.hid hiR
     have HFX := Lib.hid fx
     have HQ := Lib.hid hQ
     have hkn : (k : Int) < (m : Int) := by omega
     have hkz : (0 : Int) ≤ (k : Int) := by omega
     clear hmx hxe hok hno htk htkl hiR hQ fx
     go_wp2_with fail
     obtain ⟨X, hX⟩ : ∃ z, z = wr.alloc (.cells #[.int .i64 x.a, .int .i64 x.b, .int .i64 x.t] 88) := ⟨_, rfl⟩
     rw [← hX]
     have HX := Lib.hid (HQ.out.then (w' := X) (by rw [hX]; exact (Below.refl _ wr).alloc (Nat.le_refl _) _))
     have hN : Blk X wr.heap.size 88 #[.int .i64 x.a, .int .i64 x.b, .int .i64 x.t] := by rw [hX]; exact Blk.new _ _ _
     clear hX ma mb mt
     have n0 := hN.cell 0
     have n1 := hN.cell 1
     simp only [lz0, lz1, lz2] at n0 n1
     have d3 : X.cell? ⟨b, 258, none⟩ = some (.map (some w3.heap.size)) := by rw [HX.out.blk.cell]; exact HX.out.cM
     clear hN
     go_still_tail 10, (by kernel_rfl)
     change wpList _ _ _ _ _ X.drew
     clear n0 n1 d3
     refine wpList_mapUpdate_own _ rfl _ _ _ 89 rfl 73 3 pairLaw Tryz.underlying89 (plainElem Tryz.prog 3) w3.heap.size k D rfl HX.out.map.drew (by unfold maxLen; omega) _ _ (pk x.a x.b) rfl rfl (keyOf_pairs HFX.out.1 HFX.out.2.1) (.lit (.int .i64 (k : Int))) [] (plainElem_int Tryz.underlying3 (WalkArith.wf_i64 (by omega))) ?_
     intro w4 hown4 hgrow4
     have HY := Lib.hid ((HX.out.then (Below.refl _ X).drew).setMap hown4 hgrow4 HIR.out)
     clear hown4 hgrow4
     go_wp2_with fail
     go_roundw
     case rel => exact ⟨k + 1, _, by omega, by go_num, HY.out⟩
     case measure => simp [intOf]; omega
    ·have hkm : k = m := by omega
     subst hkm
     have HQ := Lib.hid hQ
     clear hQ
     go_wp2_with fail
     go_ret
     refine ⟨b, rfl, below_then HB2.out HQ.out.below HB2.out.size, ?_⟩
     have hC := HQ.out
     have HO_long : 256 ≤ j := by have := HO.out.long; rw [HTL0.out] at this; exact this
     have e1 := HTL0.out
     have e2 := HML.out
     subst e1
     subst e2
     exact hC.coder HO.out HO_long (fun x hx => HV.out.mer.bound x hx)
end Go.Proofs.YthcjikpabpgpfaaGreat
namespace Go.Proofs.YthcjikpabpgpfaaGreat
open Go.RowKit Go.Maps Go.WideMaps Go.Shelf
theorem new_is (w : World) (A B : Option Addr) (n m ca cb : Nat) (V : Voc) (hV : VocSee w A B n m ca cb V) (hO : VOk V) :
  Calls Tryz.prog 13 #[.agg #[.slice A n ca, .slice B m cb]] w fun e w' => ∃ b, e = .returned (.pointer (some ⟨b, 0, none⟩)) ∧ Below w.heap.size w w' ∧ Coder w' b V :=
 new_any w A B n m ca cb V hV hO
theorem of_is (w : World) (A : Option Addr) (n c : Nat) (l : List (Int × Int)) (hl : PairsIn w A n l) (hn : n ≤ 1048576) (hc : n ≤ c) {V : Voc} (hv : ofV l = V) :
  Calls Tryz.prog 11 #[.slice A n c] w fun e w' => ∃ A B n m ca cb, e = .returned (.agg #[.slice A n ca, .slice B m cb]) ∧ VocSee w' A B n m ca cb V ∧ Below w.heap.size w w' := by
 have := r6Of_any w A n c l hl hn hc
 rw [hv] at this
 exact this
theorem pairs_one (w : World) (a b : Int) (ha : fits64 a) (hb : fits64 b) : PairsIn (w.alloc (.cells #[.int .i64 a, .int .i64 b] 73)) (some ⟨w.heap.size, 0, none⟩) 1 [(a, b)] where
 len := rfl
 fit := by unfold maxLen; omega
 vals := fun p hp => by
  simp only [List.mem_cons, List.not_mem_nil, or_false] at hp
  subst hp
  exact ⟨ha, hb⟩
 nil := fun e => by cases e
 cells := fun ad e i p hp => by
  cases e
  have hn := Blk.new w 73 #[.int .i64 a, .int .i64 b]
  rw [addr_add, addr_add, hn.cell, hn.cell]
  match i with
  | 0 => simp at hp; subst hp; exact ⟨rfl, rfl⟩
  | i + 1 => simp at hp
end Go.Proofs.YthcjikpabpgpfaaGreat
namespace Go.Proofs.YthcjikpabpgpfaaGreat
open Go.RowKit Go.Maps Go.WideMaps
theorem docs_new (w : World) (k t : Nm) (hk : k.length ≤ maxLen) (ht : t.length ≤ maxLen) : DocsIn (w.alloc (.cells #[.string ⟨k.toArray⟩, .string ⟨t.toArray⟩] 49)) (some ⟨w.heap.size, 0, none⟩) 1 [(k, t)] where
 len := rfl
 fit := by unfold maxLen; omega
 vals := fun p hp => by
  rw [List.mem_singleton.1 hp]
  exact ⟨hk, ht⟩
 nil := fun e => by cases e
 cells := fun ad e i p hp => by
  cases e
  have hn := Blk.new w 49 #[.string ⟨k.toArray⟩, .string ⟨t.toArray⟩]
  rw [addr_add, addr_add, hn.cell, hn.cell]
  match i with
  | 0 => simp at hp; subst hp; exact ⟨rfl, rfl⟩
  | i + 1 => simp at hp
abbrev sh1 : List (Int × Int) := [(97, 98)]
abbrev shD : List (Nm × Nm) := [([107], [97, 97, 98])]
theorem shR : docsR shD := by decide
theorem shR2 : ¬ docsR [(([] : Nm), ([] : Nm))] := by decide
theorem shT : mTerms (docsM (ofV sh1) shD) = [97, 256] := by decide +kernel
theorem shC1 : postsT (segT (docsM (ofV sh1) shD)) 256 = some [(0, [(1, 1)])] := by decide +kernel
theorem shC2 : postsT (segT (docsM (ofV sh1) shD)) 98 = none := by decide +kernel
theorem segT_fst (L : List MDoc) : (segT L).map Prod.fst = mTerms L := by
 unfold segT
 rw [List.map_map]
 exact List.map_id'' (fun _ => rfl) _
theorem shTN : textN shD ≤ 4000 := by decide
theorem shTN2 : textN [(([] : Nm), ([] : Nm))] ≤ 4000 := by decide
theorem SegOut.yes {w w' : World} {V : Voc} {l : List (Nm × Nm)} {e : Ending} (h : SegOut w V l e w') (hl : docsR l) (hn : (segB V l).length ≤ 1099511627776) {k : Nat} (hk : (segB V l).length = k) : TextIs w (segB V l) k 0 e w' := by
 unfold SegOut at h
 rw [if_pos hl] at h
 exact TxtOut.is h hk (by omega)
theorem SegOut.no {w w' : World} {V : Voc} {l : List (Nm × Nm)} {e : Ending} (h : SegOut w V l e w') (hl : ¬ docsR l) : e = .returned (.tuple #[.slice none 0 0, .int .i64 1]) ∧ Below w.heap.size w w' := by
 unfold SegOut at h
 rw [if_neg hl] at h
 exact h
theorem flat_sum {α : Type} (f : α → Nm) (g : α → Nat) : ∀ l : List α, (∀ x ∈ l, (f x).length ≤ g x) → (l.flatMap f).length ≤ (l.map g).sum
 | [], _ => by simp
 | a :: r, h => by
  rw [List.flatMap_cons, List.length_append, List.map_cons, List.sum_cons]
  have h1 := flat_sum f g r fun x hx => h x (List.mem_cons_of_mem _ hx)
  have h2 := h a (List.mem_cons_self ..)
  omega
theorem sum_lin (c d : Nat) (g : Int → Nat) : ∀ l : List Int, (l.map fun t => c + d * g t).sum = c * l.length + d * (l.map g).sum
 | [] => by simp
 | a :: r => by
  rw [List.map_cons, List.sum_cons, sum_lin c d g r, List.length_cons, List.map_cons, List.sum_cons, Nat.mul_add, Nat.mul_add]
  omega
theorem spots_many : ∀ l : List Pst, (∀ x ∈ l, 0 < x.2.length) → l.length ≤ spotsOf l
 | [], _ => by simp
 | a :: r, h => by
  have h1 := spots_many r fun x hx => h x (List.mem_cons_of_mem _ hx)
  have h2 := h a (List.mem_cons_self ..)
  unfold spotsOf at h1 ⊢
  rw [List.map_cons, List.sum_cons, List.length_cons]
  omega
theorem segB_le {V : Voc} (hV : VOk V) {l : List (Nm × Nm)} (hl : docsR l) (ht : textN l ≤ 4000) : (segB V l).length ≤ 1000000 := by
 have hW := segW_of hV hl
 have hT := docsM_tot hV hl
 have hm := terms_len (docsM V l)
 have h64 := hl.1
 unfold segB
 rw [segM_all hV hl, List.length_append, List.length_append]
 have h1 : (headF l.length (mTerms (docsM V l)).length).length ≤ 34 := by
  unfold headF
  have q1 := putL_len l.length (by omega)
  have q2 := putL_len (mTerms (docsM V l)).length (by omega)
  have q3 := putF_le (b := putL l.length ++ putL (mTerms (docsM V l)).length) (by rw [List.length_append]; omega)
  rw [List.length_append] at q3
  omega
 have h2 := flat_le docF 4200 l fun x hx => docF_le (hl.2.1 x hx)
 have h3 := flat_sum (termF (docsM V l)) (fun t => 34 + 90 * spotsOf (mPosts (docsM V l) t)) (mTerms (docsM V l)) (fun t htm => by
  obtain ⟨t0, t1⟩ := hW.tok t htm
  have q1 := putL_len t.toNat (by omega)
  have hv := posts_valid hW.wf t
  have q2 := putP_fine hv
  have q4 := spots_many _ hv.some
  have q5 := posts_spots (docsM V l) t
  have q6 : (termB (docsM V l) t).length ≤ 20 + 90 * spotsOf (mPosts (docsM V l) t) := by
   unfold termB
   rw [List.length_append, (putE_is hW.wf t).1]
   omega
  have q7 := putF_le (b := termB (docsM V l) t) (by omega)
  unfold termF
  omega)
 rw [sum_lin, terms_count] at h3
 omega
theorem sgHead_any {S : SegSt} {K : World → (Nat → Prop) → Nat → CSt → Prop} (hS : SegOk S K) (hK : CurW K) (w : World) : Calls Tryz.prog 9 #[] w fun e w' => e = .returned (.bool true) ∧ Below w.heap.size w w' := by
 have HSO := Lib.hid hS
 have HCO := Lib.hid hK
 have HIN := Lib.hid (pairs_one w 97 98 ⟨by decide, by decide⟩ ⟨by decide, by decide⟩)
 obtain ⟨V, hV⟩ : ∃ V, V = ofV sh1 := ⟨_, rfl⟩
 have hO := ofV_ok sh1
 have hc1 := shC1
 have hc2 := shC2
 have hst := shT
 rw [← hV] at hO hc1 hc2 hst
 have HO := Lib.hid hO
 have HC1 := Lib.hid hc1
 have HC2 := Lib.hid hc2
 have HST := Lib.hid hst
 have HV := Lib.hid hV
 have HOB := Lib.hid (open_build hO shR (Nat.le_trans shTN (by omega)))
 have HWF := Lib.hid (segWF_of HOB.out)
 have HLE := Lib.hid (segB_le hO shR shTN)
 clear hV hO hc1 hc2 hst hS hK
 go_enter Tryz.func9, Tryz.ntmps9
 go_wp2_with fail
 refine (of_is _ _ 1 1 sh1 HIN.out (by omega) (by omega) HV.out.symm).mono ?_
 rintro e w1 ⟨A, B, n, m, ca, cb, rfl, hsee, hb⟩
 have HB1 := Lib.hid (below_then ((Below.refl _ w).alloc (Nat.le_refl _) _) hb (by simp))
 have HSEE := Lib.hid hsee
 clear hb hsee HIN
 go_wp2_with fail
 refine (new_is w1 A B n m ca cb V HSEE.out HO.out).mono ?_
 rintro e w2 ⟨b, rfl, hb, hC⟩
 have HB2 := Lib.hid (below_then HB1.out hb HB1.out.size)
 have HC := Lib.hid hC
 have hd := docs_new w2 [107] [97, 97, 98] (by unfold maxLen; decide) (by unfold maxLen; decide)
 obtain ⟨W3, hW3⟩ : ∃ z, z = w2.alloc (.cells #[.string ⟨([107] : Nm).toArray⟩, .string ⟨([97, 97, 98] : Nm).toArray⟩] 49) := ⟨_, rfl⟩
 rw [← hW3] at hd
 have hb3 : Below w2.heap.size w2 W3 := by rw [hW3]; exact (Below.refl _ _).alloc (Nat.le_refl _) _
 have HB3 := Lib.hid (below_then HB2.out hb3 HB2.out.size)
 have HC3 := Lib.hid (HC.out.below hb3)
 have HBU := Lib.hid (HSO.out.build HC3.out HO.out _ 1 1 shD hd (by omega) shTN)
 have HW3 := Lib.hid hW3
 clear hb hC hd hW3 hb3
 go_wp2_with fail
 rw [show w2.alloc (.cells #[.string ⟨#[107]⟩, .string ⟨#[97, 97, 98]⟩] 49) = W3 from HW3.out.symm]
 refine HBU.out.mono ?_
 intro e w4 hso
 obtain ⟨k, hk⟩ : ∃ k, (segB V shD).length = k := ⟨_, rfl⟩
 obtain ⟨A4, c4, rfl, hby, hc4, hb4⟩ := hso.yes shR (by have := HLE.out; omega) hk
 have hk6 : k ≤ 1000000 := by rw [← hk]; exact HLE.out
 have HB4 := Lib.hid (below_then HB3.out hb4 HB3.out.size)
 have HC4 := Lib.hid (HC3.out.below hb4)
 have hop := HSO.out.open_ w4 A4 k c4 (segB V shD) hby hc4 hk6
 rw [HOB.out] at hop
 have HOP := Lib.hid hop
 clear hso hby hb4 hop HBU hk
 go_wp2_with fail
 refine HOP.out.mono ?_
 rintro e w5 ⟨hb5, g, F, rfl, hs5, hF5⟩
 have HB5 := Lib.hid (below_then HB4.out hb5 HB4.out.size)
 have HC5 := Lib.hid (HC4.out.below hb5)
 have HS5 := Lib.hid hs5
 have hd := docs_new w5 [] [] (by unfold maxLen; decide) (by unfold maxLen; decide)
 obtain ⟨W6, hW6⟩ : ∃ z, z = w5.alloc (.cells #[.string ⟨([] : Nm).toArray⟩, .string ⟨([] : Nm).toArray⟩] 49) := ⟨_, rfl⟩
 rw [← hW6] at hd
 have hb6 : Below w5.heap.size w5 W6 := by rw [hW6]; exact (Below.refl _ _).alloc (Nat.le_refl _) _
 have HB6 := Lib.hid (below_then HB5.out hb6 HB5.out.size)
 have HS6 := Lib.hid (HSO.out.below hs5 hb6)
 have HBU := Lib.hid (HSO.out.build (HC5.out.below hb6) HO.out _ 1 1 _ hd (by omega) shTN2)
 have HW6 := Lib.hid hW6
 clear hb5 hs5 hF5 hd hW6 hb6 HOP
 go_wp2_with fail
 rw [show w5.alloc (.cells #[.string ⟨#[]⟩, .string ⟨#[]⟩] 49) = W6 from HW6.out.symm]
 refine HBU.out.mono ?_
 intro e w7 hso
 obtain ⟨rfl, hb7⟩ := hso.no shR2
 have HB7 := Lib.hid (below_then HB6.out hb7 HB6.out.size)
 have HS7 := Lib.hid (HSO.out.below HS6.out hb7)
 have HDC := Lib.hid (HSO.out.doc HS7.out HWF.out 0 (by unfold fits64; omega))
 have hce := fun w p => (coderNil w p).1
 have hse := fun w p => (segNil w p).1
 clear hso hb7 HBU
 go_wp2_with fail
 refine HDC.out.mono ?_
 rintro e w8 ⟨rfl, hb8⟩
 have HB8 := Lib.hid (below_then HB7.out hb8 HB7.out.size)
 have HS8 := Lib.hid (HSO.out.below HS7.out hb8)
 have hda : docAt shD 0 = (([107] : Nm), ([97, 97, 98] : Nm)) := rfl
 have hdb : decide ((0 : Int) ≤ 0 ∧ (0 : Int) < ((shD.length : Nat) : Int)) = true := by decide
 rw [hda, hdb]
 obtain ⟨W9, hW9⟩ : ∃ z, z = w8.alloc (.cells #[.string ⟨([107] : Nm).toArray⟩, .string ⟨([97, 97, 98] : Nm).toArray⟩] 49) := ⟨_, rfl⟩
 have hb9 : Below w8.heap.size w8 W9 := by rw [hW9]; exact (Below.refl _ _).alloc (Nat.le_refl _) _
 have HB9 := Lib.hid (below_then HB8.out hb9 HB8.out.size)
 have HS9 := Lib.hid (HSO.out.below HS8.out hb9)
 have hbl : Blk W9 w8.heap.size 49 #[.string ⟨([107] : Nm).toArray⟩, .string ⟨([97, 97, 98] : Nm).toArray⟩] := by rw [hW9]; exact Blk.new _ _ _
 have HBL := Lib.hid hbl
 have htm := HSO.out.terms HS9.out HWF.out
 rw [segT_fst, HST.out] at htm
 have HTM := Lib.hid htm
 have HW0 : Hid (CWF (cStart [(0, [(1, 1)])])) := Lib.hid (CWF.start (by decide) (by decide))
 clear htm
 have HW9 := Lib.hid hW9
 obtain ⟨xb, hxb⟩ : ∃ xb, xb = w8.heap.size := ⟨_, rfl⟩
 have HXB := Lib.hid hxb
 clear hb8 hda hdb hW9 hb9 hbl hxb HDC
 simp only
 go_wp2_with fail
 rw [show w8.alloc (.cells #[.string ⟨#[107]⟩, .string ⟨#[97, 97, 98]⟩] 49) = W9 from HW9.out.symm, ← HXB.out]
 refine HTM.out.mono ?_
 rintro e w10 ⟨At, ct, rfl, hti, hct, hb10⟩
 have HB10 := Lib.hid (below_then HB9.out hb10 HB9.out.size)
 have HS10 := Lib.hid (HSO.out.below HS9.out hb10)
 have HBL10 := Lib.hid (HBL.out.below hb10 HBL.out.lt)
 have HTI := Lib.hid (show IntsIn w10 At 2 [97, 256] from hti)
 have hcu := HSO.out.cursor HS10.out HWF.out 256 (by unfold fits64; omega)
 rw [HC1.out] at hcu
 have HCU := Lib.hid hcu
 have hl2 : ([97, 256] : List Int).length = 2 := rfl
 rw [hl2]
 clear hti hct hb10 hcu hl2 HTM
 go_wp2_with fail
 refine HCU.out.mono ?_
 rintro e w11 ⟨hb11, cb, Fc, rfl, hk11, hFc⟩
 have HB11 := Lib.hid (below_then HB10.out hb11 HB10.out.size)
 have HS11 := Lib.hid (HSO.out.below HS10.out hb11)
 have hbl := HBL10.out.below hb11 HBL10.out.lt
 rw [← HXB.out] at hbl
 have t1 := hbl.cell 1
 simp only [lz0, lz1, lz2] at t1
 obtain ⟨pt, y, rfl, hy, t2, -, -⟩ := (HTI.out.below hb11).at 1 (by omega)
 simp only [lz1, lz2, Option.some.injEq] at hy
 subst hy
 have t2' := at_one t2
 have hq1 : ((⟨#[97, 97, 98]⟩ : ByteArray).toList == (⟨#[97, 97, 98]⟩ : ByteArray).toList) = true := by simp
 have hnp := fun w p => (cursNil w p).2
 have hep := fun w p => (cursNil w p).1
 have hsp := HCO.out.spots hk11 HW0.out
 have HSP := Lib.hid (show Calls Tryz.prog 27 #[.pointer (some ⟨cb, 0, none⟩)] w11 (SpotsNew w11 [(1, 1)]) from hsp)
 clear hk11 hFc hb11 hbl hsp HCU
 go_wp2_with fail
 refine HSP.out.mono ?_
 rintro e w12 ⟨As, cs, rfl, -, -, -, hb12⟩
 have HB12 := Lib.hid (below_then HB11.out hb12 HB11.out.size)
 have HS12 := Lib.hid (HSO.out.below HS11.out hb12)
 have hcu := HSO.out.cursor HS12.out HWF.out 98 (by unfold fits64; omega)
 rw [HC2.out] at hcu
 have HCU := Lib.hid hcu
 have hl1 : ([(1, 1)] : List (Int × Int)).length = 1 := rfl
 rw [hl1]
 clear hb12 hcu hl1 HSP t1 t2 t2'
 go_wp2_with fail
 refine HCU.out.mono ?_
 rintro e w13 ⟨hb13, rfl⟩
 have HB13 := Lib.hid (below_then HB12.out hb13 HB12.out.size)
 have HMN := Lib.hid (HSO.out.many (HSO.out.below HS12.out hb13) HWF.out)
 clear hb13 HCU
 go_wp2_with fail
 refine HMN.out.mono ?_
 rintro e w14 ⟨rfl, hb14⟩
 have HB14 := Lib.hid (below_then HB13.out hb14 HB13.out.size)
 have hl1 : ((shD.length : Nat) : Int) = 1 := rfl
 rw [hl1]
 clear hb14 hl1 HMN
 go_wp2
 go_ret
 exact ⟨rfl, HB14.out⟩
end Go.Proofs.YthcjikpabpgpfaaGreat
