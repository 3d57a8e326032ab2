import Derived.Test.YthcjikpabpgpfaaGreatZp0
import Derived.Test.YthcjikpabpgpfaaGreatZp33
import Derived.Test.YthcjikpabpgpfaaGreatZp23
import Derived.Test.YthcjikpabpgpfaaGreatZp29
import Derived.Deep.RegionHeld3
import Derived.Deep.DeepCutAuto
import Derived.Deep.QuietTactic
import Derived.BigQuiet
set_option linter.unusedSimpArgs false
set_option maxHeartbeats 16000000
set_option maxRecDepth 100000
namespace Go.Proofs.YthcjikpabpgpfaaGreat
open Go.RowKit Go.Maps Go.WideMaps
theorem built {V : Voc} (hV : VOk V) {l : List (Nm × Nm)} (hl : docsR l) (ht : textN l ≤ 3000) : ∃ X : Nm, X = segB V l ∧ X.length ≤ 1000000 ∧ openR X = some (l, segT (docsM V l)) ∧ SegWF l (segT (docsM V l)) ∧ 0 < X.length := by
 have h1 := open_build hV hl (by omega)
 refine ⟨_, rfl, segB_le hV hl (by omega), h1, segWF_of h1, ?_⟩
 rw [segB_flat]
 unfold segL
 rw [List.flatMap_cons, List.length_append]
 have := putF_pos (headW l.length (mTerms (segM V l l.length)).length)
 omega
theorem behind_room {l : List (Nm × Nm)} {L : List MDoc} {i : Nat} {pr : Nm × Nm} (h : l[i]? = some pr) : pr.2.length ≤ (((segL l L).take (2 + i)).flatMap putF).length ∧ (((segL l L).take (2 + i)).flatMap putF).length ≤ ((segL l L).flatMap putF).length := by
 have hlt := (List.getElem?_eq_some_iff.1 h).1
 have hsl := segL_len l L
 have hat : (segL l L)[1 + i]? = some (docB pr) := by
  have h1 := segL_doc L h
  rw [List.getD_eq_getElem?_getD, List.getElem?_eq_getElem (by omega)] at h1
  rw [List.getElem?_eq_getElem (by omega)]
  exact congrArg some h1
 refine ⟨?_, flat_len_le _ _⟩
 rw [show 2 + i = (1 + i) + 1 by omega, flat_next _ hat, List.length_append, putF_len]
 have : pr.2.length ≤ (docB pr).length := by simp [docB]; omega
 omega
theorem segSpoilt_any {S : SegSt} {K : World → (Nat → Prop) → Nat → CSt → Prop} (hS : SegOk S K) (hK : CurW K) (W : World) (P : Option Addr) (p cp : Nat) (ps : List (Int × Int)) (hp : PairsIn W P p ps) (hpc : p ≤ cp) (D : Option Addr) (n c : Nat) (l : List (Nm × Nm)) (hd : DocsIn W D n l) (hnc : n ≤ c) (cut : Nat) (hcut : cut < 65536) (wh : Nat) (hwh : wh < 256) (t : Nat) (ht : t < 65536) (y : UInt8) :
  Calls Tryz.prog 5 #[.slice P p cp, .slice D n c, .int .u16 cut, .int .u8 wh, .int .u16 t, .int .u8 y.toNat] W fun e w' => e = .returned (.bool true) ∧ Below W.heap.size W w' := by
 obtain ⟨i0, hi, hz0, hz1, hz2⟩ := info_parts byteInfo
 have HP := Lib.hid hp
 have HD := Lib.hid hd
 have HPC := Lib.hid hpc
 have HNC := Lib.hid hnc
 have hp63 := hp.fit
 have hlen := hd.len
 have HLEN := Lib.hid hlen
 unfold maxLen at hp63
 have hy8 := y.toNat_lt
 obtain ⟨V1, hV1⟩ : ∃ V, ofV ps = V := ⟨_, rfl⟩
 have HO1 : Hid (VOk V1) := Lib.hid (hV1 ▸ ofV_ok ps)
 have HV1 := Lib.hid hV1
 have hse := fun w p => (segNil w p).1
 have hsn := fun w p => (segNil w p).2
 clear hp hd hpc hnc hV1 hlen
 have HSO := Lib.hid hS
 have HCO := Lib.hid hK
 have HH := Lib.hid (sgHead_any hS hK W)
 clear hS hK
 go_enter Tryz.func5, Tryz.ntmps5
 go_wp2_with fail
 refine HH.out.mono ?_
 rintro e w1 ⟨rfl, hb1⟩
 have HB1 := Lib.hid hb1
 have HG := Lib.hid (sgGreat_any w1 P D p cp n c l (by omega) (HD.out.below HB1.out))
 clear hb1 HH
 go_wp2_with fail
 refine HG.out.mono ?_
 rintro e w2 ⟨r, rfl, ⟨q2, hw2⟩, hr⟩
 have HB : Hid (Below W.heap.size W w2) := Lib.hid (by rw [hw2]; exact below_drewN HB1.out q2)
 clear hw2 HG HB1
 cases r with
 | true =>
  clear hr
  go_wp2
  go_ret
  exact ⟨rfl, HB.out⟩
 | false =>
 have HSM := Lib.hid (hr rfl)
 clear hr
 have hp60 := HSM.out.1
 by_cases hy0 : y.toNat = 0
 ·have qy : ((y.toNat : Int) == 0) = true := by simp; omega
  clear hy0
  go_wp2
  go_ret
  exact ⟨rfl, HB.out⟩
 have qy : ((y.toNat : Int) == 0) = false := by simpa using hy0
 have HY0 := Lib.hid hy0
 clear hy0
 by_cases hR : docsR l
 ·have HR := Lib.hid hR
  have hn64 : n ≤ 64 := by rw [← HLEN.out]; exact hR.1
  have HW : Hid (SegW (docsM V1 l) l.length) := Lib.hid (segW_of HO1.out hR)
  have htl := docsM_tot HO1.out hR
  have hsh := segL_short hR HW.out (by rw [docsM_len]; exact hR.1) (by have := HSM.out.2.text; omega)
  have HSH := Lib.hid hsh
  have hX : segB V1 l = (segL l (docsM V1 l)).flatMap putF := by rw [segB_flat, segM_all HO1.out hR]
  have HX := Lib.hid hX
  have hm6 : (mTerms (docsM V1 l)).length ≤ 1000000 := by have h1 := terms_len (docsM V1 l); have h2 := HSM.out.2.text; omega
  have HM6 := Lib.hid hm6
  have HLE1 : Hid ((segB V1 l).length ≤ 1000000) := Lib.hid (segB_le HO1.out hR (by have := HSM.out.2.text; omega))
  have HPOS : Hid (0 < (segB V1 l).length) := Lib.hid (by
   obtain ⟨X', hX', -, -, -, hp'⟩ := built HO1.out hR HSM.out.2.text
   rw [← hX']
   exact hp')
  clear hR htl hsh hX hm6
  go_wp2_with fail
  refine (of_is w2 P p cp _ (HP.out.below HB.out) (by omega) HPC.out HV1.out).mono ?_
  rintro e x1 ⟨A1, B1, n1, m1, ca1, cb1, rfl, hsee, hb⟩
  replace HB := Lib.hid (below_then HB.out hb HB.out.size)
  have HE1 := Lib.hid hsee
  clear hb hsee
  go_wp2_with fail
  refine (new_is x1 A1 B1 n1 m1 ca1 cb1 V1 HE1.out HO1.out).mono ?_
  rintro e y1 ⟨b1, rfl, hb, hC⟩
  replace HB := Lib.hid (below_then HB.out hb HB.out.size)
  have HC1 := Lib.hid hC
  clear hb hC HE1
  have HU1 := Lib.hid (HSO.out.build HC1.out HO1.out D n c l (HD.out.below HB.out) HNC.out (by have := HSM.out.2.text; omega))
  go_wp2_with fail
  refine HU1.out.mono ?_
  intro e z1 hso
  obtain ⟨k1, hk⟩ : ∃ k, (segB V1 l).length = k := ⟨_, rfl⟩
  obtain ⟨S1, cs1, rfl, hby, hcc, hb⟩ := hso.yes HR.out (by have := HLE1.out; omega) hk
  have hkl1 : k1 ≤ 1000000 := by rw [← hk]; exact HLE1.out
  have HK1 := Lib.hid hk
  replace HB := Lib.hid (below_then HB.out hb HB.out.size)
  have HBY1 := Lib.hid hby
  have HCC1 := Lib.hid hcc
  clear hso hby hcc hb hk HU1
  have hk0 : 0 < k1 := by rw [← HK1.out]; exact HPOS.out
  obtain ⟨q, hq⟩ : ∃ q, q = cut % k1 := ⟨_, rfl⟩
  have hqk : q < k1 := by rw [hq]; exact Nat.mod_lt cut hk0
  have hqz : (cut : Int) % (k1 : Int) = (q : Int) := by rw [hq]; simp
  have HOC : Hid (openR ((segB V1 l).take q) = none) := Lib.hid (by
   rw [HX.out]
   exact openR_cut HSH.out (by rw [HLEN.out]; omega) HM6.out (by rw [← HX.out, HK1.out]; exact hqk))
  have HBQ := Lib.hid (HBY1.out.upto q (by omega))
  have hqc : q ≤ cs1 := by have := HCC1.out; omega
  have HQC := Lib.hid hqc
  have s1 : ∀ w, (Instr.slice 24 (.slice S1 k1 cs1) none (some (.int .i64 q)) none).run Tryz.prog w = .ok (.slice S1 q cs1) w := fun w => slice_to w _ k1 cs1 q (by have := HCC1.out; omega)
  have hk0' : ((k1 : Int) == 0) = false := by simp; omega
  have hk0z : ¬ (k1 : Int) = 0 := by omega
  clear hq
  have hop := HSO.out.open_ z1 S1 q cs1 ((segB V1 l).take q) HBQ.out HQC.out (by omega)
  rw [HOC.out] at hop
  have HOPN := Lib.hid hop
  clear hop
  go_wp2_with fail
  refine HOPN.out.mono ?_
  rintro e w4 ⟨hb, rfl⟩
  replace HB := Lib.hid (below_then HB.out hb HB.out.size)
  replace HBY1 := Lib.hid (HBY1.out.below hb)
  clear hb HOPN
  clear s1 hqz
  by_cases hn0 : n = 0
  ·have e0 : ((n : Int) == 0) = true := by simp; omega
   go_wp2
   go_ret
   exact ⟨rfl, HB.out⟩
  have e0 : ((n : Int) == 0) = false := by simp; omega
  have hn0z : ¬ (n : Int) = 0 := by omega
  obtain ⟨i, hi'⟩ : ∃ i, i = wh % n := ⟨_, rfl⟩
  have hin : i < n := by rw [hi']; exact Nat.mod_lt wh (by omega)
  have hiz : (wh : Int) % (n : Int) = (i : Int) := by rw [hi']; simp
  have p0 : (0 : Int) ≤ (i : Int) := by omega
  have p1 : (i : Int) < (n : Int) := by omega
  obtain ⟨pd, pr, rfl, hpr, -, a1, -, -⟩ := (HD.out.below HB.out).at i hin
  obtain ⟨xk, xt⟩ := pr
  simp only at a1
  have z2 := str_size xt
  have HPR := Lib.hid hpr
  obtain ⟨tl, htl⟩ : ∃ tl, tl = xt.length := ⟨_, rfl⟩
  rw [← htl] at z2
  have HTL := Lib.hid htl
  have htl4 : tl < 3000 := by rw [htl]; exact (HSM.out.2.each _ (List.mem_of_getElem? hpr)).2
  clear hi' hpr htl
  by_cases ht0 : tl = 0
  ·have f0 : ((tl : Int) == 0) = true := by simp; omega
   clear ht0
   go_wp2
   go_ret
   exact ⟨rfl, HB.out⟩
  have f0 : ((tl : Int) == 0) = false := by simp; omega
  have ht0z : ¬ (tl : Int) = 0 := by omega
  obtain ⟨hroom1, hroom2⟩ := behind_room (L := docsM V1 l) HPR.out
  simp only at hroom1
  rw [← HTL.out] at hroom1
  rw [← HX.out, HK1.out] at hroom2
  obtain ⟨N, hN⟩ : ∃ N, N = (((segL l (docsM V1 l)).take (2 + i)).flatMap putF).length := ⟨_, rfl⟩
  rw [← hN] at hroom1 hroom2
  have hbh := sgBehind_any w4 S1 k1 cs1 (segL l (docsM V1 l)) HSH.out (by rw [← HX.out]; exact HBY1.out) (by omega) (m := i + 1) (by rw [segL_len, HLEN.out]; omega) (by omega)
  rw [show i + 1 + 1 = 2 + i by omega, ← hN] at hbh
  have HBH := Lib.hid hbh
  have HNN := Lib.hid hN
  have hwi : IntKind.i64.wrap ((i : Int) + 1) = ((i + 1 : Nat) : Int) := by rw [IntWalk.i64_in _ (by omega)]; push_cast; rfl
  clear hN hbh
  go_wp2_with fail
  refine HBH.out.mono ?_
  rintro e w5 ⟨rfl, q5, hw5⟩
  have hb : Below w4.heap.size w4 w5 := by rw [hw5]; exact below_drewN (Below.refl _ _) _
  replace HB := Lib.hid (below_then HB.out hb HB.out.size)
  replace HBY1 := Lib.hid (HBY1.out.below hb)
  have a2 := below_cells hb a1
  clear hb hw5 a1 HBH hwi
  have g1 : decide ((N : Int) < (tl : Int)) = false := by simp; omega
  have g2 : decide ((k1 : Int) < (N : Int)) = false := by simp; omega
  obtain ⟨r, hr⟩ : ∃ r, r = t % tl := ⟨_, rfl⟩
  have hrt : r < tl := by rw [hr]; exact Nat.mod_lt t (by omega)
  have hrz : (t : Int) % (tl : Int) = (r : Int) := by rw [hr]; simp
  obtain ⟨j, hj⟩ : ∃ j, j = N - 1 - r := ⟨_, rfl⟩
  have hjk : j < k1 := by omega
  have hjz0 : IntKind.i64.wrap ((N : Int) - 1) = (N : Int) - 1 := IntWalk.i64_in _ (by omega)
  have hjz : IntKind.i64.wrap ((N : Int) - 1 - (r : Int)) = (j : Int) := by rw [IntWalk.i64_in _ (by omega)]; omega
  have hXl : (segB V1 l).length = k1 := HK1.out
  obtain ⟨xx, hxx⟩ : ∃ x, (segB V1 l)[j]? = some x := ⟨(segB V1 l)[j]'(by omega), List.getElem?_eq_getElem _⟩
  have HXX : Hid (((segB V1 l).map byteV)[j]? = some (.int .u8 xx.toNat)) := Lib.hid (by rw [List.getElem?_map, hxx]; rfl)
  have hxy : bits .xor .u8 (xx.toNat : Int) (y.toNat : Int) = ((xx ^^^ y).toNat : Int) := by
   have h1 := xx.toNat_lt
   rw [u8_xor_nat _ _ (by omega) (by omega)]
   simp
  obtain ⟨z, hz⟩ : ∃ z, z = xx ^^^ y := ⟨_, rfl⟩
  rw [← hz] at hxy
  have hzx : z ≠ xx := fun e => HY0.out (by
   rw [e] at hz
   have h2 : xx.toNat = xx.toNat ^^^ y.toNat := by rw [← UInt8.toNat_xor, ← hz]
   have h3 := xor_inj (a := xx.toNat) (b := 0) (c := y.toNat) (by rw [Nat.xor_zero]; exact h2)
   omega)
  have HTU : Hid (openR ((segB V1 l).set j z) = none) := Lib.hid (by
   have e1 : j = (((segL l (docsM V1 l)).take (2 + i)).flatMap putF).length - 1 - r := by rw [← HNN.out]; exact hj
   rw [HX.out] at hxx ⊢
   rw [e1] at hxx ⊢
   exact openR_turned HSH.out HPR.out (by simp only; rw [← HTL.out]; exact hrt) hxx hzx)
  have hp0 : (0 : Int) ≤ (j : Int) := by omega
  have hp1 : (j : Int) < (k1 : Int) := by omega
  obtain ⟨W6, hW6⟩ : ∃ zz, zz = w5.alloc (.cells #[] 5) := ⟨_, rfl⟩
  have hb6 : Below w5.heap.size w5 W6 := by rw [hW6]; exact (Below.refl _ _).alloc (Nat.le_refl _) _
  have HB6 := Lib.hid hb6
  have HL6 := Lib.hid (HBY1.out.below hb6)
  have HO6 : Hid (W6.ownsRow w5.heap.size 5 1 (.slice (some ⟨w5.heap.size, 0, none⟩) 0 0) 0 []) := Lib.hid (by rw [hW6]; exact World.ownsRow_made w5 #[] 0 (Nat.le_refl _) (Nat.zero_le _) rfl)
  have HW6 := Lib.hid hW6
  have HNJ := Lib.hid hj
  clear hr hj hxx hz hzx hb6 hW6 hXl
  go_wp2_with (at_builtin; rw [← HW6.out]; refine wpList_append_src _ rfl (.tmp 110) (.tmp 111) 24 rfl w5.heap.size 5 i0 (.int .u8 0) 1 Tryz.underlying24 hi hz0 hz1 hz2 rfl _ 0 [] rfl HO6.out S1 k1 cs1 ((segB V1 l).map byteV) rfl HL6.out.2.1 (u8_one _) (by unfold maxLen; omega) (by omega) HB6.out.size ?_; intro v w7 hown hgrow hloc; obtain ⟨gg, cap, rfl⟩ := Go.Joins.ownsRow_form hown (by omega); rw [Nat.zero_add, List.nil_append] at hown; have c1 := (hown.cellAt j (by omega)).trans HXX.out; have zf := hown.frozenAt j; have HO7 := Lib.hid hown; have HG7 := Lib.hid hgrow; rw [Nat.zero_add]; clear hown hgrow hloc)
  have hcap : k1 ≤ cap := rowCap_le HO7.out
  have HCAP := Lib.hid hcap
  have hg1 : w5.heap.size ≤ gg := (HO7.out.lt gg rfl).1
  have B8 : Below w5.heap.size w5 (w7.setCell ⟨gg, j, none⟩ (.int .u8 z.toNat)) :=
   (HB6.out.grown HG7.out HB6.out.size (fun k e => by cases e; exact Nat.le_refl _)).setCell (by show _ ≤ gg; exact hg1) _
  have HB8 := Lib.hid (below_then HB.out B8 HB.out.size)
  have I8 : Hid (BytesIn (w7.setCell ⟨gg, j, none⟩ (.int .u8 z.toNat)) (some ⟨gg, 0, none⟩) k1 ((segB V1 l).set j z)) := Lib.hid (by
   have h := (HO7.out.stored j (.int .u8 z.toNat)).1
   refine BytesIn.own (base := w5.heap.size) (c := cap) ?_ (by unfold maxLen; omega)
   rw [List.map_set]
   exact h)
  have hop := HSO.out.open_ _ (some ⟨gg, 0, none⟩) k1 cap _ I8.out hcap (by omega)
  rw [HTU.out] at hop
  have HOPN := Lib.hid hop
  clear hop B8 hcap hg1
  refine HOPN.out.mono ?_
  rintro e w9 ⟨hb9, rfl⟩
  have HB9 := Lib.hid (below_then HB8.out hb9 HB8.out.size)
  clear hb9 HOPN
  go_wp2
  go_ret
  exact ⟨rfl, HB9.out⟩
 ·have HR := Lib.hid hR
  clear hR
  go_wp2_with fail
  refine (of_is w2 P p cp _ (HP.out.below HB.out) (by omega) HPC.out HV1.out).mono ?_
  rintro e x1 ⟨A1, B1, n1, m1, ca1, cb1, rfl, hsee, hb⟩
  replace HB := Lib.hid (below_then HB.out hb HB.out.size)
  have HE1 := Lib.hid hsee
  clear hb hsee
  go_wp2_with fail
  refine (new_is x1 A1 B1 n1 m1 ca1 cb1 V1 HE1.out HO1.out).mono ?_
  rintro e y1 ⟨b1, rfl, hb, hC⟩
  replace HB := Lib.hid (below_then HB.out hb HB.out.size)
  have HC1 := Lib.hid hC
  clear hb hC HE1
  have HU1 := Lib.hid (HSO.out.build HC1.out HO1.out D n c l (HD.out.below HB.out) HNC.out (by have := HSM.out.2.text; omega))
  go_wp2_with fail
  refine HU1.out.mono ?_
  intro e z1 hso
  obtain ⟨rfl, hb⟩ := hso.no HR.out
  replace HB := Lib.hid (below_then HB.out hb HB.out.size)
  clear hso hb HU1
  go_wp2
  go_ret
  exact ⟨rfl, HB.out⟩
end Go.Proofs.YthcjikpabpgpfaaGreat
