import Derived.Test.YthcjikpabpgpfaaGreatZp0
import Derived.Test.YthcjikpabpgpfaaGreatZp47
import Derived.Test.YthcjikpabpgpfaaGreatZp32
import Derived.Deep.RegionHeld3
import Derived.Deep.DeepCutAuto
import Derived.Deep.QuietTactic
import Derived.BigQuiet
set_option linter.unusedSimpArgs false
set_option maxHeartbeats 16000000
set_option maxRecDepth 100000
namespace Go.Proofs.YthcjikpabpgpfaaGreat
open Go.RowKit Go.Maps Go.WideMaps
theorem bytes_nil (w : World) : BytesIn w none 0 [] := ⟨by unfold maxLen; omega, ⟨rfl, (fun ad e => by cases e), fun _ => rfl⟩, fun ad e => by cases e⟩
theorem postsT_none {T : List (Int × List Pst)} {t : Int} (h : ∀ x ∈ T, x.1 ≠ t) : postsT T t = none := by
 unfold postsT
 rw [List.find?_eq_none.2 fun x hx => by simpa using h x hx]
 rfl
theorem docAt_in {D : List (Nm × Nm)} {i : Nat} {p : Nm × Nm} (h : D[i]? = some p) : docAt D (i : Int) = p ∧ decide (0 ≤ (i : Int) ∧ (i : Int) < ((D.length : Nat) : Int)) = true := by
 have hlt := (List.getElem?_eq_some_iff.1 h).1
 unfold docAt
 rw [if_pos ⟨by omega, by omega⟩, Int.toNat_natCast, List.getD_eq_getElem?_getD, h]
 exact ⟨rfl, by simp; omega⟩
theorem docAt_end (D : List (Nm × Nm)) : docAt D ((D.length : Nat) : Int) = ([], []) ∧ decide (0 ≤ ((D.length : Nat) : Int) ∧ ((D.length : Nat) : Int) < ((D.length : Nat) : Int)) = false := by
 unfold docAt
 rw [if_neg (by omega)]
 exact ⟨rfl, by simp⟩
theorem built {V : Voc} (hV : VOk V) {l : List (Nm × Nm)} (hl : docsR l) (ht : textN l ≤ 3000) : ∃ X : Nm, X = segB V l ∧ X.length ≤ 1000000 ∧ openR X = some (l, segT (docsM V l)) ∧ SegWF l (segT (docsM V l)) ∧ 0 < X.length := by
 have h1 := open_build hV hl (by omega)
 refine ⟨_, rfl, segB_le hV hl (by omega), h1, segWF_of h1, ?_⟩
 rw [segB_flat]
 unfold segL
 rw [List.flatMap_cons, List.length_append]
 have := putF_pos (headW l.length (mTerms (segM V l l.length)).length)
 omega
theorem segAlike_any {S : SegSt} {K : World → (Nat → Prop) → Nat → CSt → Prop} (hS : SegOk S K) (hK : CurW K) (W : World) (P : Option Addr) (p cp : Nat) (ps : List (Int × Int)) (hp : PairsIn W P p ps) (hpc : p ≤ cp) (Q : Option Addr) (q cq : Nat) (qs : List (Int × Int)) (hq : PairsIn W Q q qs) (hqc : q ≤ cq) (D : Option Addr) (n c : Nat) (l : List (Nm × Nm)) (hd : DocsIn W D n l) (hnc : n ≤ c) :
  Calls Tryz.prog 6 #[.slice P p cp, .slice Q q cq, .slice D n c] W fun e w' => e = .returned (.bool true) ∧ Below W.heap.size W w' := by
 have HP := Lib.hid hp
 have HQ := Lib.hid hq
 have HD := Lib.hid hd
 have HPC := Lib.hid hpc
 have HQC := Lib.hid hqc
 have HNC := Lib.hid hnc
 have hp63 := hp.fit
 have hq63 := hq.fit
 have hlen := hd.len
 have HLEN := Lib.hid hlen
 unfold maxLen at hp63 hq63
 obtain ⟨V1, hV1⟩ : ∃ V, ofV ps = V := ⟨_, rfl⟩
 obtain ⟨V3, hV3⟩ : ∃ V, ofV qs = V := ⟨_, rfl⟩
 have HO1 : Hid (VOk V1) := Lib.hid (hV1 ▸ ofV_ok ps)
 have HO3 : Hid (VOk V3) := Lib.hid (hV3 ▸ ofV_ok qs)
 have HV1 := Lib.hid hV1
 have HV3 := Lib.hid hV3
 have hep := fun w p => (cursNil w p).1
 have hse := fun w p => (segNil w p).1
 clear hp hq hd hpc hqc hnc hV1 hV3 hlen
 have HSO := Lib.hid hS
 have HCO := Lib.hid hK
 have HH := Lib.hid (sgHead_any hS hK W)
 clear hS hK
 go_enter Tryz.func6, Tryz.ntmps6
 go_wp2_with fail
 refine HH.out.mono ?_
 rintro e w1 ⟨rfl, hb1⟩
 have HB1 := Lib.hid hb1
 have HG := Lib.hid (sgGreat_any w1 P D p cp n c l (by omega) (HD.out.below HB1.out))
 clear hb1 HH
 go_wp2_with fail
 refine HG.out.mono ?_
 rintro e w2 ⟨r, rfl, ⟨q2, hw2⟩, hr⟩
 have HB : Hid (Below W.heap.size W w2) := Lib.hid (by rw [hw2]; exact below_drewN HB1.out q2)
 clear hw2 HG HB1
 cases r with
 | true =>
  clear hr
  go_wp2
  go_ret
  exact ⟨rfl, HB.out⟩
 | false =>
 have HSM := Lib.hid (hr rfl)
 clear hr
 have hp60 := HSM.out.1
 by_cases hq60 : 60 < q
 ·have d1 : decide ((60 : Int) < (q : Int)) = true := by simp; omega
  go_wp2
  go_ret
  exact ⟨rfl, HB.out⟩
 have d1 : decide ((60 : Int) < (q : Int)) = false := by simp; omega
 by_cases hR : docsR l
 ·have HR := Lib.hid hR
  have hn64 : n ≤ 64 := by rw [← HLEN.out]; exact hR.1
  obtain ⟨X3, hX3, hle3, hop3, hwf3, -⟩ := built HO3.out hR HSM.out.2.text
  have HLE1 : Hid ((segB V1 l).length ≤ 1000000) := Lib.hid (segB_le HO1.out hR (by have := HSM.out.2.text; omega))
  have HLE3 : Hid ((segB V3 l).length ≤ 1000000) := Lib.hid (by rw [← hX3]; exact hle3)
  have HOP3 : Hid (openR (segB V3 l) = some (l, segT (docsM V3 l))) := Lib.hid (by rw [← hX3]; exact hop3)
  have HWF := Lib.hid hwf3
  clear hR hle3 hX3 hop3 hwf3
  go_wp2_with fail
  refine (of_is w2 P p cp _ (HP.out.below HB.out) (by omega) HPC.out HV1.out).mono ?_
  rintro e x1 ⟨A1, B1, n1, m1, ca1, cb1, rfl, hsee, hb⟩
  replace HB := Lib.hid (below_then HB.out hb HB.out.size)
  have HE1 := Lib.hid hsee
  clear hb hsee
  go_wp2_with fail
  refine (new_is x1 A1 B1 n1 m1 ca1 cb1 V1 HE1.out HO1.out).mono ?_
  rintro e y1 ⟨b1, rfl, hb, hC⟩
  replace HB := Lib.hid (below_then HB.out hb HB.out.size)
  have HC1 := Lib.hid hC
  clear hb hC HE1
  have HU1 := Lib.hid (HSO.out.build HC1.out HO1.out D n c l (HD.out.below HB.out) HNC.out (by have := HSM.out.2.text; omega))
  go_wp2_with fail
  refine HU1.out.mono ?_
  intro e z1 hso
  obtain ⟨k1, hk⟩ : ∃ k, (segB V1 l).length = k := ⟨_, rfl⟩
  obtain ⟨S1, cs1, rfl, hby, hcc, hb⟩ := hso.yes HR.out (by have := HLE1.out; omega) hk
  have hkl1 : k1 ≤ 1000000 := by rw [← hk]; exact HLE1.out
  have HK1 := Lib.hid hk
  replace HB := Lib.hid (below_then HB.out hb HB.out.size)
  have HBY1 := Lib.hid hby
  have HCC1 := Lib.hid hcc
  clear hso hby hcc hb hk HU1
  go_wp2_with fail
  refine (of_is z1 P p cp _ (HP.out.below HB.out) (by omega) HPC.out HV1.out).mono ?_
  rintro e x2 ⟨A2, B2, n2, m2, ca2, cb2, rfl, hsee, hb⟩
  replace HB := Lib.hid (below_then HB.out hb HB.out.size)
  replace HBY1 := Lib.hid (HBY1.out.below hb)
  have HE2 := Lib.hid hsee
  clear hb hsee
  go_wp2_with fail
  refine (new_is x2 A2 B2 n2 m2 ca2 cb2 V1 HE2.out HO1.out).mono ?_
  rintro e y2 ⟨b2, rfl, hb, hC⟩
  replace HB := Lib.hid (below_then HB.out hb HB.out.size)
  replace HBY1 := Lib.hid (HBY1.out.below hb)
  have HC2 := Lib.hid hC
  clear hb hC HE2
  have HU2 := Lib.hid (HSO.out.build HC2.out HO1.out D n c l (HD.out.below HB.out) HNC.out (by have := HSM.out.2.text; omega))
  go_wp2_with fail
  refine HU2.out.mono ?_
  intro e z2 hso
  obtain ⟨k2, hk⟩ : ∃ k, (segB V1 l).length = k := ⟨_, rfl⟩
  obtain ⟨S2, cs2, rfl, hby, hcc, hb⟩ := hso.yes HR.out (by have := HLE1.out; omega) hk
  have hkl2 : k2 ≤ 1000000 := by rw [← hk]; exact HLE1.out
  have HK2 := Lib.hid hk
  replace HB := Lib.hid (below_then HB.out hb HB.out.size)
  replace HBY1 := Lib.hid (HBY1.out.below hb)
  have HBY2 := Lib.hid hby
  have HCC2 := Lib.hid hcc
  clear hso hby hcc hb hk HU2
  go_wp2_with fail
  refine (of_is z2 Q q cq _ (HQ.out.below HB.out) (by omega) HQC.out HV3.out).mono ?_
  rintro e x3 ⟨A3, B3, n3, m3, ca3, cb3, rfl, hsee, hb⟩
  replace HB := Lib.hid (below_then HB.out hb HB.out.size)
  replace HBY1 := Lib.hid (HBY1.out.below hb)
  replace HBY2 := Lib.hid (HBY2.out.below hb)
  have HE3 := Lib.hid hsee
  clear hb hsee
  go_wp2_with fail
  refine (new_is x3 A3 B3 n3 m3 ca3 cb3 V3 HE3.out HO3.out).mono ?_
  rintro e y3 ⟨b3, rfl, hb, hC⟩
  replace HB := Lib.hid (below_then HB.out hb HB.out.size)
  replace HBY1 := Lib.hid (HBY1.out.below hb)
  replace HBY2 := Lib.hid (HBY2.out.below hb)
  have HC3 := Lib.hid hC
  clear hb hC HE3
  have HU3 := Lib.hid (HSO.out.build HC3.out HO3.out D n c l (HD.out.below HB.out) HNC.out (by have := HSM.out.2.text; omega))
  go_wp2_with fail
  refine HU3.out.mono ?_
  intro e z3 hso
  obtain ⟨k3, hk⟩ : ∃ k, (segB V3 l).length = k := ⟨_, rfl⟩
  obtain ⟨S3, cs3, rfl, hby, hcc, hb⟩ := hso.yes HR.out (by have := HLE3.out; omega) hk
  have hkl3 : k3 ≤ 1000000 := by rw [← hk]; exact HLE3.out
  have HK3 := Lib.hid hk
  replace HB := Lib.hid (below_then HB.out hb HB.out.size)
  replace HBY1 := Lib.hid (HBY1.out.below hb)
  replace HBY2 := Lib.hid (HBY2.out.below hb)
  have HBY3 := Lib.hid hby
  have HCC3 := Lib.hid hcc
  clear hso hby hcc hb hk HU3
  have hs1 := str_of HBY1.out cs1
  have hs2 := str_of HBY2.out cs2
  have hs1' : (convert 24 9 (.slice S1 k1 cs1)).run Tryz.prog z3 = .ok (.string ⟨(segB V1 l).toArray⟩) z3 := hs1
  have hs2' : (convert 24 9 (.slice S2 k2 cs2)).run Tryz.prog z3 = .ok (.string ⟨(segB V1 l).toArray⟩) z3 := hs2
  obtain ⟨X1, hX1⟩ : ∃ X1 : ByteArray, X1 = ⟨(segB V1 l).toArray⟩ := ⟨_, rfl⟩
  rw [← hX1] at hs1' hs2'
  have hxx : (X1.toList == X1.toList) = true := by simp
  clear hs1 hs2 hX1
  have hop := HSO.out.open_ z3 S3 k3 cs3 (segB V3 l) HBY3.out HCC3.out hkl3
  rw [HOP3.out] at hop
  have HOPN := Lib.hid hop
  clear hop
  go_wp2_with fail
  refine HOPN.out.mono ?_
  rintro e w4 ⟨hb, g, Fg, rfl, hs, -⟩
  replace HB := Lib.hid (below_then HB.out hb HB.out.size)
  replace HBY3 := Lib.hid (HBY3.out.below hb)
  have HSg := Lib.hid hs
  clear hb hs HOPN
  have HMN := Lib.hid (HSO.out.many HSg.out HWF.out)
  clear hs1' hs2' hxx
  go_wp2_with fail
  refine HMN.out.mono ?_
  rintro e w5 ⟨rfl, hb⟩
  replace HB := Lib.hid (below_then HB.out hb HB.out.size)
  replace HSg := Lib.hid (HSO.out.below HSg.out hb)
  rw [HLEN.out]
  have hnn : ((n : Int) != (n : Int)) = false := by simp
  clear hb HMN
  go_wp2
  go_loopw [16] (fun iv wr => ∃ i : Nat, i ≤ n ∧ iv = .int .i64 i ∧ Below w5.heap.size w5 wr) (fun iv _ => n - (intOf iv).toNat)
  case atStart => exact ⟨0, by omega, rfl, Below.refl _ _⟩
  case round =>
   obtain ⟨i, hi, rfl, hbr⟩ := hrel
   have HR5 := Lib.hid hbr
   have HSr := Lib.hid (HSO.out.below HSg.out hbr)
   have HBr := Lib.hid (below_then HB.out hbr HB.out.size)
   clear hbr
   rcases Nat.lt_or_ge i n with hlt | hge
   ·have dd : decide ((i : Int) < (n : Int)) = true := by simpa using hlt
    have p0 : (0 : Int) ≤ (i : Int) := by omega
    have p1 : (i : Int) < (n : Int) := by omega
    have hwi : IntKind.i64.wrap ((i : Int) + 1) = (i : Int) + 1 := IntWalk.i64_in _ (by omega)
    obtain ⟨pd, pr, rfl, hpr, -, -, -, -⟩ := HD.out.at i hlt
    have hdc := HSO.out.doc HSr.out HWF.out (i : Int) (by unfold fits64; omega)
    rw [(docAt_in hpr).1, (docAt_in hpr).2] at hdc
    have HDC := Lib.hid hdc
    have HPR := Lib.hid hpr
    clear hdc hpr
    go_wp2_with fail
    refine HDC.out.mono ?_
    rintro e w6 ⟨rfl, hb6⟩
    obtain ⟨W7, hW7⟩ : ∃ zz, zz = w6.alloc (.cells #[.string ⟨pr.1.toArray⟩, .string ⟨pr.2.toArray⟩] 49) := ⟨_, rfl⟩
    have hb7 : Below w6.heap.size w6 W7 := by rw [hW7]; exact (Below.refl _ _).alloc (Nat.le_refl _) _
    have hbx : Blk W7 w6.heap.size 49 #[.string ⟨pr.1.toArray⟩, .string ⟨pr.2.toArray⟩] := by rw [hW7]; exact Blk.new _ _ _
    have h57 := below_then HR5.out (below_then hb6 hb7 hb6.size) HR5.out.size
    have H57 := Lib.hid h57
    obtain ⟨pd', pr', e1, hpr', a0, a1, -, -⟩ := (HD.out.below (below_then HB.out h57 HB.out.size)).at i hlt
    obtain rfl := Option.some.inj e1
    obtain rfl := Option.some.inj (HPR.out.symm.trans hpr')
    obtain ⟨xb, hxb⟩ : ∃ xb, xb = w6.heap.size := ⟨_, rfl⟩
    rw [← hxb] at hbx
    obtain ⟨xk, xt⟩ := pr
    simp only at hbx a0 a1 hW7
    have x0 : ∀ q, (W7.drewN q).cell? ⟨xb, 0, none⟩ = some (.string ⟨xk.toArray⟩) := fun _ => hbx.cell 0
    have x1 : ∀ q, (W7.drewN q).cell? ⟨xb, 1, none⟩ = some (.string ⟨xt.toArray⟩) := fun _ => hbx.cell 1
    have a0w : ∀ q, (W7.drewN q).cell? (pd.add (i * 2)) = some (.string ⟨xk.toArray⟩) := fun _ => a0
    have a1w : ∀ q, (W7.drewN q).cell? ⟨(pd.add (i * 2)).block, (pd.add (i * 2)).off + 1, none⟩ = some (.string ⟨xt.toArray⟩) := fun _ => a1
    have hne := fun w => docNe (xk, xt) (xk, xt) (r := true) (by simp) w
    simp only at hne
    have HXB := Lib.hid hxb
    have HW7 := Lib.hid hW7
    clear hb6 hb7 hbx h57 hpr' e1 a0 a1 hxb hW7 HDC
    simp only
    go_upto_region 18 with fail
    rw [← HW7.out, ← HXB.out]
    go_quiet (fail)
    go_wp2
    go_roundw
    case rel => exact ⟨i + 1, by omega, by go_num, below_drewN H57.out _⟩
    case measure => simp [intOf]; omega
   ·obtain rfl : i = n := by omega
    have hlz : ¬ ((i : Int) < (i : Int)) := by omega
    have hdc := HSO.out.doc HSr.out HWF.out ((l.length : Nat) : Int) (by have := HLEN.out; unfold fits64; omega)
    rw [(docAt_end l).1, (docAt_end l).2, HLEN.out] at hdc
    have HDC := Lib.hid hdc
    clear hdc
    go_wp2_with fail
    refine HDC.out.mono ?_
    rintro e w6 ⟨rfl, hb6⟩
    obtain ⟨W7, hW7⟩ : ∃ zz, zz = w6.alloc (.cells #[.string ⟨([] : Nm).toArray⟩, .string ⟨([] : Nm).toArray⟩] 49) := ⟨_, rfl⟩
    have hb7 : Below w6.heap.size w6 W7 := by rw [hW7]; exact (Below.refl _ _).alloc (Nat.le_refl _) _
    have h67 := below_then hb6 hb7 hb6.size
    have HB7 := Lib.hid (below_then HBr.out h67 HBr.out.size)
    have HS7 := Lib.hid (HSO.out.below HSr.out h67)
    have hc1 := HSO.out.cursor HS7.out HWF.out (-1) (by unfold fits64; omega)
    rw [postsT_none fun x hx => by have := (HWF.out.tok x hx).1; omega] at hc1
    have HC1 := Lib.hid hc1
    have HW7 := Lib.hid hW7
    clear hb6 hb7 h67 hc1 hW7 HDC
    simp only
    go_wp2_with fail
    rw [show w6.alloc (.cells #[.string ⟨#[]⟩, .string ⟨#[]⟩] 49) = W7 from HW7.out.symm]
    refine HC1.out.mono ?_
    rintro e w8 ⟨hb8, rfl⟩
    have HB8 := Lib.hid (below_then HB7.out hb8 HB7.out.size)
    have hc2 := HSO.out.cursor (HSO.out.below HS7.out hb8) HWF.out 512 (by unfold fits64; omega)
    rw [postsT_none fun x hx => by have := (HWF.out.tok x hx).2; omega] at hc2
    have HC2 := Lib.hid hc2
    clear hb8 hc2 HC1
    go_wp2_with fail
    refine HC2.out.mono ?_
    rintro e w9 ⟨hb9, rfl⟩
    have HB9 := Lib.hid (below_then HB8.out hb9 HB8.out.size)
    clear hb9 HC2
    go_wp2
    go_ret
    exact ⟨rfl, HB9.out⟩
 ·have HR := Lib.hid hR
  clear hR
  go_wp2_with fail
  refine (of_is w2 P p cp _ (HP.out.below HB.out) (by omega) HPC.out HV1.out).mono ?_
  rintro e x1 ⟨A1, B1, n1, m1, ca1, cb1, rfl, hsee, hb⟩
  replace HB := Lib.hid (below_then HB.out hb HB.out.size)
  have HE1 := Lib.hid hsee
  clear hb hsee
  go_wp2_with fail
  refine (new_is x1 A1 B1 n1 m1 ca1 cb1 V1 HE1.out HO1.out).mono ?_
  rintro e y1 ⟨b1, rfl, hb, hC⟩
  replace HB := Lib.hid (below_then HB.out hb HB.out.size)
  have HC1 := Lib.hid hC
  clear hb hC HE1
  have HU1 := Lib.hid (HSO.out.build HC1.out HO1.out D n c l (HD.out.below HB.out) HNC.out (by have := HSM.out.2.text; omega))
  go_wp2_with fail
  refine HU1.out.mono ?_
  intro e z1 hso
  obtain ⟨rfl, hb⟩ := hso.no HR.out
  replace HB := Lib.hid (below_then HB.out hb HB.out.size)
  clear hso hb HU1
  go_wp2_with fail
  refine (of_is z1 P p cp _ (HP.out.below HB.out) (by omega) HPC.out HV1.out).mono ?_
  rintro e x2 ⟨A2, B2, n2, m2, ca2, cb2, rfl, hsee, hb⟩
  replace HB := Lib.hid (below_then HB.out hb HB.out.size)
  have HE2 := Lib.hid hsee
  clear hb hsee
  go_wp2_with fail
  refine (new_is x2 A2 B2 n2 m2 ca2 cb2 V1 HE2.out HO1.out).mono ?_
  rintro e y2 ⟨b2, rfl, hb, hC⟩
  replace HB := Lib.hid (below_then HB.out hb HB.out.size)
  have HC2 := Lib.hid hC
  clear hb hC HE2
  have HU2 := Lib.hid (HSO.out.build HC2.out HO1.out D n c l (HD.out.below HB.out) HNC.out (by have := HSM.out.2.text; omega))
  go_wp2_with fail
  refine HU2.out.mono ?_
  intro e z2 hso
  obtain ⟨rfl, hb⟩ := hso.no HR.out
  replace HB := Lib.hid (below_then HB.out hb HB.out.size)
  clear hso hb HU2
  go_wp2_with fail
  refine (of_is z2 Q q cq _ (HQ.out.below HB.out) (by omega) HQC.out HV3.out).mono ?_
  rintro e x3 ⟨A3, B3, n3, m3, ca3, cb3, rfl, hsee, hb⟩
  replace HB := Lib.hid (below_then HB.out hb HB.out.size)
  have HE3 := Lib.hid hsee
  clear hb hsee
  go_wp2_with fail
  refine (new_is x3 A3 B3 n3 m3 ca3 cb3 V3 HE3.out HO3.out).mono ?_
  rintro e y3 ⟨b3, rfl, hb, hC⟩
  replace HB := Lib.hid (below_then HB.out hb HB.out.size)
  have HC3 := Lib.hid hC
  clear hb hC HE3
  have HU3 := Lib.hid (HSO.out.build HC3.out HO3.out D n c l (HD.out.below HB.out) HNC.out (by have := HSM.out.2.text; omega))
  go_wp2_with fail
  refine HU3.out.mono ?_
  intro e z3 hso
  obtain ⟨rfl, hb⟩ := hso.no HR.out
  replace HB := Lib.hid (below_then HB.out hb HB.out.size)
  clear hso hb HU3
  have hs1 := str_of (bytes_nil z3) 0
  have hs1' : (convert 24 9 (.slice none 0 0)).run Tryz.prog z3 = .ok (.string ⟨#[]⟩) z3 := hs1
  have hxx : ((⟨#[]⟩ : ByteArray).toList == (⟨#[]⟩ : ByteArray).toList) = true := by simp
  clear hs1
  go_wp2
  go_ret
  exact ⟨rfl, HB.out⟩
end Go.Proofs.YthcjikpabpgpfaaGreat
