import Derived.Test.YthcjikpabpgpfaaGreatZp0
import Derived.Test.YthcjikpabpgpfaaGreatZp31
import Derived.Test.YthcjikpabpgpfaaGreatZp22
import Derived.Test.YthcjikpabpgpfaaGreatZp26
import Derived.Test.YthcjikpabpgpfaaGreatZp5
import Derived.Test.YthcjikpabpgpfaaGreatZp27
import Derived.Test.YthcjikpabpgpfaaGreatZp12
import Derived.Deep.RegionHeld3
import Derived.Deep.DeepCutAuto
import Derived.Deep.QuietTactic
import Derived.BigQuiet
set_option linter.unusedSimpArgs false
set_option maxHeartbeats 16000000
set_option maxRecDepth 100000
namespace Go.Proofs.YthcjikpabpgpfaaGreat
open Go.RowKit Go.Maps Go.WideMaps
theorem built {V : Voc} (hV : VOk V) {l : List (Nm × Nm)} (hl : docsR l) (ht : textN l ≤ 3000) : ∃ X : Nm, X = segB V l ∧ X.length ≤ 1000000 ∧ openR X = some (l, segT (docsM V l)) ∧ SegWF l (segT (docsM V l)) ∧ 0 < X.length := by
 have h1 := open_build hV hl (by omega)
 refine ⟨_, rfl, segB_le hV hl (by omega), h1, segWF_of h1, ?_⟩
 rw [segB_flat]
 unfold segL
 rw [List.flatMap_cons, List.length_append]
 have := putF_pos (headW l.length (mTerms (segM V l l.length)).length)
 omega
theorem bspot_fields : ∃ f g : Field, Tryz.prog.fieldsOf 64 = #[f, g] ∧ f.name ≠ "_" ∧ g.name ≠ "_" ∧ f.type = 2 ∧ g.type = 2 ∧ f.offset = 0 ∧ g.offset = 1 :=
 ⟨_, _, rfl, by decide, by decide, rfl, rfl, rfl, rfl⟩
theorem eqSpot (y1 y2 x1 x2 : Int) {r : Bool} (h : ((y1 == x1) && (y2 == x2)) = r) (w : World) : (binOp .eql 64 (.agg #[.int .i64 y1, .int .i64 y2]) (.agg #[.int .i64 x1, .int .i64 x2])).run Tryz.prog w = .ok (.bool r) w := by
 subst h
 obtain ⟨f, g, h1, h2, h3, h4, h5, h6, h7⟩ := bspot_fields
 rw [run_eql_struct, run_equalIn_struct w 9999 64 _ _ rfl (by kernel_rfl), h1]
 have he : ∀ a b : Int, ∀ w : World, (Op.equalIn 9999 2 (.int .i64 a) (.int .i64 b)).run Tryz.prog w = .ok (a == b) w := fun a b w => run_equalIn_int w 9998 2 .i64 .i64 a b Tryz.underlying2
 simp only [Op.eqFields, h4, h5, h6, h7, if_pos h2, if_pos h3]
 simp [part, he]
 cases hA : (y1 == x1) <;> cases hB : (y2 == x2) <;> simp_all
theorem starts_len {V : Voc} (hV : VOk V) {s : Nm} (hs : s.length ≤ 4096) : (startsR V.tok (encR V.mer s)).length = (encR V.mer s).length := by
 rw [enc_starts hV hs, startsUp_len, encR_is hs]
theorem totT_takeB (L : List MDoc) (k : Nat) : totT (L.take k) ≤ totT L := by
 have h1 : totT L = totT (L.take k) + totT (L.drop k) := by rw [← totT_append, List.take_append_drop]
 omega
theorem bsegT_get {L : List MDoc} {t : Int} (h : t ∈ mTerms L) : postsT (segT L) t = some (mPosts L t) := by
 obtain ⟨i, hi, e⟩ := List.getElem_of_mem h
 have hx : (mTerms L)[i]? = some t := by rw [List.getElem?_eq_getElem hi, e]
 exact postsT_at (by rw [segT_fst]; exact terms_up L) (segT_at hx)
theorem segBack_any {S : SegSt} {K : World → (Nat → Prop) → Nat → CSt → Prop} (hS : SegOk S K) (hK : CurW K) (W : World) (P : Option Addr) (p cp : Nat) (ps : List (Int × Int)) (hp : PairsIn W P p ps) (hpc : p ≤ cp) (D : Option Addr) (n c : Nat) (l : List (Nm × Nm)) (hd : DocsIn W D n l) (hnc : n ≤ c) :
  Calls Tryz.prog 4 #[.slice P p cp, .slice D n c] W fun e w' => e = .returned (.bool true) ∧ Below W.heap.size W w' := by
 have HP := Lib.hid hp
 have HD := Lib.hid hd
 have HPC := Lib.hid hpc
 have HNC := Lib.hid hnc
 have hp63 := hp.fit
 have hlen := hd.len
 have HLEN := Lib.hid hlen
 unfold maxLen at hp63
 obtain ⟨V1, hV1⟩ : ∃ V, ofV ps = V := ⟨_, rfl⟩
 have HO1 : Hid (VOk V1) := Lib.hid (hV1 ▸ ofV_ok ps)
 have HV1 := Lib.hid hV1
 have hse := fun w p => (segNil w p).1
 have hce := fun w p => (coderNil w p).1
 clear hp hd hpc hnc hV1 hlen
 have HSO := Lib.hid hS
 have HCO := Lib.hid hK
 have HH := Lib.hid (sgHead_any hS hK W)
 clear hS hK
 go_enter Tryz.func4, Tryz.ntmps4
 go_wp2_with fail
 refine HH.out.mono ?_
 rintro e w1 ⟨rfl, hb1⟩
 have HB1 := Lib.hid hb1
 have HG := Lib.hid (sgGreat_any w1 P D p cp n c l (by omega) (HD.out.below HB1.out))
 clear hb1 HH
 go_wp2_with fail
 refine HG.out.mono ?_
 rintro e w2 ⟨r, rfl, ⟨q2, hw2⟩, hr⟩
 have HB : Hid (Below W.heap.size W w2) := Lib.hid (by rw [hw2]; exact below_drewN HB1.out q2)
 clear hw2 HG HB1
 cases r with
 | true =>
  clear hr
  go_wp2
  go_ret
  exact ⟨rfl, HB.out⟩
 | false =>
 have HSM := Lib.hid (hr rfl)
 clear hr
 have hp60 := HSM.out.1
 by_cases hR : docsR l
 ·have HR := Lib.hid hR
  have hn64 : n ≤ 64 := by rw [← HLEN.out]; exact hR.1
  obtain ⟨X1, hX1, hle1, hop1, hwf1, -⟩ := built HO1.out hR HSM.out.2.text
  have HLE1 : Hid ((segB V1 l).length ≤ 1000000) := Lib.hid (by rw [← hX1]; exact hle1)
  have HOP1 : Hid (openR (segB V1 l) = some (l, segT (docsM V1 l))) := Lib.hid (by rw [← hX1]; exact hop1)
  have HWF := Lib.hid hwf1
  have HMW := Lib.hid (docsM_wf HO1.out hR)
  have HTOT : Hid (totT (docsM V1 l) ≤ 3000) := Lib.hid (Nat.le_trans (docsM_tot HO1.out hR) HSM.out.2.text)
  obtain ⟨L, hL⟩ : ∃ L, L = docsM V1 l := ⟨_, rfl⟩
  rw [← hL] at HOP1 HWF HMW HTOT
  have HL := Lib.hid hL
  clear hR hX1 hle1 hop1 hwf1 hL
  go_wp2_with fail
  refine (of_is w2 P p cp _ (HP.out.below HB.out) (by omega) HPC.out HV1.out).mono ?_
  rintro e x1 ⟨A1, B1, n1, m1, ca1, cb1, rfl, hsee, hb⟩
  replace HB := Lib.hid (below_then HB.out hb HB.out.size)
  have HE1 := Lib.hid hsee
  clear hb hsee
  go_wp2_with fail
  refine (new_is x1 A1 B1 n1 m1 ca1 cb1 V1 HE1.out HO1.out).mono ?_
  rintro e y1 ⟨b1, rfl, hb, hC⟩
  replace HB := Lib.hid (below_then HB.out hb HB.out.size)
  have HC1 := Lib.hid hC
  clear hb hC HE1
  have HU1 := Lib.hid (HSO.out.build HC1.out HO1.out D n c l (HD.out.below HB.out) HNC.out (by have := HSM.out.2.text; omega))
  go_wp2_with fail
  refine HU1.out.mono ?_
  intro e z1 hso
  obtain ⟨k1, hk⟩ : ∃ k, (segB V1 l).length = k := ⟨_, rfl⟩
  obtain ⟨S1, cs1, rfl, hby, hcc, hb⟩ := hso.yes HR.out (by have := HLE1.out; omega) hk
  have hkl1 : k1 ≤ 1000000 := by rw [← hk]; exact HLE1.out
  have HK1 := Lib.hid hk
  replace HB := Lib.hid (below_then HB.out hb HB.out.size)
  replace HC1 := Lib.hid (HC1.out.below hb)
  have HBY1 := Lib.hid hby
  have HCC1 := Lib.hid hcc
  clear hso hby hcc hb hk HU1
  have hop := HSO.out.open_ z1 S1 k1 cs1 (segB V1 l) HBY1.out HCC1.out hkl1
  rw [HOP1.out] at hop
  have HOPN := Lib.hid hop
  clear hop
  go_wp2_with fail
  refine HOPN.out.mono ?_
  rintro e w4 ⟨hb, g, Fg, rfl, hs, -⟩
  replace HB := Lib.hid (below_then HB.out hb HB.out.size)
  replace HC1 := Lib.hid (HC1.out.below hb)
  replace HBY1 := Lib.hid (HBY1.out.below hb)
  have HSg := Lib.hid hs
  clear hb hs HOPN
  have HMN := Lib.hid (HSO.out.many HSg.out HWF.out)
  go_wp2_with fail
  refine HMN.out.mono ?_
  rintro e w5 ⟨rfl, hb⟩
  replace HB := Lib.hid (below_then HB.out hb HB.out.size)
  replace HC1 := Lib.hid (HC1.out.below hb)
  replace HSg := Lib.hid (HSO.out.below HSg.out hb)
  rw [HLEN.out]
  clear hb HMN
  have dnn : ((n : Int) != (n : Int)) = false := by simp
  go_wp2
  have HBEL := Lib.hid (Below.refl w5.heap.size w5)
  go_loopw [11, 12] (fun wv iv wr => ∃ i : Nat, i ≤ n ∧ wv = .int .i64 ((totT (L.take i) : Nat) : Int) ∧ iv = .int .i64 i ∧ Below w5.heap.size w5 wr) (fun _ iv _ => n - (intOf iv).toNat)
  case atStart => exact ⟨0, by omega, by simp [totT], rfl, HBEL.out⟩
  case round =>
   clear HBEL
   obtain ⟨i, hi', rfl, rfl, hbr⟩ := hrel
   have HR5 := Lib.hid hbr
   have HSr := Lib.hid (HSO.out.below HSg.out hbr)
   have HBr := Lib.hid (below_then HB.out hbr HB.out.size)
   have HCr := Lib.hid (HC1.out.below hbr)
   have hzr := hbr.size
   clear hbr
   obtain ⟨t0, ht0⟩ : ∃ t0, t0 = totT (L.take i) := ⟨_, rfl⟩
   rw [← ht0]
   have HT0 := Lib.hid ht0
   clear ht0
   rcases Nat.lt_or_ge i n with hlt | hge
   ·have d1 : decide ((i : Int) < (n : Int)) = true := by simpa using hlt
    have p0 : (0 : Int) ≤ (i : Int) := by omega
    have p1 : (i : Int) < (n : Int) := by omega
    have hwi : IntKind.i64.wrap ((i : Int) + 1) = (i : Int) + 1 := IntWalk.i64_in _ (by omega)
    obtain ⟨pd, pr, rfl, hpr, a0, a1, -, -⟩ := (HD.out.below HBr.out).at i hlt
    obtain ⟨xk, xt⟩ := pr
    simp only at a0 a1
    have HPR := Lib.hid hpr
    have hx4 : xt.length ≤ 4096 := (HR.out.2.1 _ (List.mem_of_getElem? hpr)).2.2
    have hda : docAt l (i : Int) = (xk, xt) := by unfold docAt; rw [if_pos (by rw [HLEN.out]; omega), Int.toNat_natCast, List.getD_eq_getElem?_getD, hpr]; rfl
    have hdoc := HSO.out.doc HSr.out HWF.out (i : Int) ⟨by omega, by omega⟩
    rw [hda, HLEN.out, decide_eq_true (show 0 ≤ (i : Int) ∧ (i : Int) < (n : Int) by omega)] at hdoc
    have HDOC := Lib.hid hdoc
    obtain ⟨q1, q2⟩ := toks_in (V := V1) hpr
    rw [← HL.out] at q1 q2
    obtain ⟨T, hT⟩ : ∃ T, encR V1.mer xt = T := ⟨_, rfl⟩
    obtain ⟨tl, htl⟩ : ∃ tl, T.length = tl := ⟨_, rfl⟩
    obtain ⟨St, hSt⟩ : ∃ St, startsR V1.tok T = St := ⟨_, rfl⟩
    have hSl : St.length = tl := by rw [← hSt, ← htl, ← hT]; exact starts_len HO1.out hx4
    have htm : tl ≤ 4096 := by rw [← htl, ← hT]; exact encR_len _ _
    have hnx : totT (L.take (i + 1)) = t0 + tl := by
     have h1 : L[i]? = some (docM V1 i (xk, xt)) := by rw [HL.out]; exact docsM_at hpr
     rw [List.take_add_one, h1, Option.toList_some, totT_append, ← HT0.out, ← htl, ← hT]
     simp [totT, docM]
    have hmx : t0 + tl ≤ 3000 := by rw [← hnx]; exact Nat.le_trans (totT_takeB _ _) HTOT.out
    have HQ1 := Lib.hid q1
    have HQ2 := Lib.hid q2
    have HT := Lib.hid hT
    have HTL := Lib.hid htl
    have HST := Lib.hid hSt
    have HSL := Lib.hid hSl
    have HNX := Lib.hid hnx
    have hwt : IntKind.i64.wrap ((t0 : Int) + (tl : Int)) = ((t0 + tl : Nat) : Int) := by rw [IntWalk.i64_in _ (by omega)]; push_cast; rfl
    clear hpr hda hdoc q1 q2 hT htl hSt hSl hnx
    go_wp2_with fail
    refine HDOC.out.mono ?_
    rintro e w6 ⟨rfl, hb6⟩
    obtain ⟨W7, hW7⟩ : ∃ z, z = w6.alloc (.cells #[.string ⟨xk.toArray⟩, .string ⟨xt.toArray⟩] 49) := ⟨_, rfl⟩
    obtain ⟨g7, hg7⟩ : ∃ z, z = w6.heap.size := ⟨_, rfl⟩
    have hb7 : Below w6.heap.size w6 W7 := by rw [hW7]; exact (Below.refl _ w6).alloc (Nat.le_refl _) _
    have hbl7 : Blk W7 g7 49 #[.string ⟨xk.toArray⟩, .string ⟨xt.toArray⟩] := by rw [hW7, hg7]; exact Blk.new _ _ _
    have hb67 := below_then hb6 hb7 hb6.size
    have e0 : ∀ k, (W7.drewN k).cell? (pd.add (i * 2)) = some (.string ⟨xk.toArray⟩) := fun _ => below_cells hb67 a0
    have e1 : ∀ k, (W7.drewN k).cell? ⟨(pd.add (i * 2)).block, (pd.add (i * 2)).off + 1, none⟩ = some (.string ⟨xt.toArray⟩) := fun _ => below_cells hb67 a1
    have e2 : ∀ k, (W7.drewN k).cell? ⟨g7, 0, none⟩ = some (.string ⟨xk.toArray⟩) := fun _ => by simpa using hbl7.cell 0
    have e3 : ∀ k, (W7.drewN k).cell? ⟨g7, 1, none⟩ = some (.string ⟨xt.toArray⟩) := fun _ => by simpa using hbl7.cell 1
    have hne : ∀ w, (binOp .neq 49 (.agg #[.string ⟨xk.toArray⟩, .string ⟨xt.toArray⟩]) (.agg #[.string ⟨xk.toArray⟩, .string ⟨xt.toArray⟩])).run Tryz.prog w = .ok (.bool false) w := fun w => docNe (xk, xt) (xk, xt) (r := true) (by simp) w
    have HW7 := Lib.hid hW7
    have HG7 := Lib.hid hg7
    have HRW7 := Lib.hid (below_then HR5.out hb67 HR5.out.size)
    have hz7 := hb67.size
    clear hb6 hb7 hbl7 hb67 hW7 hg7 HDOC a0 a1
    go_upto_region 18 with fail
    rw [← HW7.out, ← HG7.out]
    go_quiet (fail)
    obtain ⟨w8, hw8⟩ : ∃ z, z = W7.drewN nq := ⟨_, rfl⟩
    have hx1 : w8.cell? ⟨(pd.add (i * 2)).block, (pd.add (i * 2)).off + 1, none⟩ = some (.string ⟨xt.toArray⟩) := by rw [hw8]; exact e1 nq
    rw [← hw8]
    have HR8 : Hid (Below w5.heap.size w5 w8) := Lib.hid (by rw [hw8]; exact below_drewN HRW7.out _)
    obtain ⟨cc, u1, hrun, hbc, hbi, hcc, -⟩ := bytes_of w8 xt (by omega)
    have HRU := Lib.hid (below_then HR8.out hbc HR8.out.size)
    have HBI := Lib.hid hbi
    have HENC := Lib.hid (encode_is u1 b1 V1 (HC1.out.below HRU.out) HO1.out _ _ cc xt hbi HT.out HTL.out (encE_is hx4))
    clear hbc hbi e0 e1 e2 e3 hne hw8
    go_wp2_with fail
    refine HENC.out.mono ?_
    rintro e u2 ⟨At, ct, rfl, hit, -, hb2⟩
    have HRU2 := Lib.hid (below_then HRU.out hb2 HRU.out.size)
    have HIT := Lib.hid hit
    have HSTR := Lib.hid (starts_is u2 b1 V1 (HC1.out.below HRU2.out) HO1.out At tl ct T hit (by omega) HST.out HSL.out rfl)
    clear hb2 hit hrun hx1 HENC HBI
    go_wp2_with fail
    refine HSTR.out.mono ?_
    rintro e w9 ⟨As, cs, rfl, hst, -, hb3⟩
    have HR9 := Lib.hid (below_then HRU2.out hb3 HRU2.out.size)
    have HIT9 := Lib.hid (HIT.out.below hb3)
    have HIS9 := Lib.hid hst
    have HB9 := Lib.hid (below_then HB.out HR9.out HB.out.size)
    have HS9 := Lib.hid (HSO.out.below HSg.out HR9.out)
    have dtl : ((tl : Int) != (tl : Int)) = false := by simp
    clear hb3 hst HSTR HIT HRU HRU2 HRW7 HW7 HG7 HR8
    go_wp2
    obtain ⟨wo, hwo⟩ : ∃ z, z = wr := ⟨_, rfl⟩
    go_loopw [19] (fun jv wj => ∃ j : Nat, j ≤ tl ∧ jv = .int .i64 j ∧ Below w9.heap.size w9 wj) (fun jv _ => tl - (intOf jv).toNat)
    case atStart => exact ⟨0, by omega, rfl, Below.refl _ _⟩
    case round =>
     obtain ⟨j, hj', rfl, hbj⟩ := hrel
     have HJ9 := Lib.hid hbj
     have HSj := Lib.hid (HSO.out.below HS9.out hbj)
     have HBj := Lib.hid (below_then HB9.out hbj HB9.out.size)
     have HITj := Lib.hid (HIT9.out.below hbj)
     have hzj := hbj.size
     clear hbj
     rcases Nat.lt_or_ge j tl with hjl | hjg
     ·have dj : decide ((j : Int) < (tl : Int)) = true := by simpa using hjl
      have r0 : (0 : Int) ≤ (j : Int) := by omega
      have r1 : (j : Int) < (tl : Int) := by omega
      have hwj : IntKind.i64.wrap ((j : Int) + 1) = (j : Int) + 1 := IntWalk.i64_in _ (by omega)
      obtain ⟨pt, tok, rfl, htt, b0, hf1, hf2⟩ := HITj.out.at j hjl
      obtain ⟨ps', st, hps', hst, -, hg1, hg2⟩ := (HIS9.out.below HJ9.out).at j hjl
      have hmT : tok ∈ (mD L i).T := by rw [HQ1.out]; show tok ∈ encR V1.mer xt; rw [HT.out]; exact List.mem_of_getElem? htt
      have hmem : tok ∈ mTerms L := terms_mem.2 ⟨_, mD_mem HQ2.out, hmT⟩
      obtain ⟨IP, hIP⟩ := posts_doc HQ2.out hmT
      rw [HQ1.out] at hIP
      have hsp := tok_spot (V := V1) (i := i) (pr := (xk, xt)) (j := j) (t := tok) (by show (encR V1.mer xt)[j]? = some tok; rw [HT.out]; exact htt)
      have hsg : (startsR V1.tok (encR V1.mer xt)).getD j 0 = st := by rw [HT.out, HST.out, List.getD_eq_getElem?_getD, hst]; rfl
      simp only at hsp
      rw [hsg] at hsp
      obtain ⟨J, hJ⟩ := List.getElem?_of_mem hsp
      have HIP : Hid ((mPosts L tok)[IP]? = some ((i : Int), mSpots (docM V1 i (xk, xt)) tok)) := Lib.hid hIP
      have HJJ : Hid ((mSpots (docM V1 i (xk, xt)) tok)[J]? = some ((j : Int), st)) := Lib.hid hJ
      have HSTJ := Lib.hid hst
      have hcu := HSO.out.cursor HSj.out HWF.out tok (by unfold fits64; omega)
      rw [bsegT_get hmem] at hcu
      have HCU := Lib.hid hcu
      have HVP := Lib.hid (posts_valid HMW.out tok)
      clear htt hst hps' hmT hmem hIP hsp hsg hJ hcu
      go_wp2_with fail
      refine HCU.out.mono ?_
      rintro e v1 ⟨hv1, cb, F6, rfl, hk6, hF6⟩
      have HJ1 := Lib.hid (below_then HJ9.out hv1 HJ9.out.size)
      have HK6 := Lib.hid hk6
      have HF6 := Lib.hid hF6
      have hz6 := hv1.size
      clear hv1 hk6 hF6 HCU b0
      go_wp2_with fail
      refine (sgPosts_any HCO.out HK6.out HVP.out).mono ?_
      rintro e v2 ⟨A7, c7, rfl, hp7, -, hkp7⟩
      have HJ2 := Lib.hid (HJ1.out.trans (hkp7.toBelow HJ1.out.size (fun a ha => by have := HF6.out a ha; have := HJ9.out.size; omega)))
      have HP7 := Lib.hid hp7
      obtain ⟨Pn, hPn⟩ : ∃ Pn, Pn = (mPosts L tok).length := ⟨_, rfl⟩
      rw [← hPn] at HP7 ⊢
      have HPN := Lib.hid hPn
      have hpn63 := hp7.fit
      rw [← hPn] at hpn63
      unfold maxLen at hpn63
      have HIL : Hid (IP < Pn) := Lib.hid (by rw [HPN.out]; exact (List.getElem?_eq_some_iff.1 HIP.out).1)
      clear hp7 hkp7 hPn
      go_wp2
      go_loopw [21, 22] (fun fv mv wm => ∃ (m : Nat) (z : Bool), m ≤ Pn ∧ fv = .bool z ∧ mv = .int .i64 m ∧ (IP < m → z = true) ∧ Below v2.heap.size v2 wm) (fun _ mv _ => Pn - (intOf mv).toNat)
      case atStart => exact ⟨0, false, Nat.zero_le _, rfl, rfl, fun h => absurd h (Nat.not_lt_zero _), Below.refl _ _⟩
      case round =>
       obtain ⟨m, z, hm, rfl, rfl, hz, hbm⟩ := hrel
       have HMB := Lib.hid hbm
       have HZ := Lib.hid hz
       have HJm := Lib.hid (below_then HJ2.out hbm HJ2.out.size)
       have hzm := hbm.size
       clear hz
       rcases Nat.lt_or_ge m Pn with hml | hmg
       ·have dm : decide ((m : Int) < (Pn : Int)) = true := by simpa using hml
        have q0 : (0 : Int) ≤ (m : Int) := by omega
        have q1 : (m : Int) < (Pn : Int) := by omega
        have hwm : IntKind.i64.wrap ((m : Int) + 1) = (m : Int) + 1 := IntWalk.i64_in _ (by omega)
        obtain ⟨pp, x, Bx, cx, rfl, hx, hxf, a0, a1, hcx, hpx⟩ := (HP7.out.below hbm).at m (by omega)
        have HX := Lib.hid hx
        have HPX := Lib.hid hpx
        obtain ⟨sn, hsn⟩ : ∃ sn, sn = x.2.length := ⟨_, rfl⟩
        rw [← hsn] at a1
        have HSN := Lib.hid hsn
        obtain ⟨xd, hxd⟩ : ∃ xd, xd = x.1 := ⟨_, rfl⟩
        rw [← hxd] at a0
        have HXD := Lib.hid hxd
        have hsn63 := hpx.fit
        rw [← hsn] at hsn63
        unfold maxLen at hsn63
        have HHIT : Hid (m = IP → xd = (i : Int) ∧ x.2[J]? = some ((j : Int), st)) := Lib.hid (fun e => by
         have h1 := HIP.out
         rw [← e, HX.out] at h1
         have h2 := Option.some.inj h1
         rw [HXD.out, h2]
         exact ⟨rfl, HJJ.out⟩)
        obtain ⟨wm, hwm'⟩ : ∃ z, z = wr := ⟨_, rfl⟩
        rw [← hwm'] at HMB HJm hzm a0 a1 HPX
        rw [← hwm']
        have HA0 := Lib.hid a0
        have HA1 := Lib.hid a1
        clear hbm hx hxf hpx hsn hxd hcx hwm' a0 a1
        go_wp2
        go_loopw [21, 23] (fun fv bv wi => ∃ (b : Nat) (y : Bool), b ≤ sn ∧ fv = .bool y ∧ bv = .int .i64 b ∧ (z = true → y = true) ∧ (m = IP → J < b → y = true) ∧ Below wm.heap.size wm wi) (fun _ bv _ => sn - (intOf bv).toNat)
        case atStart => exact ⟨0, z, Nat.zero_le _, rfl, rfl, fun h => h, fun _ h => absurd h (Nat.not_lt_zero _), Below.refl _ _⟩
        case round =>
         obtain ⟨b, y, hbl, rfl, rfl, hy1, hy2, hbb⟩ := hrel
         have HY1 := Lib.hid hy1
         have HY2 := Lib.hid hy2
         have HBB := Lib.hid hbb
         have a0 := below_cells hbb HA0.out
         have a1 := below_cells hbb HA1.out
         clear hy1 hy2
         rcases Nat.lt_or_ge b sn with hbs | hbg
         ·have db : decide ((b : Int) < (sn : Int)) = true := by simpa using hbs
          have s0 : (0 : Int) ≤ (b : Int) := by omega
          have s1 : (b : Int) < (sn : Int) := by omega
          have hwb : IntKind.i64.wrap ((b : Int) + 1) = (b : Int) + 1 := IntWalk.i64_in _ (by omega)
          obtain ⟨ps, sp, rfl, hsp, c0, c1, -, -⟩ := (HPX.out.below hbb).at b (by rw [← HSN.out]; omega)
          obtain ⟨pk, st', hpk, hst', b0, -, -⟩ := (HIS9.out.below (below_then HJm.out hbb HJm.out.size)).at j hjl
          obtain rfl := Option.some.inj (HSTJ.out.symm.trans hst')
          subst hpk
          obtain ⟨s2a, s2b⟩ := sp
          simp only at c0 c1
          obtain ⟨wi, hwi'⟩ : ∃ z, z = wr := ⟨_, rfl⟩
          rw [← hwi'] at HBB a0 a1 c0 c1 b0
          rw [← hwi']
          have E0 : ∀ k, (wi.drewN k).cell? (pp.add (m * 2)) = some (.int .i64 xd) := fun _ => a0
          have E1 : ∀ k, (wi.drewN k).cell? ⟨(pp.add (m * 2)).block, (pp.add (m * 2)).off + 1, none⟩ = some (.slice (some ps) sn cx) := fun _ => a1
          have E2 : ∀ k, (wi.drewN k).cell? (ps.add (b * 2)) = some (.int .i64 s2a) := fun _ => c0
          have E3 : ∀ k, (wi.drewN k).cell? ⟨(ps.add (b * 2)).block, (ps.add (b * 2)).off + 1, none⟩ = some (.int .i64 s2b) := fun _ => c1
          have E4 : ∀ k, (wi.drewN k).cell? (pk.add j) = some (.int .i64 st) := fun _ => b0
          obtain ⟨e, he⟩ : ∃ e, e = ((s2a == (j : Int)) && (s2b == st)) := ⟨_, rfl⟩
          have heq := eqSpot s2a s2b (j : Int) st (r := e) he.symm
          have HEND : Hid (∀ y2 : Bool, (y = true → y2 = true) → (m = IP → b = J → y2 = true) → (z = true → y2 = true) ∧ (m = IP → J < b + 1 → y2 = true)) := Lib.hid (fun y2 h1 h2 => ⟨fun h => h1 (HY1.out h), fun h3 h4 => by
           rcases Nat.lt_or_ge J b with h5 | h5
           ·exact h1 (HY2.out h3 h5)
           ·exact h2 h3 (by omega)⟩)
          have HME : Hid (m = IP → b = J → xd = (i : Int) ∧ e = true) := Lib.hid (fun h1 h2 => by
           obtain ⟨h3, h4⟩ := HHIT.out h1
           rw [← h2, hsp] at h4
           have h5 := Option.some.inj h4
           injection h5 with h6 h7
           exact ⟨h3, by rw [he, h6, h7]; simp⟩)
          clear hbb hsp hst' hwi' he c0 c1 b0
          cases y with
          | true =>
           go_upto_region 36 with fail
           go_quiet (fail)
           have HBN := Lib.hid (below_drewN HBB.out nq)
           obtain ⟨z1, z2⟩ := HEND.out true (fun h => h) (fun _ _ => rfl)
           have HZ1 := Lib.hid z1
           have HZ2 := Lib.hid z2
           clear z1 z2
           go_wp2
           go_roundw
           case rel => exact ⟨b + 1, true, by omega, rfl, by go_num, HZ1.out, HZ2.out, HBN.out⟩
           case measure => simp [intOf]; omega
          | false =>
           by_cases hd : xd = (i : Int)
           ·have dk : (xd == (i : Int)) = true := by simpa using hd
            go_upto_region 36 with fail
            go_quiet (fail)
            have HBN := Lib.hid (below_drewN HBB.out nq)
            obtain ⟨z1, z2⟩ := HEND.out e (fun h => by cases h) (fun h1 h2 => (HME.out h1 h2).2)
            have HZ1 := Lib.hid z1
            have HZ2 := Lib.hid z2
            clear z1 z2
            go_wp2
            go_roundw
            case rel => exact ⟨b + 1, e, by omega, rfl, by go_num, HZ1.out, HZ2.out, HBN.out⟩
            case measure => simp [intOf]; omega
           ·have dk : (xd == (i : Int)) = false := by simpa using hd
            go_upto_region 36 with fail
            go_quiet (fail)
            have HBN := Lib.hid (below_drewN HBB.out nq)
            obtain ⟨z1, z2⟩ := HEND.out false (fun h => h) (fun h1 h2 => absurd (HME.out h1 h2).1 hd)
            have HZ1 := Lib.hid z1
            have HZ2 := Lib.hid z2
            clear z1 z2
            go_wp2
            go_roundw
            case rel => exact ⟨b + 1, false, by omega, rfl, by go_num, HZ1.out, HZ2.out, HBN.out⟩
            case measure => simp [intOf]; omega
         ·have hbe : b = sn := by omega
          subst hbe
          have db : decide ((b : Int) < (b : Int)) = false := by simp
          have HMB2 := Lib.hid (below_then HMB.out hbb HMB.out.size)
          have HZ2 : Hid (IP < m + 1 → y = true) := Lib.hid (fun h => by
           rcases Nat.lt_or_ge IP m with h1 | h1
           ·exact HY1.out (HZ.out h1)
           ·have hme : m = IP := by omega
            refine HY2.out hme ?_
            rw [HSN.out]
            exact (List.getElem?_eq_some_iff.1 (HHIT.out hme).2).1)
          clear hbb
          go_wp2
          go_roundw
          case rel => exact ⟨m + 1, y, by omega, rfl, by go_num, HZ2.out, HMB2.out⟩
          case measure => simp [intOf]; omega
       ·have hme : m = Pn := by omega
        subst hme
        have dm : decide ((m : Int) < (m : Int)) = false := by simp
        have hzt : z = true := HZ.out HIL.out
        subst hzt
        clear hbm
        go_wp2
        go_roundw
        case rel => exact ⟨j + 1, by omega, by go_num, HJm.out⟩
        case measure => simp [intOf]; omega
     ·have hje : j = tl := by omega
      subst hje
      have dj : decide ((j : Int) < (j : Int)) = false := by simp
      have HRJ := Lib.hid (below_then HR9.out HJ9.out HR9.out.size)
      go_wp2
      go_roundw
      case rel => exact ⟨i + 1, by omega, by rw [HNX.out]; push_cast; rfl, by go_num, HRJ.out⟩
      case measure => simp [intOf]; omega
   ·have hie : i = n := by omega
    have d1 : decide ((i : Int) < (n : Int)) = false := by simp; omega
    have dz : ¬ (i : Int) < (n : Int) := by omega
    have ht0n : t0 = totT L := by rw [HT0.out, List.take_of_length_le (by rw [HL.out, docsM_len, HLEN.out]; omega)]
    have htm := HSO.out.terms HSr.out HWF.out
    rw [segT_fst] at htm
    have HTM := Lib.hid htm
    have HTN := Lib.hid ht0n
    have HALL := Lib.hid (spotsTo_all L)
    have ht3 : t0 ≤ 3000 := by rw [ht0n]; exact HTOT.out
    clear htm ht0n hie
    go_wp2_with fail
    refine HTM.out.mono ?_
    rintro e y5 ⟨At, ct, rfl, hti, -, hb⟩
    have HBY := Lib.hid (below_then HBr.out hb HBr.out.size)
    have HSY := Lib.hid (HSO.out.below HSr.out hb)
    have HTI := Lib.hid hti
    obtain ⟨nT, hnT⟩ : ∃ nT, nT = (mTerms L).length := ⟨_, rfl⟩
    rw [← hnT] at HTI HALL ⊢
    have HNT := Lib.hid hnT
    have hnt63 := hti.1
    rw [← hnT] at hnt63
    unfold maxLen at hnt63
    clear hti hb hnT HTM
    obtain ⟨wo, hwo⟩ : ∃ z, z = wr := ⟨_, rfl⟩
    go_wp2
    go_loopw [25, 26] (fun nv av wa => ∃ a : Nat, a ≤ nT ∧ nv = .int .i64 ((spotsTo L (mTerms L) a : Nat) : Int) ∧ av = .int .i64 a ∧ Below y5.heap.size y5 wa) (fun _ av _ => nT - (intOf av).toNat)
    case atStart => exact ⟨0, by omega, by simp [spotsTo], rfl, Below.refl _ _⟩
    case round =>
     obtain ⟨a, ha, rfl, rfl, hba⟩ := hrel
     have HA5 := Lib.hid hba
     have HSa := Lib.hid (HSO.out.below HSY.out hba)
     have HBa := Lib.hid (below_then HBY.out hba HBY.out.size)
     have HTa := Lib.hid (HTI.out.below hba)
     have hza := hba.size
     obtain ⟨n0, hn0⟩ : ∃ n0, n0 = spotsTo L (mTerms L) a := ⟨_, rfl⟩
     rw [← hn0]
     have HN0 := Lib.hid hn0
     clear hba hn0
     rcases Nat.lt_or_ge a nT with hal | hag
     ·have da : decide ((a : Int) < (nT : Int)) = true := by simpa using hal
      have r0 : (0 : Int) ≤ (a : Int) := by omega
      have r1 : (a : Int) < (nT : Int) := by omega
      have hwa : IntKind.i64.wrap ((a : Int) + 1) = (a : Int) + 1 := IntWalk.i64_in _ (by omega)
      obtain ⟨pt, tok, rfl, htt, b0, hf1, hf2⟩ := HTa.out.at a hal
      have hmem : tok ∈ mTerms L := List.mem_of_getElem? htt
      have hcu := HSO.out.cursor HSa.out HWF.out tok (by unfold fits64; omega)
      rw [bsegT_get hmem] at hcu
      have HCU := Lib.hid hcu
      have HVP := Lib.hid (posts_valid HMW.out tok)
      have hsn := spotsTo_next L htt
      rw [← HN0.out] at hsn
      have hsm := spotsTo_mono L (mTerms L) (a + 1)
      rw [← HNT.out, HALL.out, ← HTN.out, hsn] at hsm
      obtain ⟨PP, hPP⟩ : ∃ PP, PP = mPosts L tok := ⟨_, rfl⟩
      rw [← hPP] at HCU HVP hsn hsm
      have HSNX := Lib.hid hsn
      clear htt hmem hcu hsn hPP
      go_wp2_with fail
      refine HCU.out.mono ?_
      rintro e v1 ⟨hv1, cb, F6, rfl, hk6, hF6⟩
      have HA1 := Lib.hid (below_then HA5.out hv1 HA5.out.size)
      have HK6 := Lib.hid hk6
      have HF6 := Lib.hid hF6
      have hz6 := hv1.size
      clear hv1 hk6 hF6 HCU b0
      go_wp2_with fail
      refine (sgPosts_any HCO.out HK6.out HVP.out).mono ?_
      rintro e v2 ⟨A7, c7, rfl, hp7, -, hkp7⟩
      have HA2 := Lib.hid (HA1.out.trans (hkp7.toBelow HA1.out.size (fun b hb => by have := HF6.out b hb; have := HA5.out.size; omega)))
      have HP7 := Lib.hid hp7
      obtain ⟨Pn, hPn⟩ : ∃ Pn, Pn = PP.length := ⟨_, rfl⟩
      rw [← hPn] at HP7 ⊢
      have HPN := Lib.hid hPn
      have hpn63 := hp7.fit
      rw [← hPn] at hpn63
      unfold maxLen at hpn63
      clear hp7 hkp7 hPn
      go_wp2
      go_loopw [25, 28] (fun nv kv wk => ∃ k : Nat, k ≤ Pn ∧ nv = .int .i64 ((n0 + spotsOf (PP.take k) : Nat) : Int) ∧ kv = .int .i64 k ∧ Below v2.heap.size v2 wk) (fun _ kv _ => Pn - (intOf kv).toNat)
      case atStart => exact ⟨0, by omega, by simp [spotsOf], rfl, Below.refl _ _⟩
      case round =>
       obtain ⟨k, hk, rfl, rfl, hbk⟩ := hrel
       have HKB := Lib.hid hbk
       have hpm := spotsOf_mono PP k
       obtain ⟨s0, hs0⟩ : ∃ s0, s0 = spotsOf (PP.take k) := ⟨_, rfl⟩
       rw [← hs0] at hpm ⊢
       have HS0 := Lib.hid hs0
       clear hs0
       rcases Nat.lt_or_ge k Pn with hkl | hkg
       ·have dk : decide ((k : Int) < (Pn : Int)) = true := by simpa using hkl
        have q0 : (0 : Int) ≤ (k : Int) := by omega
        have q1 : (k : Int) < (Pn : Int) := by omega
        have hwk : IntKind.i64.wrap ((k : Int) + 1) = (k : Int) + 1 := IntWalk.i64_in _ (by omega)
        obtain ⟨pp, x, Bx, cx, rfl, hx, -, -, a1, -, hpx⟩ := (HP7.out.below hbk).at k hkl
        have hso := spotsOf_take PP k hx
        rw [← HS0.out] at hso
        have hpm2 := spotsOf_mono PP (k + 1)
        rw [hso] at hpm2
        obtain ⟨sn, hsn⟩ : ∃ sn, sn = x.2.length := ⟨_, rfl⟩
        rw [← hsn] at a1 hso hpm2
        obtain ⟨t1, ht1⟩ : ∃ t1, t1 = n0 + s0 := ⟨_, rfl⟩
        have hwt : IntKind.i64.wrap ((t1 : Int) + (sn : Int)) = ((t1 + sn : Nat) : Int) := by rw [IntWalk.i64_in _ (by omega)]; push_cast; rfl
        have hnx : n0 + spotsOf (PP.take (k + 1)) = t1 + sn := by rw [hso, ht1]; omega
        have HNXK := Lib.hid hnx
        rw [← ht1]
        clear hbk hx hpx hsn hso hnx ht1
        go_wp2
        go_roundw
        case rel => exact ⟨k + 1, by omega, by rw [HNXK.out]; push_cast; rfl, by go_num, HKB.out⟩
        case measure => simp [intOf]; omega
       ·have dk : decide ((k : Int) < (Pn : Int)) = false := by simp; omega
        have dkz : ¬ (k : Int) < (Pn : Int) := by omega
        have hke : s0 = spotsOf PP := by rw [HS0.out, List.take_of_length_le (by rw [← HPN.out]; omega)]
        have HE := Lib.hid (show spotsTo L (mTerms L) (a + 1) = n0 + s0 by rw [HSNX.out, hke])
        have HAB := Lib.hid (below_then HA2.out hbk HA2.out.size)
        clear hbk hke
        go_wp2
        go_roundw
        case rel => exact ⟨a + 1, by omega, by rw [HE.out], by go_num, HAB.out⟩
        case measure => simp [intOf]; omega
     ·have da : decide ((a : Int) < (nT : Int)) = false := by simp; omega
      have daz : ¬ (a : Int) < (nT : Int) := by omega
      have hnt : n0 = t0 := by rw [HN0.out, show a = nT by omega, HALL.out, HTN.out]
      subst hnt
      have dl : ((n0 : Int) == (n0 : Int)) = true := by simp
      go_wp2
      go_ret
      exact ⟨rfl, HBa.out⟩
 ·have HR := Lib.hid hR
  clear hR
  go_wp2_with fail
  refine (of_is w2 P p cp _ (HP.out.below HB.out) (by omega) HPC.out HV1.out).mono ?_
  rintro e x1 ⟨A1, B1, n1, m1, ca1, cb1, rfl, hsee, hb⟩
  replace HB := Lib.hid (below_then HB.out hb HB.out.size)
  have HE1 := Lib.hid hsee
  clear hb hsee
  go_wp2_with fail
  refine (new_is x1 A1 B1 n1 m1 ca1 cb1 V1 HE1.out HO1.out).mono ?_
  rintro e y1 ⟨b1, rfl, hb, hC⟩
  replace HB := Lib.hid (below_then HB.out hb HB.out.size)
  have HC1 := Lib.hid hC
  clear hb hC HE1
  have HU1 := Lib.hid (HSO.out.build HC1.out HO1.out D n c l (HD.out.below HB.out) HNC.out (by have := HSM.out.2.text; omega))
  go_wp2_with fail
  refine HU1.out.mono ?_
  intro e z1 hso
  obtain ⟨rfl, hb⟩ := hso.no HR.out
  replace HB := Lib.hid (below_then HB.out hb HB.out.size)
  clear hso hb HU1
  go_wp2_with fail
  refine (r13Right_any z1 D n c l (HD.out.below HB.out)).mono ?_
  rintro e z2 ⟨rfl, q, hq⟩
  have hb : Below z1.heap.size z1 z2 := by rw [hq]; exact below_drewN (Below.refl _ _) _
  replace HB := Lib.hid (below_then HB.out hb HB.out.size)
  rw [decide_eq_false HR.out]
  clear hb hq
  go_wp2
  go_ret
  exact ⟨rfl, HB.out⟩
end Go.Proofs.YthcjikpabpgpfaaGreat
