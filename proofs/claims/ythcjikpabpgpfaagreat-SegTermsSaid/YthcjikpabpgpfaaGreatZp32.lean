import Derived.Test.YthcjikpabpgpfaaGreatZp0
import Derived.Test.YthcjikpabpgpfaaGreatZp31
import Derived.Test.YthcjikpabpgpfaaGreatZp22
import Derived.Test.YthcjikpabpgpfaaGreatZp26
import Derived.Test.YthcjikpabpgpfaaGreatZp27
import Derived.Deep.RegionHeld3
import Derived.Deep.DeepCutAuto
import Derived.Deep.QuietTactic
import Derived.BigQuiet
set_option linter.unusedSimpArgs false
set_option maxHeartbeats 16000000
set_option maxRecDepth 100000
namespace Go.Proofs.YthcjikpabpgpfaaGreat
open Go.RowKit Go.Maps Go.WideMaps
theorem bytes_nil (w : World) : BytesIn w none 0 [] := ⟨by unfold maxLen; omega, ⟨rfl, (fun ad e => by cases e), fun _ => rfl⟩, fun ad e => by cases e⟩
theorem pairs_nil (w : World) : PairsIn w none 0 [] := ⟨rfl, by unfold maxLen; omega, by simp, fun _ => rfl, fun ad e => by cases e⟩
theorem built {V : Voc} (hV : VOk V) {l : List (Nm × Nm)} (hl : docsR l) (ht : textN l ≤ 3000) : ∃ X : Nm, X = segB V l ∧ X.length ≤ 1000000 ∧ openR X = some (l, segT (docsM V l)) ∧ SegWF l (segT (docsM V l)) ∧ 0 < X.length := by
 have h1 := open_build hV hl (by omega)
 refine ⟨_, rfl, segB_le hV hl (by omega), h1, segWF_of h1, ?_⟩
 rw [segB_flat]
 unfold segL
 rw [List.flatMap_cons, List.length_append]
 have := putF_pos (headW l.length (mTerms (segM V l l.length)).length)
 omega
theorem str_at {x : Nm} {j : Nat} {c : UInt8} (h : x[j]? = some c) (w : World) : (Instr.index 9 (.string ⟨x.toArray⟩) (.int .i64 (j : Int))).run Tryz.prog w = .ok (.int .u8 (c.toNat : Int)) w := by
 have hlt := (List.getElem?_eq_some_iff.1 h).1
 have hsz : (⟨x.toArray⟩ : ByteArray).size = x.length := str_size x
 rw [run_index_string w 9 _ _ _ Tryz.underlying9, dif_pos ⟨by omega, by omega⟩]
 have hget : (⟨x.toArray⟩ : ByteArray)[((j : Int)).toNat]'(by omega) = c := by
  have e : x[j] = c := by rw [List.getElem?_eq_getElem hlt] at h; exact Option.some.inj h
  rw [← e]
  rfl
 rw [hget]
theorem segT_get {L : List MDoc} {t : Int} (h : t ∈ mTerms L) : postsT (segT L) t = some (mPosts L t) := by
 obtain ⟨i, hi, e⟩ := List.getElem_of_mem h
 have hx : (mTerms L)[i]? = some t := by rw [List.getElem?_eq_getElem hi, e]
 exact postsT_at (by rw [segT_fst]; exact terms_up L) (segT_at hx)
theorem segTerms_any {S : SegSt} {K : World → (Nat → Prop) → Nat → CSt → Prop} (hS : SegOk S K) (hK : CurW K) (W : World) (D : Option Addr) (n c : Nat) (l : List (Nm × Nm)) (hd : DocsIn W D n l) (hnc : n ≤ c) (wh : Nat) (hwh : wh < 256) (at_ : Nat) (hat : at_ < 65536) :
  Calls Tryz.prog 7 #[.slice D n c, .int .u8 wh, .int .u16 at_] W fun e w' => e = .returned (.bool true) ∧ Below W.heap.size W w' := by
 have HD := Lib.hid hd
 have HNC := Lib.hid hnc
 have hlen := hd.len
 have HLEN := Lib.hid hlen
 obtain ⟨V1, hV1⟩ : ∃ V, ofV [] = V := ⟨_, rfl⟩
 have HO1 : Hid (VOk V1) := Lib.hid (hV1 ▸ ofV_ok [])
 have HBARE : Hid (V1.mer = []) := Lib.hid (hV1 ▸ ofV_bare)
 have HV1 := Lib.hid hV1
 have hse := fun w p => (segNil w p).1
 have hce := fun w p => (coderNil w p).1
 have hcn := fun w p => (coderNil w p).2
 clear hd hnc hV1 hlen
 have HSO := Lib.hid hS
 have HCO := Lib.hid hK
 have HH := Lib.hid (sgHead_any hS hK W)
 clear hS hK
 go_enter Tryz.func7, Tryz.ntmps7
 go_wp2_with fail
 refine HH.out.mono ?_
 rintro e w1 ⟨rfl, hb1⟩
 have HB1 := Lib.hid hb1
 have HG := Lib.hid (sgGreat_any w1 none D 0 0 n c l (by omega) (HD.out.below HB1.out))
 clear hb1 HH
 go_wp2_with fail
 refine HG.out.mono ?_
 rintro e w2 ⟨r, rfl, ⟨q2, hw2⟩, hr⟩
 have HB : Hid (Below W.heap.size W w2) := Lib.hid (by rw [hw2]; exact below_drewN HB1.out q2)
 clear hw2 HG HB1
 cases r with
 | true =>
  clear hr
  go_wp2
  go_ret
  exact ⟨rfl, HB.out⟩
 | false =>
 have HSM := Lib.hid (hr rfl)
 clear hr
 by_cases hR : docsR l
 ·have HR := Lib.hid hR
  have hn64 : n ≤ 64 := by rw [← HLEN.out]; exact hR.1
  obtain ⟨X1, hX1, hle1, hop1, hwf1, -⟩ := built HO1.out hR HSM.out.2.text
  have HLE1 : Hid ((segB V1 l).length ≤ 1000000) := Lib.hid (by rw [← hX1]; exact hle1)
  have HOP1 : Hid (openR (segB V1 l) = some (l, segT (docsM V1 l))) := Lib.hid (by rw [← hX1]; exact hop1)
  have HWF := Lib.hid hwf1
  have HMW := Lib.hid (docsM_wf HO1.out hR)
  obtain ⟨L, hL⟩ : ∃ L, L = docsM V1 l := ⟨_, rfl⟩
  rw [← hL] at HOP1 HWF HMW
  have HL := Lib.hid hL
  clear hR hX1 hle1 hop1 hwf1 hL
  go_wp2_with fail
  refine (of_is w2 none 0 0 _ (pairs_nil _) (by omega) (by omega) HV1.out).mono ?_
  rintro e x1 ⟨A1, B1, n1, m1, ca1, cb1, rfl, hsee, hb⟩
  replace HB := Lib.hid (below_then HB.out hb HB.out.size)
  have HE1 := Lib.hid hsee
  clear hb hsee
  go_wp2_with fail
  refine (new_is x1 A1 B1 n1 m1 ca1 cb1 V1 HE1.out HO1.out).mono ?_
  rintro e y1 ⟨b1, rfl, hb, hC⟩
  replace HB := Lib.hid (below_then HB.out hb HB.out.size)
  have HC1 := Lib.hid hC
  clear hb hC HE1
  have HU1 := Lib.hid (HSO.out.build HC1.out HO1.out D n c l (HD.out.below HB.out) HNC.out (by have := HSM.out.2.text; omega))
  go_wp2_with fail
  refine HU1.out.mono ?_
  intro e z1 hso
  obtain ⟨k1, hk⟩ : ∃ k, (segB V1 l).length = k := ⟨_, rfl⟩
  obtain ⟨S1, cs1, rfl, hby, hcc, hb⟩ := hso.yes HR.out (by have := HLE1.out; omega) hk
  have hkl1 : k1 ≤ 1000000 := by rw [← hk]; exact HLE1.out
  have HK1 := Lib.hid hk
  replace HB := Lib.hid (below_then HB.out hb HB.out.size)
  have HBY1 := Lib.hid hby
  have HCC1 := Lib.hid hcc
  clear hso hby hcc hb hk HU1
  have hop := HSO.out.open_ z1 S1 k1 cs1 (segB V1 l) HBY1.out HCC1.out hkl1
  rw [HOP1.out] at hop
  have HOPN := Lib.hid hop
  clear hop
  go_wp2_with fail
  refine HOPN.out.mono ?_
  rintro e w4 ⟨hb, g, Fg, rfl, hs, -⟩
  replace HB := Lib.hid (below_then HB.out hb HB.out.size)
  replace HBY1 := Lib.hid (HBY1.out.below hb)
  have HSg := Lib.hid hs
  clear hb hs HOPN
  have htm := HSO.out.terms HSg.out HWF.out
  rw [segT_fst] at htm
  have HTM := Lib.hid htm
  clear htm
  go_wp2_with fail
  refine HTM.out.mono ?_
  rintro e w5 ⟨At, ct, rfl, hti, -, hb⟩
  replace HB := Lib.hid (below_then HB.out hb HB.out.size)
  replace HSg := Lib.hid (HSO.out.below HSg.out hb)
  have HTI := Lib.hid hti
  obtain ⟨nT, hnT⟩ : ∃ nT, nT = (mTerms L).length := ⟨_, rfl⟩
  rw [← hnT] at HTI ⊢
  have HNT := Lib.hid hnT
  have hnt63 := hti.1
  rw [← hnT] at hnt63
  unfold maxLen at hnt63
  clear hti hb hnT HTM
  go_wp2
  go_loopw [14] (fun iv wr => ∃ i : Nat, i ≤ nT ∧ iv = .int .i64 i ∧ Below w5.heap.size w5 wr) (fun iv _ => nT - (intOf iv).toNat)
  case atStart => exact ⟨0, by omega, rfl, Below.refl _ _⟩
  case round =>
   obtain ⟨i, hi', rfl, hbr⟩ := hrel
   have HR5 := Lib.hid hbr
   have HSr := Lib.hid (HSO.out.below HSg.out hbr)
   have HBr := Lib.hid (below_then HB.out hbr HB.out.size)
   have HTr := Lib.hid (HTI.out.below hbr)
   clear hbr
   rcases Nat.lt_or_ge i nT with hlt | hge
   ·have dd : decide ((i : Int) < (nT : Int)) = true := by simpa using hlt
    have p0 : (0 : Int) ≤ (i : Int) := by omega
    have p1 : (i : Int) < (nT : Int) := by omega
    have hwi : IntKind.i64.wrap ((i : Int) + 1) = (i : Int) + 1 := IntWalk.i64_in _ (by omega)
    obtain ⟨pt, t, rfl, htt, b0, hf1, hf2⟩ := HTr.out.at i hlt
    have hmem : t ∈ mTerms L := List.mem_of_getElem? htt
    have hcu := HSO.out.cursor HSr.out HWF.out t (by unfold fits64; omega)
    rw [segT_get hmem] at hcu
    have HCU := Lib.hid hcu
    have HVP := Lib.hid (posts_valid HMW.out t)
    have HTT := Lib.hid htt
    have hpp := posts_some hmem
    have HUP : Hid (0 < i → (mTerms L).getD (i - 1) 0 < t) := Lib.hid (fun h0 => by
     have h2 := List.pairwise_iff_getElem.1 (terms_up L) (i - 1) i (by rw [← HNT.out]; omega) (by rw [← HNT.out]; omega) (by omega)
     rw [List.getElem?_eq_getElem (by rw [← HNT.out]; omega)] at htt
     rw [Option.some.inj htt] at h2
     rw [List.getD_eq_getElem?_getD, List.getElem?_eq_getElem (by rw [← HNT.out]; omega)]
     exact h2)
    obtain ⟨Pn, hPn⟩ : ∃ Pn, Pn = (mPosts L t).length := ⟨_, rfl⟩
    rw [← hPn] at hpp
    have HPN := Lib.hid hPn
    clear htt hmem hcu hPn
    go_wp2_with fail
    refine HCU.out.mono ?_
    rintro e w6 ⟨hb6, cb, F6, rfl, hk6, hF6⟩
    have H56 := Lib.hid (below_then HR5.out hb6 HR5.out.size)
    have HK6 := Lib.hid hk6
    have HF6 := Lib.hid hF6
    have hz6 := hb6.size
    clear hb6 hk6 hF6 HCU b0
    go_wp2_with fail
    refine (sgPosts_any HCO.out HK6.out HVP.out).mono ?_
    rintro e w7 ⟨A7, c7, rfl, hp7, -, hkp7⟩
    have H57 := Lib.hid (H56.out.trans (hkp7.toBelow H56.out.size (fun j hj => by have := HF6.out j hj; have := HR5.out.size; omega)))
    rw [← HPN.out]
    have hp0 : ((Pn : Int) == 0) = false := by simp; omega
    clear hp7 hkp7
    by_cases hi0 : i = 0
    ·have dd2 : decide ((0 : Int) < (i : Int)) = false := by simp; omega
     have HI0 := Lib.hid hi0
     clear hi0
     go_upto_region 16 with fail
     refine wp_region_held_drew (S := fun _ => True) (by kernel_rfl) trivial (fun hHeld => ?_)
     obtain ⟨wd, hwd⟩ : ∃ zz, zz = w7.drew := ⟨_, rfl⟩
     try rw [← hwd] at hHeld
     rw [← hwd]
     have HWD : Hid (Below w5.heap.size w5 wd) := Lib.hid (by rw [hwd]; exact H57.out.drew)
     clear hwd
     refine wpAnyH_take (i := 0) (oi := ?oiz1) (v := ?vz1) ?hiz1 (by kernel_rfl) (by kernel_rfl) (by kernel_rfl) ?hQz1 (Or.inl ⟨?hwz1, ?hyz1⟩) (by assumption) ?restz1
     case hiz1 => (first | (simp only [lz0, lz1, lz2]; rfl) | rfl)
     case hQz1 => exact fun _ _ _ h => h
     case hwz1 => rfl
     case hyz1 => ((intro w hSw; go_simp); first | done | with_reducible rfl | exact HI0.out)
     try simp only [Act.put, lz3, lz4, lz5]
     refine wpAnyH_take (i := 1) (oi := ?oiz2) (v := ?vz2) ?hiz2 (by kernel_rfl) (by kernel_rfl) (by kernel_rfl) ?hQz2 (Or.inl ⟨?hwz2, ?hyz2⟩) (by assumption) ?restz2
     case hiz2 => (first | (simp only [lz0, lz1, lz2]; rfl) | rfl)
     case hQz2 => exact fun _ _ _ h => h
     case hwz2 => rfl
     case hyz2 => ((intro w hSw; go_simp); first | done | with_reducible rfl | exact HI0.out)
     try simp only [Act.put, lz3, lz4, lz5]
     refine wpAnyH_take (i := 2) (oi := ?oiz3) (v := .bool false) ?hiz3 (by kernel_rfl) (by kernel_rfl) (by kernel_rfl) ?hQz3 (Or.inl ⟨?hwz3, ?hyz3⟩) (by assumption) ?restz3
     case hiz3 => (first | (simp only [lz0, lz1, lz2]; rfl) | rfl)
     case hQz3 => exact fun _ _ _ h => h
     case hwz3 => rfl
     case hyz3 => ((intro w hSw; go_simp); first | done | with_reducible rfl | exact HI0.out)
     try simp only [Act.put, lz3, lz4, lz5]
     refine wpAnyH_take (i := 3) (oi := ?oiz4) (v := .bool false) ?hiz4 (by kernel_rfl) (by kernel_rfl) (by kernel_rfl) ?hQz4 (Or.inl ⟨?hwz4, ?hyz4⟩) (by assumption) ?restz4
     case hiz4 => (first | (simp only [lz0, lz1, lz2]; rfl) | rfl)
     case hQz4 => exact fun _ _ _ h => h
     case hwz4 => rfl
     case hyz4 => ((intro w hSw; go_simp); first | done | with_reducible rfl | exact HI0.out)
     try simp only [Act.put, lz3, lz4, lz5]
     refine wpAnyH_take (i := 4) (oi := ?oiz5) (v := ?vz5) ?hiz5 (by kernel_rfl) (by kernel_rfl) (by kernel_rfl) ?hQz5 (Or.inl ⟨?hwz5, ?hyz5⟩) (by assumption) ?restz5
     case hiz5 => (first | (simp only [lz0, lz1, lz2]; rfl) | rfl)
     case hQz5 => exact fun _ _ _ h => h
     case hwz5 => rfl
     case hyz5 => ((intro w hSw; go_simp); first | done | with_reducible rfl | exact HI0.out)
     try simp only [Act.put, lz3, lz4, lz5]
     refine wpAnyH_take (i := 5) (oi := ?oiz6) (v := .bool false) ?hiz6 (by kernel_rfl) (by kernel_rfl) (by kernel_rfl) ?hQz6 (Or.inl ⟨?hwz6, ?hyz6⟩) (by assumption) ?restz6
     case hiz6 => (first | (simp only [lz0, lz1, lz2]; rfl) | rfl)
     case hQz6 => exact fun _ _ _ h => h
     case hwz6 => rfl
     case hyz6 => ((intro w hSw; go_simp); first | done | with_reducible rfl | exact HI0.out)
     try simp only [Act.put, lz3, lz4, lz5]
     refine wpAnyH_take (i := 6) (oi := ?oiz7) (v := .bool false) ?hiz7 (by kernel_rfl) (by kernel_rfl) (by kernel_rfl) ?hQz7 (Or.inl ⟨?hwz7, ?hyz7⟩) (by assumption) ?restz7
     case hiz7 => (first | (simp only [lz0, lz1, lz2]; rfl) | rfl)
     case hQz7 => exact fun _ _ _ h => h
     case hwz7 => rfl
     case hyz7 => ((intro w hSw; go_simp); first | done | with_reducible rfl | exact HI0.out)
     try simp only [Act.put, lz3, lz4, lz5]
     refine wpAnyH_take (i := 7) (oi := ?oiz8) (v := ?vz8) ?hiz8 (by kernel_rfl) (by kernel_rfl) (by kernel_rfl) ?hQz8 (Or.inr ⟨?hwz8, ?hyz8⟩) (by assumption) ?restz8
     case hiz8 => (first | (simp only [lz0, lz1, lz2]; rfl) | rfl)
     case hQz8 => exact fun _ _ _ h => h
     case hwz8 => rfl
     case hyz8 => rfl
     try simp only [Act.put, lz3, lz4, lz5]
     refine wpAnyH_take (i := 8) (oi := ?oiz9) (v := ?vz9) ?hiz9 (by kernel_rfl) (by kernel_rfl) (by kernel_rfl) ?hQz9 (Or.inr ⟨?hwz9, ?hyz9⟩) (by assumption) ?restz9
     case hiz9 => (first | (simp only [lz0, lz1, lz2]; rfl) | rfl)
     case hQz9 => exact fun _ _ _ h => h
     case hwz9 => rfl
     case hyz9 => rfl
     try simp only [Act.put, lz3, lz4, lz5]
     refine wpAnyH_take (i := 9) (oi := ?oiz10) (v := ?vz10) ?hiz10 (by kernel_rfl) (by kernel_rfl) (by kernel_rfl) ?hQz10 (Or.inr ⟨?hwz10, ?hyz10⟩) (by assumption) ?restz10
     case hiz10 => (first | (simp only [lz0, lz1, lz2]; rfl) | rfl)
     case hQz10 => exact fun _ _ _ h => h
     case hwz10 => rfl
     case hyz10 => rfl
     try simp only [Act.put, lz3, lz4, lz5]
     refine wpAnyH_take (i := 10) (oi := ?oiz11) (v := ?vz11) ?hiz11 (by kernel_rfl) (by kernel_rfl) (by kernel_rfl) ?hQz11 (Or.inr ⟨?hwz11, ?hyz11⟩) (by assumption) ?restz11
     case hiz11 => (first | (simp only [lz0, lz1, lz2]; rfl) | rfl)
     case hQz11 => exact fun _ _ _ h => h
     case hwz11 => rfl
     case hyz11 => rfl
     try simp only [Act.put, lz3, lz4, lz5]
     refine wpAnyH_take (i := 11) (oi := ?oiz12) (v := ?vz12) ?hiz12 (by kernel_rfl) (by kernel_rfl) (by kernel_rfl) ?hQz12 (Or.inr ⟨?hwz12, ?hyz12⟩) (by assumption) ?restz12
     case hiz12 => (first | (simp only [lz0, lz1, lz2]; rfl) | rfl)
     case hQz12 => exact fun _ _ _ h => h
     case hwz12 => rfl
     case hyz12 => rfl
     try simp only [Act.put, lz3, lz4, lz5]
     refine wpAnyH_take (i := 12) (oi := ?oiz13) (v := ?vz13) ?hiz13 (by kernel_rfl) (by kernel_rfl) (by kernel_rfl) ?hQz13 (Or.inr ⟨?hwz13, ?hyz13⟩) (by assumption) ?restz13
     case hiz13 => (first | (simp only [lz0, lz1, lz2]; rfl) | rfl)
     case hQz13 => exact fun _ _ _ h => h
     case hwz13 => rfl
     case hyz13 => rfl
     try simp only [Act.put, lz3, lz4, lz5]
     refine wpAnyH_take (i := 13) (oi := ?oiz14) (v := ?vz14) ?hiz14 (by kernel_rfl) (by kernel_rfl) (by kernel_rfl) ?hQz14 (Or.inr ⟨?hwz14, ?hyz14⟩) (by assumption) ?restz14
     case hiz14 => (first | (simp only [lz0, lz1, lz2]; rfl) | rfl)
     case hQz14 => exact fun _ _ _ h => h
     case hwz14 => rfl
     case hyz14 => rfl
     try simp only [Act.put, lz3, lz4, lz5]
     refine wpAnyH_take (i := 14) (oi := ?oiz15) (v := ?vz15) ?hiz15 (by kernel_rfl) (by kernel_rfl) (by kernel_rfl) ?hQz15 (Or.inr ⟨?hwz15, ?hyz15⟩) (by assumption) ?restz15
     case hiz15 => (first | (simp only [lz0, lz1, lz2]; rfl) | rfl)
     case hQz15 => exact fun _ _ _ h => h
     case hwz15 => rfl
     case hyz15 => rfl
     try simp only [Act.put, lz3, lz4, lz5]
     refine wpAnyH_take (i := 15) (oi := ?oiz16) (v := ?vz16) ?hiz16 (by kernel_rfl) (by kernel_rfl) (by kernel_rfl) ?hQz16 (Or.inr ⟨?hwz16, ?hyz16⟩) (by assumption) ?restz16
     case hiz16 => (first | (simp only [lz0, lz1, lz2]; rfl) | rfl)
     case hQz16 => exact fun _ _ _ h => h
     case hwz16 => rfl
     case hyz16 => rfl
     try simp only [Act.put, lz3, lz4, lz5]
     refine wpAnyH_take (i := 16) (oi := ?oiz17) (v := ?vz17) ?hiz17 (by kernel_rfl) (by kernel_rfl) (by kernel_rfl) ?hQz17 (Or.inr ⟨?hwz17, ?hyz17⟩) (by assumption) ?restz17
     case hiz17 => (first | (simp only [lz0, lz1, lz2]; rfl) | rfl)
     case hQz17 => exact fun _ _ _ h => h
     case hwz17 => rfl
     case hyz17 => rfl
     try simp only [Act.put, lz3, lz4, lz5]
     refine wpAnyH_take (i := 17) (oi := ?oiz18) (v := .bool false) ?hiz18 (by kernel_rfl) (by kernel_rfl) (by kernel_rfl) ?hQz18 (Or.inl ⟨?hwz18, ?hyz18⟩) (by assumption) ?restz18
     case hiz18 => (first | (simp only [lz0, lz1, lz2]; rfl) | rfl)
     case hQz18 => exact fun _ _ _ h => h
     case hwz18 => rfl
     case hyz18 => ((intro w hSw; go_simp); first | done | with_reducible rfl | exact HI0.out)
     try simp only [Act.put, lz3, lz4, lz5]
     refine wpAnyH_take (i := 18) (oi := ?oiz19) (v := .bool false) ?hiz19 (by kernel_rfl) (by kernel_rfl) (by kernel_rfl) ?hQz19 (Or.inl ⟨?hwz19, ?hyz19⟩) (by assumption) ?restz19
     case hiz19 => (first | (simp only [lz0, lz1, lz2]; rfl) | rfl)
     case hQz19 => exact fun _ _ _ h => h
     case hwz19 => rfl
     case hyz19 => ((intro w hSw; go_simp); first | done | with_reducible rfl | exact HI0.out)
     try simp only [Act.put, lz3, lz4, lz5]
     refine wpAnyH_done (by kernel_rfl) ?_ _
     clear hHeld
     go_wp2
     go_roundw
     case rel => exact ⟨i + 1, by omega, by go_num, HWD.out⟩
     case measure => simp [intOf]; omega
    ·have dd2 : decide ((0 : Int) < (i : Int)) = true := by simp; omega
     have HI0 : Hid (0 < i) := Lib.hid (by omega)
     have hw1 : IntKind.i64.wrap ((i : Int) - 1) = ((i - 1 : Nat) : Int) := by rw [IntWalk.i64_in _ (by omega)]; omega
     obtain ⟨m, hm⟩ : ∃ m, m = i - 1 := ⟨_, rfl⟩
     have hup := HUP.out (by omega)
     rw [← hm] at hw1 hup
     have q0 : (0 : Int) ≤ (m : Int) := by omega
     have q1 : (m : Int) < (nT : Int) := by omega
     obtain ⟨pt', t', e1, ht', b1, -, -⟩ := (HTI.out.below H57.out).at m (by omega)
     obtain rfl := Option.some.inj e1
     have ht2 : (mTerms L).getD m 0 = t' := by rw [List.getD_eq_getElem?_getD, ht']; rfl
     rw [ht2] at hup
     obtain ⟨pt'', t'', e2, ht'', b2, -, -⟩ := (HTI.out.below H57.out).at i hlt
     obtain rfl := Option.some.inj e2
     obtain rfl := Option.some.inj (HTT.out.symm.trans ht'')
     have dd3 : decide (t ≤ t') = false := by simp; omega
     have HM := Lib.hid hm
     clear ht' ht2 ht'' e1 e2 hm hi0
     go_upto_region 16 with fail
     refine wp_region_held_drew (S := fun w' => w'.cell? (pt.add m) = some (.int .i64 t') ∧ w'.cell? (pt.add i) = some (.int .i64 t)) (by kernel_rfl) ⟨b1, b2⟩ (fun hHeld => ?_)
     obtain ⟨wd, hwd⟩ : ∃ zz, zz = w7.drew := ⟨_, rfl⟩
     try rw [← hwd] at hHeld
     rw [← hwd]
     have HWD : Hid (Below w5.heap.size w5 wd) := Lib.hid (by rw [hwd]; exact H57.out.drew)
     clear hwd
     refine wpAnyH_take (i := 0) (oi := ?oiz20) (v := ?vz20) ?hiz20 (by kernel_rfl) (by kernel_rfl) (by kernel_rfl) ?hQz20 (Or.inl ⟨?hwz20, ?hyz20⟩) (by assumption) ?restz20
     case hiz20 => (first | (simp only [lz0, lz1, lz2]; rfl) | rfl)
     case hQz20 => exact fun _ _ _ h => h
     case hwz20 => rfl
     case hyz20 => ((intro w hSw; go_simp); first | done | with_reducible rfl | exact HI0.out)
     try simp only [Act.put, lz3, lz4, lz5]
     refine wpAnyH_take (i := 1) (oi := ?oiz21) (v := ?vz21) ?hiz21 (by kernel_rfl) (by kernel_rfl) (by kernel_rfl) ?hQz21 (Or.inl ⟨?hwz21, ?hyz21⟩) (by assumption) ?restz21
     case hiz21 => (first | (simp only [lz0, lz1, lz2]; rfl) | rfl)
     case hQz21 => exact fun _ _ _ h => h
     case hwz21 => rfl
     case hyz21 => ((intro w hSw; go_simp); first | done | with_reducible rfl | exact HI0.out)
     try simp only [Act.put, lz3, lz4, lz5]
     refine wpAnyH_take (i := 2) (oi := ?oiz22) (v := .bool false) ?hiz22 (by kernel_rfl) (by kernel_rfl) (by kernel_rfl) ?hQz22 (Or.inl ⟨?hwz22, ?hyz22⟩) (by assumption) ?restz22
     case hiz22 => (first | (simp only [lz0, lz1, lz2]; rfl) | rfl)
     case hQz22 => exact fun _ _ _ h => h
     case hwz22 => rfl
     case hyz22 => ((intro w hSw; go_simp); first | done | with_reducible rfl | exact HI0.out)
     try simp only [Act.put, lz3, lz4, lz5]
     refine wpAnyH_take (i := 3) (oi := ?oiz23) (v := .bool false) ?hiz23 (by kernel_rfl) (by kernel_rfl) (by kernel_rfl) ?hQz23 (Or.inl ⟨?hwz23, ?hyz23⟩) (by assumption) ?restz23
     case hiz23 => (first | (simp only [lz0, lz1, lz2]; rfl) | rfl)
     case hQz23 => exact fun _ _ _ h => h
     case hwz23 => rfl
     case hyz23 => ((intro w hSw; go_simp); first | done | with_reducible rfl | exact HI0.out)
     try simp only [Act.put, lz3, lz4, lz5]
     refine wpAnyH_take (i := 4) (oi := ?oiz24) (v := ?vz24) ?hiz24 (by kernel_rfl) (by kernel_rfl) (by kernel_rfl) ?hQz24 (Or.inl ⟨?hwz24, ?hyz24⟩) (by assumption) ?restz24
     case hiz24 => (first | (simp only [lz0, lz1, lz2]; rfl) | rfl)
     case hQz24 => exact fun _ _ _ h => h
     case hwz24 => rfl
     case hyz24 => ((intro w hSw; go_simp); first | done | with_reducible rfl | exact HI0.out)
     try simp only [Act.put, lz3, lz4, lz5]
     refine wpAnyH_take (i := 5) (oi := ?oiz25) (v := .bool true) ?hiz25 (by kernel_rfl) (by kernel_rfl) (by kernel_rfl) ?hQz25 (Or.inl ⟨?hwz25, ?hyz25⟩) (by assumption) ?restz25
     case hiz25 => (first | (simp only [lz0, lz1, lz2]; rfl) | rfl)
     case hQz25 => exact fun _ _ _ h => h
     case hwz25 => rfl
     case hyz25 => ((intro w hSw; go_simp); first | done | with_reducible rfl | exact HI0.out)
     try simp only [Act.put, lz3, lz4, lz5]
     refine wpAnyH_take (i := 6) (oi := ?oiz26) (v := .bool true) ?hiz26 (by kernel_rfl) (by kernel_rfl) (by kernel_rfl) ?hQz26 (Or.inl ⟨?hwz26, ?hyz26⟩) (by assumption) ?restz26
     case hiz26 => (first | (simp only [lz0, lz1, lz2]; rfl) | rfl)
     case hQz26 => exact fun _ _ _ h => h
     case hwz26 => rfl
     case hyz26 => ((intro w hSw; go_simp); first | done | with_reducible rfl | exact HI0.out)
     try simp only [Act.put, lz3, lz4, lz5]
     refine wpAnyH_take (i := 7) (oi := ?oiz27) (v := ?vz27) ?hiz27 (by kernel_rfl) (by kernel_rfl) (by kernel_rfl) ?hQz27 (Or.inl ⟨?hwz27, ?hyz27⟩) (by assumption) ?restz27
     case hiz27 => (first | (simp only [lz0, lz1, lz2]; rfl) | rfl)
     case hQz27 => exact fun _ _ _ h => h
     case hwz27 => rfl
     case hyz27 => ((intro w hSw; go_simp); first | done | with_reducible rfl | exact HI0.out)
     try simp only [Act.put, lz3, lz4, lz5]
     refine wpAnyH_take (i := 8) (oi := ?oiz28) (v := ?vz28) ?hiz28 (by kernel_rfl) (by kernel_rfl) (by kernel_rfl) ?hQz28 (Or.inl ⟨?hwz28, ?hyz28⟩) (by assumption) ?restz28
     case hiz28 => (first | (simp only [lz0, lz1, lz2]; rfl) | rfl)
     case hQz28 => exact fun _ _ _ h => h
     case hwz28 => rfl
     case hyz28 => ((intro w hSw; go_simp); first | done | with_reducible rfl | exact HI0.out)
     try simp only [Act.put, lz3, lz4, lz5]
     refine wpAnyH_take (i := 9) (oi := ?oiz29) (v := ?vz29) ?hiz29 (by kernel_rfl) (by kernel_rfl) (by kernel_rfl) ?hQz29 (Or.inl ⟨?hwz29, ?hyz29⟩) (by assumption) ?restz29
     case hiz29 => (first | (simp only [lz0, lz1, lz2]; rfl) | rfl)
     case hQz29 => exact fun _ _ _ h => h
     case hwz29 => rfl
     case hyz29 => ((intro w hSw; go_simp); first | done | with_reducible rfl | exact HI0.out)
     try simp only [Act.put, lz3, lz4, lz5]
     refine wpAnyH_take (i := 10) (oi := ?oiz30) (v := ?vz30) ?hiz30 (by kernel_rfl) (by kernel_rfl) (by kernel_rfl) ?hQz30 (Or.inl ⟨?hwz30, ?hyz30⟩) (by assumption) ?restz30
     case hiz30 => (first | (simp only [lz0, lz1, lz2]; rfl) | rfl)
     case hQz30 => exact fun _ _ _ h => h
     case hwz30 => rfl
     case hyz30 => ((intro w hSw; go_simp); first | done | with_reducible rfl | exact HI0.out)
     try simp only [Act.put, lz3, lz4, lz5]
     refine wpAnyH_take (i := 11) (oi := ?oiz31) (v := ?vz31) ?hiz31 (by kernel_rfl) (by kernel_rfl) (by kernel_rfl) ?hQz31 (Or.inl ⟨?hwz31, ?hyz31⟩) (by assumption) ?restz31
     case hiz31 => (first | (simp only [lz0, lz1, lz2]; rfl) | rfl)
     case hQz31 => exact fun _ _ _ h => h
     case hwz31 => rfl
     case hyz31 => ((intro w hSw; go_simp); first | done | with_reducible rfl | exact HI0.out)
     try simp only [Act.put, lz3, lz4, lz5]
     refine wpAnyH_take (i := 12) (oi := ?oiz32) (v := ?vz32) ?hiz32 (by kernel_rfl) (by kernel_rfl) (by kernel_rfl) ?hQz32 (Or.inl ⟨?hwz32, ?hyz32⟩) (by assumption) ?restz32
     case hiz32 => (first | (simp only [lz0, lz1, lz2]; rfl) | rfl)
     case hQz32 => exact fun _ _ _ h => h
     case hwz32 => rfl
     case hyz32 => ((intro w hSw; go_simp); first | done | with_reducible rfl | exact HI0.out)
     try simp only [Act.put, lz3, lz4, lz5]
     refine wpAnyH_take (i := 13) (oi := ?oiz33) (v := ?vz33) ?hiz33 (by kernel_rfl) (by kernel_rfl) (by kernel_rfl) ?hQz33 (Or.inl ⟨?hwz33, ?hyz33⟩) (by assumption) ?restz33
     case hiz33 => (first | (simp only [lz0, lz1, lz2]; rfl) | rfl)
     case hQz33 => exact fun _ _ _ h => h
     case hwz33 => rfl
     case hyz33 => ((intro w hSw; go_simp); first | done | with_reducible rfl | exact HI0.out)
     try simp only [Act.put, lz3, lz4, lz5]
     refine wpAnyH_take (i := 14) (oi := ?oiz34) (v := ?vz34) ?hiz34 (by kernel_rfl) (by kernel_rfl) (by kernel_rfl) ?hQz34 (Or.inl ⟨?hwz34, ?hyz34⟩) (by assumption) ?restz34
     case hiz34 => (first | (simp only [lz0, lz1, lz2]; rfl) | rfl)
     case hQz34 => exact fun _ _ _ h => h
     case hwz34 => rfl
     case hyz34 => ((intro w hSw; go_simp); first | done | with_reducible rfl | exact HI0.out)
     try simp only [Act.put, lz3, lz4, lz5]
     refine wpAnyH_take (i := 15) (oi := ?oiz35) (v := ?vz35) ?hiz35 (by kernel_rfl) (by kernel_rfl) (by kernel_rfl) ?hQz35 (Or.inl ⟨?hwz35, ?hyz35⟩) (by assumption) ?restz35
     case hiz35 => (first | (simp only [lz0, lz1, lz2]; rfl) | rfl)
     case hQz35 => exact fun _ _ _ h => h
     case hwz35 => rfl
     case hyz35 => ((intro w hSw; go_simp); first | done | with_reducible rfl | exact HI0.out)
     try simp only [Act.put, lz3, lz4, lz5]
     refine wpAnyH_take (i := 16) (oi := ?oiz36) (v := .bool false) ?hiz36 (by kernel_rfl) (by kernel_rfl) (by kernel_rfl) ?hQz36 (Or.inl ⟨?hwz36, ?hyz36⟩) (by assumption) ?restz36
     case hiz36 => (first | (simp only [lz0, lz1, lz2]; rfl) | rfl)
     case hQz36 => exact fun _ _ _ h => h
     case hwz36 => rfl
     case hyz36 => ((intro w hSw; go_simp); first | done | with_reducible rfl | exact HI0.out)
     try simp only [Act.put, lz3, lz4, lz5]
     refine wpAnyH_take (i := 17) (oi := ?oiz37) (v := .bool false) ?hiz37 (by kernel_rfl) (by kernel_rfl) (by kernel_rfl) ?hQz37 (Or.inl ⟨?hwz37, ?hyz37⟩) (by assumption) ?restz37
     case hiz37 => (first | (simp only [lz0, lz1, lz2]; rfl) | rfl)
     case hQz37 => exact fun _ _ _ h => h
     case hwz37 => rfl
     case hyz37 => ((intro w hSw; go_simp); first | done | with_reducible rfl | exact HI0.out)
     try simp only [Act.put, lz3, lz4, lz5]
     refine wpAnyH_take (i := 18) (oi := ?oiz38) (v := .bool false) ?hiz38 (by kernel_rfl) (by kernel_rfl) (by kernel_rfl) ?hQz38 (Or.inl ⟨?hwz38, ?hyz38⟩) (by assumption) ?restz38
     case hiz38 => (first | (simp only [lz0, lz1, lz2]; rfl) | rfl)
     case hQz38 => exact fun _ _ _ h => h
     case hwz38 => rfl
     case hyz38 => ((intro w hSw; go_simp); first | done | with_reducible rfl | exact HI0.out)
     try simp only [Act.put, lz3, lz4, lz5]
     refine wpAnyH_done (by kernel_rfl) ?_ _
     clear hHeld
     go_wp2
     go_roundw
     case rel => exact ⟨i + 1, by omega, by go_num, HWD.out⟩
     case measure => simp [intOf]; omega
   ·have hil : i = nT := by omega
    subst hil
    have hlz : ¬ ((i : Int) < (i : Int)) := by omega
    by_cases hn0 : n = 0
    ·have e0 : ((n : Int) == 0) = true := by simp; omega
     have hT0 : i = 0 := by
      rw [HNT.out, HL.out]
      have : l = [] := List.length_eq_zero_iff.1 (by rw [HLEN.out]; exact hn0)
      rw [this]
      rfl
     have e1 : ((i : Int) == 0) = true := by simp; omega
     clear hn0 hT0
     go_wp2
     go_ret
     exact ⟨rfl, HBr.out⟩
    have e0 : ((n : Int) == 0) = false := by simp; omega
    have hn0z : ¬ (n : Int) = 0 := by omega
    obtain ⟨k, hk'⟩ : ∃ k, k = wh % n := ⟨_, rfl⟩
    have hkn : k < n := by rw [hk']; exact Nat.mod_lt wh (by omega)
    have hkz : (wh : Int) % (n : Int) = (k : Int) := by rw [hk']; simp
    have p0 : (0 : Int) ≤ (k : Int) := by omega
    have p1 : (k : Int) < (n : Int) := by omega
    obtain ⟨pd, pr, rfl, hpr, -, a1, -, -⟩ := (HD.out.below HBr.out).at k hkn
    obtain ⟨xk, xt⟩ := pr
    simp only at a1
    have z2 := str_size xt
    have HPR := Lib.hid hpr
    obtain ⟨tl, htl⟩ : ∃ tl, tl = xt.length := ⟨_, rfl⟩
    rw [← htl] at z2
    have HTL := Lib.hid htl
    have htl4 : tl ≤ 4096 := by rw [htl]; exact (HR.out.2.1 _ (List.mem_of_getElem? hpr)).2.2
    clear hk' hpr htl
    by_cases ht0 : tl = 0
    ·have f0 : ((tl : Int) == 0) = true := by simp; omega
     clear ht0
     go_wp2
     go_ret
     exact ⟨rfl, HBr.out⟩
    have f0 : ((tl : Int) == 0) = false := by simp; omega
    have ht0z : ¬ (tl : Int) = 0 := by omega
    obtain ⟨j, hj⟩ : ∃ j, j = at_ % tl := ⟨_, rfl⟩
    have hjt : j < tl := by rw [hj]; exact Nat.mod_lt at_ (by omega)
    have hjz : (at_ : Int) % (tl : Int) = (j : Int) := by rw [hj]; simp
    have hxc : xt[j]? = some (xt[j]'(by rw [← HTL.out]; exact hjt)) := List.getElem?_eq_getElem _
    obtain ⟨ch, hch⟩ : ∃ ch, ch = xt[j]'(by rw [← HTL.out]; exact hjt) := ⟨_, rfl⟩
    rw [← hch] at hxc
    have hix := str_at hxc
    have hc8 := ch.toNat_lt
    obtain ⟨ba, bb⟩ := bare_at HO1.out HBARE.out (by rw [← HTL.out]; exact htl4) hxc
    have hsp := tok_spot (i := k) (pr := (xk, xt)) ba
    simp only at hsp
    rw [bb] at hsp
    obtain ⟨q1, q2⟩ := toks_in (V := V1) HPR.out
    rw [← HL.out] at q1 q2
    have htT : ((ch.toNat : Nat) : Int) ∈ (mD L k).T := by rw [q1]; exact List.mem_of_getElem? ba
    obtain ⟨t, ht⟩ : ∃ t : Int, t = ((ch.toNat : Nat) : Int) := ⟨_, rfl⟩
    rw [← ht] at hsp htT hix
    have hmem : t ∈ mTerms L := terms_mem.2 ⟨_, mD_mem q2, htT⟩
    obtain ⟨IP, hIP⟩ := posts_doc q2 htT
    have HSPOT : Hid (∀ p ∈ mPosts L t, p.1 = (k : Int) → ∃ J, J < p.2.length ∧ ∃ s, p.2[J]? = some s ∧ s.2 = (j : Int)) := Lib.hid (fun p hp he => by
     have h1 := posts_of HMW.out hp q2 (by rw [he, q1]; rfl)
     rw [h1, q1]
     obtain ⟨J, hJ⟩ := List.getElem?_of_mem hsp
     exact ⟨J, (List.getElem?_eq_some_iff.1 hJ).1, _, hJ, rfl⟩)
    have HIP : Hid (∃ p, (mPosts L t)[IP]? = some p ∧ p.1 = (k : Int)) := Lib.hid ⟨_, hIP, by rw [q1]; rfl⟩
    have hcu := HSO.out.cursor HSr.out HWF.out t (by unfold fits64; omega)
    rw [segT_get hmem] at hcu
    have HCU := Lib.hid hcu
    have HVP := Lib.hid (posts_valid HMW.out t)
    have hconv : t = (ch.toNat : Int) := ht
    have htr : 0 ≤ t ∧ t < 256 := by omega
    clear hj hxc hch ba bb hsp q1 q2 htT hmem hIP hcu ht
    rw [← hconv] at *
    clear hconv
    go_wp2_with fail
    refine HCU.out.mono ?_
    rintro e w6 ⟨hb6, cb, F6, rfl, hk6, hF6⟩
    have HB6 := Lib.hid (below_then HBr.out hb6 HBr.out.size)
    have HK6 := Lib.hid hk6
    have HF6 := Lib.hid hF6
    have hz6 := hb6.size
    clear hb6 hk6 hF6 HCU
    go_wp2_with fail
    refine (sgPosts_any HCO.out HK6.out HVP.out).mono ?_
    rintro e w7 ⟨A7, c7, rfl, hp7, -, hkp7⟩
    have HB7 := Lib.hid (HB6.out.trans (hkp7.toBelow HB6.out.size (fun j hj => by have := HF6.out j hj; have := HBr.out.size; omega)))
    have HP7 := Lib.hid hp7
    obtain ⟨Pn, hPn⟩ : ∃ Pn, Pn = (mPosts L t).length := ⟨_, rfl⟩
    rw [← hPn] at HP7 ⊢
    have HPN := Lib.hid hPn
    have hpn63 := hp7.fit
    rw [← hPn] at hpn63
    unfold maxLen at hpn63
    have HIL : Hid (IP < Pn) := Lib.hid (by obtain ⟨p, h1, -⟩ := HIP.out; rw [HPN.out]; exact (List.getElem?_eq_some_iff.1 h1).1)
    clear hp7 hkp7 hPn a1 hix
    go_wp2
    go_loopw [19] (fun iv wr => ∃ a : Nat, a ≤ IP ∧ iv = .int .i64 a ∧ Below w7.heap.size w7 wr) (fun iv _ => Pn - (intOf iv).toNat)
    case atStart => exact ⟨0, Nat.zero_le _, rfl, Below.refl _ _⟩
    case round =>
     obtain ⟨a, ha, rfl, hba⟩ := hrel
     have HBA := Lib.hid hba
     have hil := HIL.out
     have da : decide ((a : Int) < (Pn : Int)) = true := by simp; omega
     have q0 : (0 : Int) ≤ (a : Int) := by omega
     have q1 : (a : Int) < (Pn : Int) := by omega
     have hwa : IntKind.i64.wrap ((a : Int) + 1) = (a : Int) + 1 := IntWalk.i64_in _ (by omega)
     obtain ⟨pp, x, Bx, cx, rfl, hx, hxf, a0, a1, hcx, hpx⟩ := (HP7.out.below hba).at a (by omega)
     have HX := Lib.hid hx
     have HPX := Lib.hid hpx
     obtain ⟨sn, hsn⟩ : ∃ sn, sn = x.2.length := ⟨_, rfl⟩
     rw [← hsn] at a1
     have HSN := Lib.hid hsn
     obtain ⟨xd, hxd⟩ : ∃ xd, xd = x.1 := ⟨_, rfl⟩
     rw [← hxd] at a0
     have HXD := Lib.hid hxd
     have hsn63 := hpx.fit
     rw [← hsn] at hsn63
     unfold maxLen at hsn63
     clear hba hx hxf hpx hsn hxd hcx
     by_cases hd : xd = (k : Int)
     ·have dk : (xd == (k : Int)) = true := by simpa using hd
      obtain ⟨J, hJ1, s, hJ2, hJ3⟩ := HSPOT.out x (List.mem_of_getElem? HX.out) (by rw [← HXD.out]; exact hd)
      rw [← HSN.out] at hJ1
      have HJ2 := Lib.hid hJ2
      have HJ3 := Lib.hid hJ3
      clear hd hJ2 hJ3
      obtain ⟨wo, hwo⟩ : ∃ z, z = wr := ⟨_, rfl⟩
      subst hwo
      go_wp2
      go_loopw [20] (fun iv wi => ∃ b : Nat, b ≤ J ∧ iv = .int .i64 b ∧ Below wo.heap.size wo wi) (fun iv _ => sn - (intOf iv).toNat)
      case atStart => exact ⟨0, Nat.zero_le _, rfl, Below.refl _ _⟩
      case round =>
       obtain ⟨b, hbJ, rfl, hbb⟩ := hrel
       have HBB := Lib.hid hbb
       have db : decide ((b : Int) < (sn : Int)) = true := by simp; omega
       have r0 : (0 : Int) ≤ (b : Int) := by omega
       have r1 : (b : Int) < (sn : Int) := by omega
       have hwb : IntKind.i64.wrap ((b : Int) + 1) = (b : Int) + 1 := IntWalk.i64_in _ (by omega)
       obtain ⟨ps, sp, rfl, hsp, -, b1, -, -⟩ := (HPX.out.below hbb).at b (by rw [← HSN.out]; omega)
       have a1' := below_cells hbb a1
       by_cases he : sp.2 = (j : Int)
       ·have de : (sp.2 == (j : Int)) = true := by simpa using he
        have HBF := Lib.hid (below_then HB7.out (below_then HBA.out hbb HBA.out.size) HB7.out.size)
        clear hbb he hsp
        go_wp2
        go_ret
        exact ⟨rfl, HBF.out⟩
       ·have de : (sp.2 == (j : Int)) = false := by simpa using he
        have hne : b ≠ J := fun e => by
         subst e
         rw [HJ2.out] at hsp
         exact he (by rw [← Option.some.inj hsp]; exact HJ3.out)
        clear hbb he hsp
        go_wp2
        go_roundw
        case rel => exact ⟨b + 1, by omega, by go_num, HBB.out⟩
        case measure => simp [intOf]; omega
     ·have dk : (xd == (k : Int)) = false := by simpa using hd
      have hne : a ≠ IP := fun e => by
       subst e
       obtain ⟨p, h1, h2⟩ := HIP.out
       rw [h1] at HX
       exact hd (by rw [HXD.out, ← Option.some.inj HX.out]; exact h2)
      clear hd
      go_wp2
      go_roundw
      case rel => exact ⟨a + 1, by omega, by go_num, HBA.out⟩
      case measure => simp [intOf]; omega
 ·have HR := Lib.hid hR
  clear hR
  go_wp2_with fail
  refine (of_is w2 none 0 0 _ (pairs_nil _) (by omega) (by omega) HV1.out).mono ?_
  rintro e x1 ⟨A1, B1, n1, m1, ca1, cb1, rfl, hsee, hb⟩
  replace HB := Lib.hid (below_then HB.out hb HB.out.size)
  have HE1 := Lib.hid hsee
  clear hb hsee
  go_wp2_with fail
  refine (new_is x1 A1 B1 n1 m1 ca1 cb1 V1 HE1.out HO1.out).mono ?_
  rintro e y1 ⟨b1, rfl, hb, hC⟩
  replace HB := Lib.hid (below_then HB.out hb HB.out.size)
  have HC1 := Lib.hid hC
  clear hb hC HE1
  have HU1 := Lib.hid (HSO.out.build HC1.out HO1.out D n c l (HD.out.below HB.out) HNC.out (by have := HSM.out.2.text; omega))
  go_wp2_with fail
  refine HU1.out.mono ?_
  intro e z1 hso
  obtain ⟨rfl, hb⟩ := hso.no HR.out
  replace HB := Lib.hid (below_then HB.out hb HB.out.size)
  clear hso hb HU1
  go_wp2
  go_ret
  exact ⟨rfl, HB.out⟩
end Go.Proofs.YthcjikpabpgpfaaGreat
