/- CoverTells. -/
import Derived.Test.YtjnbilcanfhkjaaOHead
import Derived.RangeFuncNested
import Derived.RangeFuncLeaves
import Derived.RangeFuncCalls
import Derived.Shelf.Abstract
import Derived.Shelf.RegionOpen
import Derived.OwnWalkIn
import Derived.TacticsInMore
namespace Go.Proofs.Ytjnbilcanfhkjaa
open Go.RowKit Go.Maps Go.WideMaps Go.Shelf
set_option linter.unusedSimpArgs false

attribute [local go_sem] Oper.semAt_some

set_option maxHeartbeats 8000000 in
set_option maxRecDepth 100000 in
theorem coverTells_any {K : World → Nat → List Nm → Prop} (hK : CoverOk K) (W : World) (A : Option Addr) (n ca : Nat) (L : List Nm) (hl : RowsSz W A n L) (B : Option Addr) (m cb : Nat) (s : Nm) (hs : BytesSz W B m s) (hcb : m ≤ cb) (C : Option Addr) (p cp : Nat) (l : List Int) (hp : IntsIn W C p l) (hpz : p ≤ 140737488351232) (t i : Int) (ht : fits64 t) (hi : fits64 i) :
    Calls Try.prog 3 #[.slice A n ca, .slice B m cb, .slice C p cp, .agg #[.int .i64 t, .int .i64 i]] W fun e w' => e = .returned (.bool true) ∧ Below W.heap.size W w' := by
  have hep := eqCoverNil
  have hmx : Try.prog.follows .mixedOrders = true := by kernel_rfl
  have HK := Lib.hid hK
  obtain ⟨W0, hW0⟩ : ∃ W0, W0 = W.alloc (.cells #[.int .i64 t, .int .i64 i] 26) := ⟨_, rfl⟩
  have hbx : Blk W0 W.heap.size 26 #[.int .i64 t, .int .i64 i] := by rw [hW0]; exact Blk.new _ _ _
  have hb0 : Below W.heap.size W W0 := by rw [hW0]; exact (Below.refl _ W).alloc (Nat.le_refl _) _
  have hs0 : W0.heap.size = W.heap.size + 1 := by rw [hW0]; simp
  have HL := Lib.hid (⟨hl.1.below hb0, hl.2⟩ : RowsSz W0 A n L)
  have HS := Lib.hid (⟨hs.1.below hb0, hs.2⟩ : BytesSz W0 B m s)
  have HP := Lib.hid (hp.below hb0)
  have HLEN := Lib.hid hl.1.len
  have HBX := Lib.hid hbx
  have HB0 := Lib.hid hb0
  have HS0 := Lib.hid hs0
  have HW0 := Lib.hid hW0
  have HTT := Lib.hid ht
  have HII := Lib.hid hi
  clear hl hs hp hK hW0 hbx hb0 hs0 ht hi
  refine (callsIn_wide (n := 5)).1 ?_
  refine callsIn_of_wp Try.func3 rfl trivial ?_ rfl
  simp only [Try.ntmps3, List.size_toArray, List.length_cons, List.length_nil, Nat.reduceAdd, Nat.reduceSub, Array.replicate_succ, Array.replicate_zero, List.push_toArray, List.append_toArray, List.nil_append, List.cons_append]
  have HH := Lib.hid (coverHead_any HK.out W0)
  gi_wp2_with fail
  rw [← HW0.out]
  refine ⟨trivial, ?_⟩
  refine (callsIn_wide.2 HH.out).mono ?_
  rintro e w1 ⟨rfl, hb1⟩
  have HB1 := Lib.hid hb1
  have HG := Lib.hid (coverGreat_any w1 A B C n m p ca cb cp L (HL.out.1.below hb1) HL.out.2.1 HL.out.2.2 HS.out.2 hpz)
  clear hb1
  gi_wp2_with fail
  refine ⟨trivial, ?_⟩
  refine (callsIn_wide.2 HG.out).mono ?_
  rintro e w2 ⟨r, rfl, hw2, hrr⟩
  obtain rfl := hw2
  have hbW := HB0.out.trans (HB1.out.mono HB0.out.size)
  have HBW := Lib.hid hbW
  clear hbW
  cases r with
  | true =>
    clear hrr
    gi_wp2
    go_ret
    exact ⟨rfl, HBW.out⟩
  | false =>
    obtain ⟨hm, hn, hp5, htot, hsh⟩ := hrr rfl
    have HSH := Lib.hid hsh
    have HTOT := Lib.hid htot
    clear hrr HG hsh htot
    cases hr : rightB L with
    | false =>
      have HN := Lib.hid (HK.out.new_none w2 A n ca L (HL.out.1.below HB1.out) (by omega) hr)
      have HR := Lib.hid hr
      clear hr
      gi_wp2_with fail
      refine ⟨trivial, ?_⟩
      refine (callsIn_wide.2 HN.out).mono ?_
      rintro e w3 ⟨rfl, hb3⟩
      have HB3 := Lib.hid (below_then HBW.out hb3 HBW.out.size)
      have HRG := Lib.hid (r7Right_any w3 A n ca L ((HL.out.1.below HB1.out).below hb3))
      rw [HR.out] at HRG
      clear hb3
      gi_wp2_with fail
      refine ⟨trivial, ?_⟩
      refine (callsIn_wide.2 HRG.out).mono ?_
      rintro e w4 ⟨rfl, hw4⟩
      obtain rfl := hw4
      gi_wp2
      go_ret
      exact ⟨rfl, HB3.out⟩
    | true =>
      have HN := Lib.hid (HK.out.new w2 A n ca L (HL.out.1.below HB1.out) hr)
      have HR := Lib.hid hr
      clear hr
      gi_wp2_with fail
      refine ⟨trivial, ?_⟩
      refine (callsIn_wide.2 HN.out).mono ?_
      rintro e w3 ⟨b, rfl, hb3, hk3⟩
      have HB3 := Lib.hid (below_then HBW.out hb3 HBW.out.size)
      have hb13 := below_then HB1.out hb3 HB1.out.size
      have HL3 := Lib.hid ((HL.out.1.below hb13).drewN 1)
      have HS3 := Lib.hid ((HS.out.1.below hb13).drewN 1)
      have HP3 := Lib.hid ((HP.out.below hb13).below (below_drewN (Below.refl _ _) 1))
      have HK3 := Lib.hid (HK.out.below hk3 (below_drewN (Below.refl _ _) 1))
      have HBX3 := Lib.hid ((HBX.out.below hb13 (by rw [HS0.out]; omega)).drewN 1)
      have HRG := Lib.hid (r7Right_any (w3.drewN 1) A n ca L HL3.out)
      rw [HR.out] at HRG
      have HC2 := Lib.hid (of_is HK.out HK3.out HR.out B m cb s HS3.out hcb (by omega) rfl)
      obtain ⟨Q, hQ⟩ : ∃ Q, Q = alUp L s L.length := ⟨_, rfl⟩
      rw [← hQ] at HC2
      have HQ := Lib.hid hQ
      have HQF := Lib.hid (by rw [hQ]; exact ⟨al_few HR.out s, al_fits HR.out s (Nat.le_refl _)⟩ : Q.length ≤ 8192 ∧ ∀ p ∈ Q, fits64 p.1 ∧ fits64 p.2)
      have hF2 : totUp L n ≤ 1048576 := by have := HTOT.out; omega
      obtain ⟨R, hR⟩ : ∃ R, R = chUp L s l p := ⟨_, rfl⟩
      have HRR := Lib.hid hR
      have HRF := Lib.hid (by rw [hR]; exact ⟨ch_few HR.out s l hp5, ch_fits HR.out s l hp5⟩ : R.length ≤ 8000 ∧ ∀ x ∈ R, -9223372036854775808 ≤ x ∧ x ≤ 9223372036854775807)
      have hF3 : (textUp L l p).length ≤ 1048576 := by have := right_text HR.out l p; omega
      obtain ⟨z, hz⟩ : ∃ z, z = sureB L s t i := ⟨_, rfl⟩
      have HZ := Lib.hid hz
      have ez : (z == z) = true := by cases z <;> rfl
      clear hb3 hk3 hb13 hQ hR hz
      gi_wp2
      gi_region_with_o (first
        | (refine ⟨trivial, ?_⟩; gi_at_call 11; refine (callsIn_wide.2 HRG.out).mono ?_; rintro e w4 ⟨rfl, rfl⟩)
        | (refine ⟨trivial, ?_⟩; gi_at_call 13; refine (callsIn_wide.2 HC2.out).mono ?_; rintro e w5 ⟨X5, x5, rfl, hi5, hb5⟩; have HI5 := Lib.hid hi5; have HB5 := Lib.hid hb5; have HC3 := Lib.hid (r8Of_any w5 A B n m ca cb L s (HL3.out.below hb5) (HS3.out.below hb5) hcb hF2); clear hi5 hb5)
        | (refine ⟨trivial, ?_⟩; gi_at_call 14; refine (callsIn_wide.2 HC3.out).mono ?_; rintro e w6 ⟨v6, rfl, ho6, hb6⟩; rw [← HLEN.out, ← HQ.out] at ho6; obtain ⟨X6, x6, hv6⟩ := own_slice ho6; subst hv6; have HB6 := Lib.hid (below_then HB5.out hb6 HB5.out.size); have HC4 := Lib.hid (r8Same_any w6 X5 X6 Q.length x5 x6 Q (HI5.out.below hb6) (PairsIn.ownTwo ho6 rfl (Nat.le_trans HQF.out.1 (by unfold maxLen; omega)) HQF.out.2)); clear ho6 hb6)
        | (refine ⟨trivial, ?_⟩; gi_at_call 12; refine (callsIn_wide.2 HC4.out).mono ?_; rintro e w7 ⟨rfl, q7, hw7⟩; have HB7 := Lib.hid (by rw [hw7]; exact below_drewN HB6.out q7 : Below (w3.drewN 1).heap.size (w3.drewN 1) w7); have HC5 := Lib.hid (chances_is HK.out (HK.out.below HK3.out HB7.out) HR.out B C m p cb cp s l (HS3.out.below HB7.out) (HP3.out.below HB7.out) hcb (by omega) hp5 HRR.out.symm); clear hw7)
        | (refine ⟨trivial, ?_⟩; gi_at_call 16; refine (callsIn_wide.2 HC5.out).mono ?_; rintro e w8 ⟨X8, x8, rfl, hi8, hb8⟩; have HI8 := Lib.hid hi8; have HB8 := Lib.hid (below_then HB7.out hb8 HB7.out.size); have HC6 := Lib.hid (r8Chances_any w8 A B C n m p ca cb cp L s l (HL3.out.below HB8.out) (HS3.out.below HB8.out) (HP3.out.below HB8.out) hcb hF3); clear hi8 hb8)
        | (refine ⟨trivial, ?_⟩; gi_at_call 17; refine (callsIn_wide.2 HC6.out).mono ?_; rintro e w9 ⟨v9, rfl, ho9, hb9⟩; rw [← HRR.out] at ho9; obtain ⟨X9, x9, hv9⟩ := own_slice ho9; subst hv9; have HB9 := Lib.hid (below_then HB8.out hb9 HB8.out.size); have hsame := r6Same_any w9 X8 X9 R.length R.length x8 x9 R R (HI8.out.below hb9) (IntsIn.own ho9 (Nat.le_trans HRF.out.1 (by unfold maxLen; omega)) HRF.out.2); rw [decide_eq_true rfl] at hsame; have HC7 := Lib.hid hsame; clear ho9 hb9 hsame)
        | (refine ⟨trivial, ?_⟩; gi_at_call 15; refine (callsIn_wide.2 HC7.out).mono ?_; rintro e w10 ⟨rfl, q10, hw10⟩; have HB10 := Lib.hid (by rw [hw10]; exact below_drewN HB9.out q10 : Below (w3.drewN 1).heap.size (w3.drewN 1) w10); have HBX10 := Lib.hid (HBX3.out.below HB10.out HBX3.out.lt); have g0 : w10.cell? ⟨W.heap.size, 0, none⟩ = some (.int .i64 t) := HBX10.out.cell 0; have g1 : w10.cell? ⟨W.heap.size, 1, none⟩ = some (.int .i64 i) := HBX10.out.cell 1; have HC8 := Lib.hid (sure_is HK.out (HK.out.below HK3.out HB10.out) HR.out B m cb s (HS3.out.below HB10.out) hcb (by omega) HTT.out HII.out HZ.out.symm); clear hw10)
        | (refine ⟨trivial, ?_⟩; gi_at_call 18; refine (callsIn_wide.2 HC8.out).mono ?_; rintro e w11 ⟨rfl, hb11⟩; have HB11 := Lib.hid (below_then HB10.out hb11 HB10.out.size); have HBX11 := Lib.hid (HBX3.out.below HB11.out HBX3.out.lt); have k0 : w11.cell? ⟨W.heap.size, 0, none⟩ = some (.int .i64 t) := HBX11.out.cell 0; have k1 : w11.cell? ⟨W.heap.size, 1, none⟩ = some (.int .i64 i) := HBX11.out.cell 1; have hsure := r8Sure_any w11 A B n m ca cb L s t i (HL3.out.below HB11.out) (HS3.out.below HB11.out) hcb; rw [← HZ.out] at hsure; have HC9 := Lib.hid hsure; clear hb11 hsure)
        | (refine ⟨trivial, ?_⟩; gi_at_call 19; refine (callsIn_wide.2 HC9.out).mono ?_; rintro e w12 ⟨rfl, hb12⟩; have HB12 := Lib.hid (below_then HB11.out hb12 HB11.out.size); clear hb12))
      all_goals
        have hfin := (below_drewN HB3.out 1).trans (HB12.out.mono HB3.out.size)
        have HFIN := Lib.hid hfin
        clear hfin
        gi_wp2
        go_ret
        exact ⟨rfl, HFIN.out⟩
end Go.Proofs.Ytjnbilcanfhkjaa
