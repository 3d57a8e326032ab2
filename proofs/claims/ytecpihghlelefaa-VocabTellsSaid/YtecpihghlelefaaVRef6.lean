/- The document's Put. -/
import Derived.Test.YtecpihghlelefaaVProg4
import Derived.Test.YtecpihghlelefaaVRef2
namespace Go.Proofs.Ytecpihghlelefaa
open Go.RowKit Go.Maps Go.WideMaps
set_option linter.unusedSimpArgs false

set_option maxHeartbeats 8000000 in
set_option maxRecDepth 100000 in
theorem r5Put_any (w : World) (A B : Option Addr) (n m ca cb : Nat) (V : Voc) (hV : VocSee w A B n m ca cb V) :
    Calls Try.prog 15 #[vocV A B n m ca cb] w (PutOut w V) := by
  obtain ⟨i0, hi, hz0, hz1, hz2⟩ := info_parts byteInfo
  unfold PutOut
  obtain ⟨E, hE⟩ : ∃ E, E = checkV V := ⟨_, rfl⟩
  obtain ⟨P, hP⟩ : ∃ P, P = resP V := ⟨_, rfl⟩
  rw [← hE, ← hP]
  have HE := Lib.hid hE
  have HP := Lib.hid hP
  have HN := Lib.hid hV.tok.len
  have HM := Lib.hid hV.mer.len
  have b1 := (Below.refl w.heap.size w).alloc (Nat.le_refl _) (.cells #[.slice A n ca, .slice B m cb] 33)
  obtain ⟨W1, hW1⟩ : ∃ z, z = w.alloc (.cells #[.slice A n ca, .slice B m cb] 33) := ⟨_, rfl⟩
  have hv0 : Blk W1 w.heap.size 33 #[.slice A n ca, .slice B m cb] := by rw [hW1]; exact Blk.new _ _ _
  rw [← hW1] at b1
  have HV0 := Lib.hid hv0
  have HB1 := Lib.hid b1
  have HV := Lib.hid (hV.below b1)
  have HW1 := Lib.hid hW1
  have y0 := hv0.cell 0
  have y1 := hv0.cell 1
  simp only [List.getElem?_toArray, List.getElem?_cons_zero, List.getElem?_cons_succ] at y0 y1
  clear hV hE hP b1 hW1 hv0
  unfold vocV
  go_enter Try.func15, Try.ntmps15
  go_wp2_with fail
  rw [← HW1.out]
  go_wp2_with fail
  have h := r5Check_any W1 A B n m ca cb V HV.out
  rw [← HE.out] at h
  unfold vocV at h
  refine h.mono ?_
  rintro e w2 ⟨rfl, hb⟩
  have HB2 := Lib.hid (below_then HB1.out hb HB1.out.size)
  have HV2 := Lib.hid (HV.out.below hb)
  have hv2 := HV0.out.below hb HV0.out.lt
  have HV02 := Lib.hid hv2
  have x0 := hv2.cell 0
  have x1 := hv2.cell 1
  simp only [List.getElem?_toArray, List.getElem?_cons_zero, List.getElem?_cons_succ] at x0 x1
  clear hb y0 y1 hv2 h
  by_cases hbad : E ≠ 0
  · have d1 : (E != 0) = true := by simpa using hbad
    have hp : P = [] := by rw [HP.out]; unfold resP; rw [if_neg (by rw [← HE.out]; exact hbad)]
    subst hp
    clear hbad
    go_wp2
    go_ret2
    exact ⟨.slice none 0 0, rfl, World.ownsRow_nil _ _ _ _, HB2.out⟩
  have hE0 : E = 0 := by simpa using hbad
  subst hE0
  obtain ⟨hn5, hm5, hx5, hg5⟩ := check_bounds HE.out.symm
  rw [HN.out] at hn5
  rw [HM.out] at hm5
  have hp : P = putV V := by rw [HP.out]; unfold resP; rw [if_pos HE.out.symm]
  have HPP := Lib.hid hp
  have HX5 := Lib.hid hx5
  have HG5 := Lib.hid hg5
  have hpn := putL_len n (by omega)
  have hpm := putL_len m (by omega)
  have HPM := Lib.hid hpm
  have hw1 : ((n : Int) % 18446744073709551616) = n := by omega
  have hw2 : ((m : Int) % 18446744073709551616) = m := by omega
  clear hbad hp hx5 hg5 hpm
  go_wp2_with fail
  refine (r3Put_any w2 n (by omega)).mono ?_
  rintro e w3 ⟨v3, rfl, hO, hb⟩
  have HB3 := Lib.hid hb
  have HO3 := Lib.hid hO
  have x0' := (HV02.out.below hb HV02.out.lt).cell 0
  simp only [List.getElem?_toArray, List.getElem?_cons_zero] at x0'
  clear hO hb x0 x1
  go_wp2_with fail
  go_loopw [5, 6] (fun v i wr => ∃ k : Nat, k ≤ n ∧ i = .int .i64 k ∧ wr.ownsRow w2.heap.size 5 1 v (putL n ++ tokB (V.tok.take k)).length ((putL n ++ tokB (V.tok.take k)).map byteV) ∧ Below w2.heap.size w2 wr) (fun _ i _ => n - (intOf i).toNat)
  case atStart => exact ⟨0, Nat.zero_le _, rfl, by simpa [tokB] using HO3.out, HB3.out⟩
  case round =>
    clear HO3 HB3 x0'
    obtain ⟨k, hk, rfl, hO, hB⟩ := hrel
    have HO := Lib.hid hO
    have HB := Lib.hid hB
    have hyl : (putL n ++ tokB (V.tok.take k)).length ≤ 20000 := by
      have h1 := tokB_len (V.tok.take k) (fun x hx => HX5.out x (List.mem_of_mem_take hx))
      rw [List.length_take, HN.out] at h1
      rw [List.length_append]
      omega
    obtain ⟨ys, hys⟩ : ∃ ys, ys = putL n ++ tokB (V.tok.take k) := ⟨_, rfl⟩
    rw [← hys] at HO hyl
    have HYS := Lib.hid hys
    have q0 := (HV02.out.below hB HV02.out.lt).cell 0
    have q1 := (HV02.out.below hB HV02.out.lt).cell 1
    simp only [List.getElem?_toArray, List.getElem?_cons_zero, List.getElem?_cons_succ] at q0 q1
    clear hO hys
    rcases Nat.lt_or_ge k n with hlt | hge
    · have hlt' : (k : Int) < (n : Int) := by omega
      obtain ⟨x, hx⟩ : ∃ x, V.tok[k]? = some x := ⟨_, List.getElem?_eq_getElem (by rw [HN.out]; exact hlt)⟩
      obtain ⟨ad, C, c, rfl, ec, hc, hA⟩ := HV2.out.tok.at_ k x hx
      have ec' := below_cells hB ec
      have hx16 := HX5.out x (List.mem_of_getElem? hx)
      have HTK := Lib.hid (tokB_take hx)
      have HA := Lib.hid hA
      have hw8 : ((x.length : Int) % 256) = x.length := by omega
      have bA := (Below.refl wr.heap.size wr).alloc (Nat.le_refl _) (.cells #[.int .u8 x.length] 5)
      have hin := const_in wr [UInt8.ofNat x.length] (0, 0) (by unfold maxLen; simp)
      have hbv : (([UInt8.ofNat x.length] : Nm).map byteV).toArray = #[.int .u8 x.length] := by
        simp only [List.map_cons, List.map_nil, byteV]
        rw [UInt8.toNat_ofNat_of_lt' (by show _ < 256; omega)]
      rw [hbv] at hin
      obtain ⟨u1, hu1⟩ : ∃ z, z = wr.alloc (.cells #[.int .u8 x.length] 5) := ⟨_, rfl⟩
      rw [← hu1] at bA hin
      have HO1 := Lib.hid (ownsRow_block HO.out fun g hg => bA.block g (HO.out.lt g hg).2)
      have HB1a := Lib.hid (HB.out.trans (bA.mono HB.out.size))
      have HI1 := Lib.hid hin
      have HU1 := Lib.hid hu1
      have HEC := Lib.hid ec
      clear hx ec hA hB hc bA hin hbv hu1
      have tok1 : True := trivial
      have tok2 : True := trivial
      go_wp2_with (first
        | (have _t := tok1; at_builtin; rw [← HU1.out]; refine wpList_append_src _ rfl _ _ 23 rfl w2.heap.size 5 i0 (.int .u8 0) 1 Try.underlying23 hi hz0 hz1 hz2 rfl _ ys.length (ys.map byteV) rfl HO1.out (some ⟨wr.heap.size, 0, none⟩) 1 1 ([UInt8.ofNat x.length].map byteV) rfl HI1.out.2.1 (u8_one _) (by unfold maxLen; omega) (by omega) HB1a.out.size ?_; intro v4 w4 hown4 hg4 hloc4; clear tok1 hloc4; obtain ⟨A4, c4, rfl⟩ := own_slice hown4; have HB4 := Lib.hid (HB1a.out.grown hg4 HB1a.out.size (fun k e => (HO1.out.lt k e).1)); have HO4 := Lib.hid hown4; have HA4 := Lib.hid (HA.out.below HB4.out); have ec4 := below_cells HB4.out HEC.out; have q4 := (HV02.out.below HB4.out HV02.out.lt).cell 0; simp only [List.getElem?_toArray, List.getElem?_cons_zero] at q4; clear hown4 hg4)
        | (have _t := tok2; at_builtin; refine wpList_append_src _ rfl _ _ 23 rfl w2.heap.size 5 i0 (.int .u8 0) 1 Try.underlying23 hi hz0 hz1 hz2 rfl _ (ys.length + 1) (ys.map byteV ++ [UInt8.ofNat x.length].map byteV) rfl HO4.out C x.length c (x.map byteV) rfl HA4.out.2.1 (u8_one _) (by unfold maxLen; omega) (by omega) HB4.out.size ?_; intro v5 w5 hown5 hg5 hloc5; clear tok2 hloc5; have HB5 := Lib.hid (HB4.out.grown hg5 HB4.out.size (fun k e => (HO4.out.lt k e).1)); have HO5 := Lib.hid hown5; clear hown5 hg5))
      go_roundw
      case rel =>
        refine ⟨k + 1, by omega, by go_num, ?_, HB5.out⟩
        have e : putL n ++ tokB (V.tok.take (k + 1)) = ys ++ [UInt8.ofNat x.length] ++ x := by rw [HTK.out, HYS.out, putL_small (n := x.length) (by omega)]; simp [List.append_assoc]
        rw [e, List.length_append, List.map_append, List.length_append, List.map_append]
        exact HO5.out
      case measure => simp [intOf]; omega
    · obtain rfl : k = n := by omega
      have hkz : ¬ ((k : Int) < (k : Int)) := by omega
      have hys2 : ys = putL k ++ tokB V.tok := by rw [HYS.out, List.take_of_length_le (by rw [HN.out]; exact Nat.le_refl _)]
      have HYS2 := Lib.hid hys2
      obtain ⟨Ay, cy, rfl⟩ := own_slice HO.out
      clear hys2 hB
      go_wp2_with fail
      refine (r3Put_any wr m (by omega)).mono ?_
      rintro e w4 ⟨v4, rfl, hO4, hb4⟩
      obtain ⟨A4, c4, rfl⟩ := own_slice hO4
      have HO4 := Lib.hid (ownsRow_block HO.out fun g hg => hb4.block g (HO.out.lt g hg).2)
      have HI4 := Lib.hid (BytesIn.own hO4 (by unfold maxLen; have := HPM.out; omega))
      have HB4 := Lib.hid (HB.out.trans (hb4.mono HB.out.size))
      have hpm5 := HPM.out
      clear hO4 hb4 q0 q1
      go_wp2_with (at_builtin; refine wpList_append_src _ rfl _ _ 23 rfl w2.heap.size 5 i0 (.int .u8 0) 1 Try.underlying23 hi hz0 hz1 hz2 rfl _ ys.length (ys.map byteV) rfl HO4.out A4 (putL m).length c4 ((putL m).map byteV) rfl HI4.out.2.1 (u8_one _) (by unfold maxLen; omega) (by omega) HB4.out.size ?_; intro v5 w5 hown5 hg5 hloc5; clear hloc5; have HB5 := Lib.hid (HB4.out.grown hg5 HB4.out.size (fun k e => (HO4.out.lt k e).1)); have HO5 := Lib.hid hown5; have r1 := (HV02.out.below HB5.out HV02.out.lt).cell 1; simp only [List.getElem?_toArray, List.getElem?_cons_zero, List.getElem?_cons_succ] at r1; clear hown5 hg5)
      obtain ⟨zs, hzs⟩ : ∃ zs, zs = ys ++ putL m := ⟨_, rfl⟩
      have hO5 : w5.ownsRow w2.heap.size 5 1 v5 zs.length (zs.map byteV) := by rw [hzs, List.length_append, List.map_append]; exact HO5.out
      have HO6 := Lib.hid hO5
      have hzl : zs.length ≤ 20010 := by rw [hzs, List.length_append]; omega
      have HZS := Lib.hid hzs
      clear hzs hO5
      go_loopw [5, 7] (fun v i wr => ∃ j : Nat, j ≤ m ∧ i = .int .i64 j ∧ wr.ownsRow w2.heap.size 5 1 v (zs ++ merB (V.mer.take j)).length ((zs ++ merB (V.mer.take j)).map byteV) ∧ Below w2.heap.size w2 wr) (fun _ i _ => m - (intOf i).toNat)
      case atStart => exact ⟨0, Nat.zero_le _, rfl, by simpa [merB] using HO6.out, HB5.out⟩
      case round =>
        clear HO4 HB4 r1 HO HB HO5 HO6 HB5 HI4
        obtain ⟨j, hj, rfl, hO, hB⟩ := hrel
        have HO := Lib.hid hO
        have HB := Lib.hid hB
        have hyl : (zs ++ merB (V.mer.take j)).length ≤ 40000 := by
          have h1 := merB_len (V.mer.take j) (fun x hx => HG5.out x (List.mem_of_mem_take hx))
          rw [List.length_take, HM.out] at h1
          rw [List.length_append]
          omega
        obtain ⟨us, hus⟩ : ∃ us, us = zs ++ merB (V.mer.take j) := ⟨_, rfl⟩
        rw [← hus] at HO hyl
        have HUS := Lib.hid hus
        have q1 := (HV02.out.below hB HV02.out.lt).cell 1
        simp only [List.getElem?_toArray, List.getElem?_cons_zero, List.getElem?_cons_succ] at q1
        clear hO hus
        rcases Nat.lt_or_ge j m with hlt | hge
        · have hlt' : (j : Int) < (m : Int) := by omega
          obtain ⟨mg, hmg⟩ : ∃ mg, V.mer[j]? = some mg := ⟨_, List.getElem?_eq_getElem (by rw [HM.out]; exact hlt)⟩
          obtain ⟨bd, rfl, ea, eb, et⟩ := HV2.out.mer.at_ j mg hmg
          have hbnd := HG5.out mg (List.mem_of_getElem? hmg)
          have htk := merB_take hmg
          obtain ⟨ma, mb, mt⟩ := mg
          simp only at hbnd ea eb et htk
          obtain ⟨a, rfl⟩ : ∃ a : Nat, ma = a := ⟨ma.toNat, by omega⟩
          obtain ⟨b, rfl⟩ : ∃ a : Nat, mb = a := ⟨mb.toNat, by omega⟩
          obtain ⟨t, rfl⟩ : ∃ a : Nat, mt = a := ⟨mt.toNat, by omega⟩
          simp only [Int.toNat_natCast] at htk
          have ha5 : a ≤ 512 := by omega
          have hb5' : b ≤ 512 := by omega
          have ht5 : t ≤ 512 := by omega
          have wa : ((a : Int) % 18446744073709551616) = a := by omega
          have wb : ((b : Int) % 18446744073709551616) = b := by omega
          have wt : ((t : Int) % 18446744073709551616) = t := by omega
          have HEA := Lib.hid ea
          have HEB := Lib.hid eb
          have HET := Lib.hid et
          have HTK := Lib.hid htk
          have pa := putL_len a (by omega)
          have pb := putL_len b (by omega)
          have pt := putL_len t (by omega)
          have la := below_cells hB ea
          clear hbnd htk ea eb et hB hmg
          obtain ⟨A0, c0, rfl⟩ := own_slice HO.out
          go_wp2_with fail
          refine (r3Put_any wr a (by omega)).mono ?_
          rintro e x1 ⟨v1, rfl, hO1, hb1⟩
          obtain ⟨A1, c1, rfl⟩ := own_slice hO1
          have HO1 := Lib.hid (ownsRow_block HO.out fun g hg => hb1.block g (HO.out.lt g hg).2)
          have HI1 := Lib.hid (BytesIn.own hO1 (by unfold maxLen; omega))
          have HB1 := Lib.hid (HB.out.trans (hb1.mono HB.out.size))
          clear hO1 hb1 q1 la
          go_wp2_with (at_builtin; refine wpList_append_src _ rfl _ _ 23 rfl w2.heap.size 5 i0 (.int .u8 0) 1 Try.underlying23 hi hz0 hz1 hz2 rfl _ us.length (us.map byteV) rfl HO1.out A1 (putL a).length c1 ((putL a).map byteV) rfl HI1.out.2.1 (u8_one _) (by unfold maxLen; omega) (by omega) HB1.out.size ?_; intro v1' X1 hown hg hloc; clear hloc; obtain ⟨A1z, c1z, rfl⟩ := own_slice hown; have HB1z := Lib.hid (HB1.out.grown hg HB1.out.size (fun k e => (HO1.out.lt k e).1)); have q1 := (HV02.out.below HB1z.out HV02.out.lt).cell 1; simp only [List.getElem?_toArray, List.getElem?_cons_zero, List.getElem?_cons_succ] at q1; have la := below_cells HB1z.out HEB.out; have HO1z := Lib.hid hown; clear hown hg)
          refine (r3Put_any X1 b (by omega)).mono ?_
          rintro e x2 ⟨v2, rfl, hO2, hb2⟩
          obtain ⟨A2, c2, rfl⟩ := own_slice hO2
          have HO2 := Lib.hid (ownsRow_block HO1z.out fun g hg => hb2.block g (HO1z.out.lt g hg).2)
          have HI2 := Lib.hid (BytesIn.own hO2 (by unfold maxLen; omega))
          have HB2x := Lib.hid (HB1z.out.trans (hb2.mono HB1z.out.size))
          clear hO2 hb2 q1 la
          go_wp2_with (at_builtin; refine wpList_append_src _ rfl _ _ 23 rfl w2.heap.size 5 i0 (.int .u8 0) 1 Try.underlying23 hi hz0 hz1 hz2 rfl _ (us.length + (putL a).length) (us.map byteV ++ (putL a).map byteV) rfl HO2.out A2 (putL b).length c2 ((putL b).map byteV) rfl HI2.out.2.1 (u8_one _) (by unfold maxLen; omega) (by omega) HB2x.out.size ?_; intro v2' X2 hown hg hloc; clear hloc; obtain ⟨A2z, c2z, rfl⟩ := own_slice hown; have HB2z := Lib.hid (HB2x.out.grown hg HB2x.out.size (fun k e => (HO2.out.lt k e).1)); have q1 := (HV02.out.below HB2z.out HV02.out.lt).cell 1; simp only [List.getElem?_toArray, List.getElem?_cons_zero, List.getElem?_cons_succ] at q1; have la := below_cells HB2z.out HET.out; have HO2z := Lib.hid hown; clear hown hg)
          refine (r3Put_any X2 t (by omega)).mono ?_
          rintro e x3 ⟨v3', rfl, hO3, hb3⟩
          obtain ⟨A3, c3, rfl⟩ := own_slice hO3
          have HO3 := Lib.hid (ownsRow_block HO2z.out fun g hg => hb3.block g (HO2z.out.lt g hg).2)
          have HI3 := Lib.hid (BytesIn.own hO3 (by unfold maxLen; omega))
          have HB3 := Lib.hid (HB2z.out.trans (hb3.mono HB2z.out.size))
          clear hO3 hb3 q1 la
          go_wp2_with (at_builtin; refine wpList_append_src _ rfl _ _ 23 rfl w2.heap.size 5 i0 (.int .u8 0) 1 Try.underlying23 hi hz0 hz1 hz2 rfl _ (us.length + (putL a).length + (putL b).length) (us.map byteV ++ (putL a).map byteV ++ (putL b).map byteV) rfl HO3.out A3 (putL t).length c3 ((putL t).map byteV) rfl HI3.out.2.1 (u8_one _) (by unfold maxLen; omega) (by omega) HB3.out.size ?_; intro v3'' X3 hown hg hloc; clear hloc; have HBz := Lib.hid (HB3.out.grown hg HB3.out.size (fun k e => (HO3.out.lt k e).1)); have HOz := Lib.hid hown; clear hown hg)
          go_roundw
          case rel =>
            refine ⟨j + 1, by omega, by go_num, ?_, HBz.out⟩
            have e : zs ++ merB (V.mer.take (j + 1)) = us ++ putL a ++ putL b ++ putL t := by rw [HTK.out, HUS.out]; simp [List.append_assoc]
            rw [e]
            simp only [List.length_append, List.map_append]
            exact HOz.out
          case measure => simp [intOf]; omega
        · obtain rfl : j = m := by omega
          have hjz : ¬ ((j : Int) < (j : Int)) := by omega
          have hfin : P = us := by
            rw [HPP.out, HUS.out, HZS.out, HYS2.out, List.take_of_length_le (by rw [HM.out]; exact Nat.le_refl _)]
            unfold putV
            rw [HN.out, HM.out]
            simp [List.append_assoc]
          subst hfin
          clear hB
          go_wp2
          go_ret2
          exact ⟨_, rfl, Go.Joins.ownsRow_le HO.out HB2.out.size, below_then HB2.out HB.out HB2.out.size⟩
end Go.Proofs.Ytecpihghlelefaa
