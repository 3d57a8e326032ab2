/- The program's Put, whole. -/
import Derived.Test.YtecpihghlelefaaVPMath
import Derived.Test.YtecpihghlelefaaVHead
import Derived.Test.YtecpihghlelefaaLProg1
import Derived.Test.YtecpihghlelefaaVRows2
namespace Go.Proofs.Ytecpihghlelefaa
open Go.RowKit Go.Maps Go.WideMaps
set_option linter.unusedSimpArgs false

set_option maxHeartbeats 4000000 in
set_option maxRecDepth 100000 in
theorem addInt_any (w : World) (base : Nat) (v : Value) (ys : Nm) (hb : base ≤ w.heap.size) (hown : w.ownsRow base 5 1 v ys.length (ys.map byteV)) (n : Nat) (hn : n ≤ 1048576) (hy : ys.length ≤ 1099511627776) :
    Calls Try.prog 25 #[v, .int .i64 n] w fun e w' => ∃ v', e = .returned v' ∧ w'.ownsRow base 5 1 v' (ys ++ putL n).length ((ys ++ putL n).map byteV) ∧ Below base w w' ∧ ∀ g, g < w.heap.size → v.ownBlock ≠ some g → w'.heap[g]? = w.heap[g]? := by
  obtain ⟨i0, hi, hz0, hz1, hz2⟩ := info_parts byteInfo
  have HO := Lib.hid hown
  have hw1 : ((n : Int) % 18446744073709551616) = n := by omega
  have hpl := putL_len n (by omega)
  clear hown
  go_enter Try.func25, Try.ntmps25
  go_wp2_with fail
  refine (lPut_any w n (by omega)).mono ?_
  rintro e w1 ⟨v1, rfl, hO, hB⟩
  obtain ⟨A1, c1, rfl⟩ := own_slice hO
  have h1 := ownsRow_block HO.out (w' := w1) fun g hg => hB.block g (HO.out.lt g hg).2
  have H1 := Lib.hid h1
  have I1 := Lib.hid (BytesIn.own hO (by unfold maxLen; omega))
  have HK := Lib.hid hB.block
  have HB := Lib.hid (hB.mono hb)
  have hsz := hB.size
  clear hO hB h1
  go_wp2_with (at_builtin; refine wpList_append_src _ rfl _ _ 23 rfl base 5 i0 (.int .u8 0) 1 Try.underlying23 hi hz0 hz1 hz2 rfl v ys.length (ys.map byteV) rfl H1.out A1 (putL n).length c1 ((putL n).map byteV) rfl I1.out.2.1 (u8_one _) (by unfold maxLen; omega) (by omega) (by omega) ?_; intro v2 w2 hown2 hg2 hloc2)
  have HB2 := Lib.hid (HB.out.grown hg2 (by omega) (fun k e => (H1.out.lt k e).1))
  have HO2 := Lib.hid hown2
  have HK2 := Lib.hid hg2.block
  clear hown2 hg2 hloc2
  go_ret
  exact ⟨_, rfl, by rw [List.length_append, List.map_append]; exact HO2.out, HB2.out, fun g hg hne => (HK2.out g (by omega) (fun e => hne e.symm)).trans (HK.out g hg)⟩

theorem tokB_len : ∀ L : List Nm, (∀ x ∈ L, x.length ≤ 16) → (tokB L).length ≤ 26 * L.length
  | [], _ => by simp [tokB]
  | x :: r, h => by
    have h1 := tokB_len r (fun y hy => h y (List.mem_cons_of_mem _ hy))
    have h2 := h x (List.mem_cons_self ..)
    have h3 := putL_len x.length (by omega)
    have e : tokB (x :: r) = putL x.length ++ x ++ tokB r := by simp [tokB]
    rw [e, List.length_append, List.length_append, List.length_cons]
    omega
theorem merB_len : ∀ M : List Mg, (∀ m ∈ M, (0 ≤ m.a ∧ m.a ≤ 512) ∧ (0 ≤ m.b ∧ m.b ≤ 512) ∧ (0 ≤ m.t ∧ m.t ≤ 512)) → (merB M).length ≤ 30 * M.length
  | [], _ => by simp [merB]
  | m :: r, h => by
    have h1 := merB_len r (fun y hy => h y (List.mem_cons_of_mem _ hy))
    have h2 := h m (List.mem_cons_self ..)
    have a1 := putL_len m.a.toNat (by omega)
    have a2 := putL_len m.b.toNat (by omega)
    have a3 := putL_len m.t.toNat (by omega)
    have e : merB (m :: r) = putL m.a.toNat ++ (putL m.b.toNat ++ putL m.t.toNat) ++ merB r := by simp [merB]
    rw [e, List.length_append, List.length_append, List.length_append, List.length_cons]
    omega
theorem tokB_take {L : List Nm} {k : Nat} {x : Nm} (h : L[k]? = some x) : tokB (L.take (k + 1)) = tokB (L.take k) ++ (putL x.length ++ x) := by
  rw [take_snoc h]; simp [tokB]
theorem merB_take {M : List Mg} {k : Nat} {m : Mg} (h : M[k]? = some m) : merB (M.take (k + 1)) = merB (M.take k) ++ (putL m.a.toNat ++ (putL m.b.toNat ++ putL m.t.toNat)) := by
  rw [take_snoc h]; simp [merB]
/-- What Put leaves: the bytes, or none. -/
def resP (V : Voc) : Nm := if checkV V = 0 then putV V else []
def PutOut (w : World) (V : Voc) (e : Ending) (w' : World) : Prop :=
  ∃ v, e = .returned (.tuple #[v, .int .i64 (checkV V)]) ∧ w'.ownsRow w.heap.size 5 1 v (resP V).length ((resP V).map byteV) ∧ Below w.heap.size w w'

set_option maxHeartbeats 8000000 in
set_option maxRecDepth 100000 in
theorem vPut_any (w : World) (A B : Option Addr) (n m ca cb : Nat) (V : Voc) (hV : VocSee w A B n m ca cb V) :
    Calls Try.prog 14 #[vocV A B n m ca cb] w (PutOut w V) := by
  obtain ⟨i0, hi, hz0, hz1, hz2⟩ := info_parts byteInfo
  unfold PutOut
  obtain ⟨E, hE⟩ : ∃ E, E = checkV V := ⟨_, rfl⟩
  obtain ⟨P, hP⟩ : ∃ P, P = resP V := ⟨_, rfl⟩
  rw [← hE, ← hP]
  have HE := Lib.hid hE
  have HP := Lib.hid hP
  have HN := Lib.hid hV.tok.len
  have HM := Lib.hid hV.mer.len
  have b1 := (Below.refl w.heap.size w).alloc (Nat.le_refl _) (.cells #[.slice A n ca, .slice B m cb] 33)
  obtain ⟨W1, hW1⟩ : ∃ z, z = w.alloc (.cells #[.slice A n ca, .slice B m cb] 33) := ⟨_, rfl⟩
  have hv0 : Blk W1 w.heap.size 33 #[.slice A n ca, .slice B m cb] := by rw [hW1]; exact Blk.new _ _ _
  rw [← hW1] at b1
  have HV0 := Lib.hid hv0
  have HB1 := Lib.hid b1
  have HV := Lib.hid (hV.below b1)
  have HW1 := Lib.hid hW1
  have y0 := hv0.cell 0
  have y1 := hv0.cell 1
  simp only [List.getElem?_toArray, List.getElem?_cons_zero, List.getElem?_cons_succ] at y0 y1
  clear hV hE hP b1 hW1 hv0
  unfold vocV
  go_enter Try.func14, Try.ntmps14
  go_wp2_with fail
  rw [← HW1.out]
  go_wp2_with fail
  refine (vCheck_is W1 A B n m ca cb V HV.out HE.out.symm).mono ?_
  rintro e w2 ⟨rfl, hb⟩
  have HB2 := Lib.hid (below_then HB1.out hb HB1.out.size)
  have HV2 := Lib.hid (HV.out.below hb)
  have hv2 := HV0.out.below hb HV0.out.lt
  have HV02 := Lib.hid hv2
  have x0 := hv2.cell 0
  have x1 := hv2.cell 1
  simp only [List.getElem?_toArray, List.getElem?_cons_zero, List.getElem?_cons_succ] at x0 x1
  clear hb y0 y1 hv2
  by_cases hbad : E ≠ 0
  · have d1 : (E != 0) = true := by simpa using hbad
    have hp : P = [] := by rw [HP.out]; unfold resP; rw [if_neg (by rw [← HE.out]; exact hbad)]
    subst hp
    clear hbad
    go_wp2
    go_ret2
    exact ⟨.slice none 0 0, rfl, World.ownsRow_nil _ _ _ _, HB2.out⟩
  have hE0 : E = 0 := by simpa using hbad
  subst hE0
  obtain ⟨hn5, hm5, hx5, hg5⟩ := check_bounds HE.out.symm
  rw [HN.out] at hn5
  rw [HM.out] at hm5
  have hp : P = putV V := by rw [HP.out]; unfold resP; rw [if_pos HE.out.symm]
  have HPP := Lib.hid hp
  have HX5 := Lib.hid hx5
  have HG5 := Lib.hid hg5
  have hpn := putL_len n (by omega)
  have hpm := putL_len m (by omega)
  have HPM := Lib.hid hpm
  clear hbad hp hx5 hg5 hpm
  go_wp2_with fail
  refine (addInt_any w2 w2.heap.size (.slice none 0 0) [] (Nat.le_refl _) (World.ownsRow_nil _ _ _ _) n (by omega) (by simp)).mono ?_
  rintro e w3 ⟨v3, rfl, hO, hb, -⟩
  rw [List.nil_append] at hO
  have HB3 := Lib.hid hb
  have HO3 := Lib.hid hO
  have x0' := (HV02.out.below hb HV02.out.lt).cell 0
  simp only [List.getElem?_toArray, List.getElem?_cons_zero] at x0'
  clear hO hb x0 x1
  go_wp2_with fail
  go_loopw [5, 22] (fun v i wr => ∃ k : Nat, k ≤ n ∧ i = .int .i64 k ∧ wr.ownsRow w2.heap.size 5 1 v (putL n ++ tokB (V.tok.take k)).length ((putL n ++ tokB (V.tok.take k)).map byteV) ∧ Below w2.heap.size w2 wr) (fun _ i _ => n - (intOf i).toNat)
  case atStart => exact ⟨0, Nat.zero_le _, rfl, by simpa [tokB] using HO3.out, HB3.out⟩
  case round =>
    clear HO3 HB3 x0'
    obtain ⟨k, hk, rfl, hO, hB⟩ := hrel
    have HO := Lib.hid hO
    have HB := Lib.hid hB
    have hyl : (putL n ++ tokB (V.tok.take k)).length ≤ 20000 := by
      have h1 := tokB_len (V.tok.take k) (fun x hx => HX5.out x (List.mem_of_mem_take hx))
      rw [List.length_take, HN.out] at h1
      rw [List.length_append]
      omega
    obtain ⟨ys, hys⟩ : ∃ ys, ys = putL n ++ tokB (V.tok.take k) := ⟨_, rfl⟩
    rw [← hys] at HO hyl
    have HYS := Lib.hid hys
    clear hO hys
    rcases Nat.lt_or_ge k n with hlt | hge
    · have hlt' : (k : Int) < (n : Int) := by omega
      obtain ⟨x, hx⟩ : ∃ x, V.tok[k]? = some x := ⟨_, List.getElem?_eq_getElem (by rw [HN.out]; exact hlt)⟩
      obtain ⟨ad, C, c, rfl, ec, hc, hA⟩ := HV2.out.tok.at_ k x hx
      have ec' := below_cells hB ec
      have hx16 := HX5.out x (List.mem_of_getElem? hx)
      have HTK := Lib.hid (tokB_take hx)
      have HA := Lib.hid hA
      have hpx := putL_len x.length (by omega)
      clear hx ec hA hB hc
      go_wp2_with fail
      refine (addInt_any wr w2.heap.size _ ys HB.out.size HO.out x.length (by omega) (by omega)).mono ?_
      rintro e w4 ⟨v4, rfl, hO4, hb4, -⟩
      obtain ⟨zs, hzs⟩ : ∃ zs, zs = ys ++ putL x.length := ⟨_, rfl⟩
      rw [← hzs] at hO4
      have hzl : zs.length ≤ 20010 := by rw [hzs, List.length_append]; omega
      obtain ⟨A4, c4, rfl⟩ := own_slice hO4
      have HO4 := Lib.hid hO4
      have HB4 := Lib.hid (HB.out.trans hb4)
      have HA4 := Lib.hid (HA.out.below HB4.out)
      have HZS := Lib.hid hzs
      clear hO4 hb4 hzs ec'
      go_wp2_with (at_builtin; refine wpList_append_src _ rfl _ _ 23 rfl w2.heap.size 5 i0 (.int .u8 0) 1 Try.underlying23 hi hz0 hz1 hz2 rfl _ zs.length (zs.map byteV) rfl HO4.out C x.length c (x.map byteV) rfl HA4.out.2.1 (u8_one _) (by unfold maxLen; omega) (by omega) HB4.out.size ?_; intro v5 w5 hown5 hg5 hloc5; have HB5 := Lib.hid (HB4.out.grown hg5 HB4.out.size (fun k e => (HO4.out.lt k e).1)); have HO5 := Lib.hid hown5; clear hown5 hg5 hloc5)
      go_roundw
      case rel =>
        refine ⟨k + 1, by omega, by go_num, ?_, HB5.out⟩
        have e : putL n ++ tokB (V.tok.take (k + 1)) = zs ++ x := by rw [HTK.out, HZS.out, HYS.out]; simp [List.append_assoc]
        rw [e, List.length_append, List.map_append]
        exact HO5.out
      case measure => simp [intOf]; omega
    · obtain rfl : k = n := by omega
      have hkz : ¬ ((k : Int) < (k : Int)) := by omega
      have hys2 : ys = putL k ++ tokB V.tok := by rw [HYS.out, List.take_of_length_le (by rw [HN.out]; exact Nat.le_refl _)]
      have HYS2 := Lib.hid hys2
      have hb' := HV02.out.below hB HV02.out.lt
      have x1 := hb'.cell 1
      simp only [List.getElem?_toArray, List.getElem?_cons_zero, List.getElem?_cons_succ] at x1
      clear hys2 hB hb'
      go_wp2_with fail
      refine (addInt_any wr w2.heap.size _ ys HB.out.size HO.out m (by omega) (by omega)).mono ?_
      rintro e w4 ⟨v4, rfl, hO4, hb4, -⟩
      obtain ⟨zs, hzs⟩ : ∃ zs, zs = ys ++ putL m := ⟨_, rfl⟩
      rw [← hzs] at hO4
      have hzl : zs.length ≤ 20010 := by rw [hzs, List.length_append]; have := HPM.out; omega
      have HO4 := Lib.hid hO4
      have HB4 := Lib.hid (HB.out.trans hb4)
      have HZS := Lib.hid hzs
      have hb' := HV02.out.below HB4.out HV02.out.lt
      have x1' := hb'.cell 1
      simp only [List.getElem?_toArray, List.getElem?_cons_zero, List.getElem?_cons_succ] at x1'
      clear hO4 hb4 hzs hb' x1
      go_wp2_with fail
      go_loopw [5, 42] (fun v i wr => ∃ j : Nat, j ≤ m ∧ i = .int .i64 j ∧ wr.ownsRow w2.heap.size 5 1 v (zs ++ merB (V.mer.take j)).length ((zs ++ merB (V.mer.take j)).map byteV) ∧ Below w2.heap.size w2 wr) (fun _ i _ => m - (intOf i).toNat)
      case atStart => exact ⟨0, Nat.zero_le _, rfl, by simpa [merB] using HO4.out, HB4.out⟩
      case round =>
        clear HO4 HB4 x1' HO HB
        obtain ⟨j, hj, rfl, hO, hB⟩ := hrel
        have HO := Lib.hid hO
        have HB := Lib.hid hB
        have hyl : (zs ++ merB (V.mer.take j)).length ≤ 40000 := by
          have h1 := merB_len (V.mer.take j) (fun x hx => HG5.out x (List.mem_of_mem_take hx))
          rw [List.length_take, HM.out] at h1
          rw [List.length_append]
          omega
        obtain ⟨us, hus⟩ : ∃ us, us = zs ++ merB (V.mer.take j) := ⟨_, rfl⟩
        rw [← hus] at HO hyl
        have HUS := Lib.hid hus
        clear hO hus
        rcases Nat.lt_or_ge j m with hlt | hge
        · have hlt' : (j : Int) < (m : Int) := by omega
          obtain ⟨mg, hmg⟩ : ∃ mg, V.mer[j]? = some mg := ⟨_, List.getElem?_eq_getElem (by rw [HM.out]; exact hlt)⟩
          obtain ⟨bd, rfl, ea, eb, et⟩ := HV2.out.mer.at_ j mg hmg
          have hbnd := HG5.out mg (List.mem_of_getElem? hmg)
          have htk := merB_take hmg
          obtain ⟨ma, mb, mt⟩ := mg
          simp only at hbnd ea eb et htk
          obtain ⟨a, rfl⟩ : ∃ a : Nat, ma = a := ⟨ma.toNat, by omega⟩
          obtain ⟨b, rfl⟩ : ∃ a : Nat, mb = a := ⟨mb.toNat, by omega⟩
          obtain ⟨t, rfl⟩ : ∃ a : Nat, mt = a := ⟨mt.toNat, by omega⟩
          simp only [Int.toNat_natCast] at htk
          have ha5 : a ≤ 512 := by omega
          have hb5' : b ≤ 512 := by omega
          have ht5 : t ≤ 512 := by omega
          have ea' := below_cells hB ea
          have eb' := below_cells hB eb
          have et' := below_cells hB et
          have HTK := Lib.hid htk
          have b6 := HB.out.alloc HB.out.size (.cells #[.int .i64 a, .int .i64 b, .int .i64 t] 25)
          obtain ⟨W6, hW6⟩ : ∃ z, z = wr.alloc (.cells #[.int .i64 a, .int .i64 b, .int .i64 t] 25) := ⟨_, rfl⟩
          have hn6 : Blk W6 wr.heap.size 25 #[.int .i64 a, .int .i64 b, .int .i64 t] := by rw [hW6]; exact Blk.new _ _ _
          have hO6 := HO.out.alloc (.cells #[.int .i64 a, .int .i64 b, .int .i64 t] 25)
          rw [← hW6] at b6 hO6
          have HN6 := Lib.hid hn6
          have HW6 := Lib.hid hW6
          have HB6 := Lib.hid b6
          have HO6 := Lib.hid hO6
          have pa := putL_len a (by omega)
          have pb := putL_len b (by omega)
          have pt := putL_len t (by omega)
          have w6lt : wr.heap.size < W6.heap.size := hn6.lt
          clear hbnd htk ea eb et hB hW6 b6 hn6 hO6 hmg
          go_wp2_with fail
          rw [← HW6.out]
          have z1 := HN6.out.cell 1
          simp only [List.getElem?_toArray, List.getElem?_cons_zero, List.getElem?_cons_succ] at z1
          refine (addInt_any W6 w2.heap.size _ us HB6.out.size HO6.out a (by omega) (by omega)).mono ?_
          rintro e w7 ⟨v7, rfl, hO7, hb7, hk7⟩
          have hn7 := HN6.out.same (hk7 _ HN6.out.lt (own_blk_ne HO6.out HN6.out (by decide)))
          have HN7 := Lib.hid hn7
          have HB7 := Lib.hid (HB6.out.trans hb7)
          have z1' := hn7.cell 1
          simp only [List.getElem?_toArray, List.getElem?_cons_zero, List.getElem?_cons_succ] at z1'
          obtain ⟨us7, hus7⟩ : ∃ zs, zs = us ++ putL a := ⟨_, rfl⟩
          rw [← hus7] at hO7
          have hl7 : us7.length ≤ 40010 := by rw [hus7, List.length_append]; omega
          have HUS7 := Lib.hid hus7
          have HO7 := Lib.hid hO7
          clear hO7 hb7 hk7 hn7 hus7 z1
          go_wp2_with fail
          refine (addInt_any w7 w2.heap.size _ us7 HB7.out.size HO7.out b (by omega) (by omega)).mono ?_
          rintro e w8 ⟨v8, rfl, hO8, hb8, hk8⟩
          have hn8 := HN7.out.same (hk8 _ HN7.out.lt (own_blk_ne HO7.out HN7.out (by decide)))
          have HB8 := Lib.hid (HB7.out.trans hb8)
          have z2' := hn8.cell 2
          simp only [List.getElem?_toArray, List.getElem?_cons_zero, List.getElem?_cons_succ] at z2'
          obtain ⟨us8, hus8⟩ : ∃ zs, zs = us7 ++ putL b := ⟨_, rfl⟩
          rw [← hus8] at hO8
          have hl8 : us8.length ≤ 40020 := by rw [hus8, List.length_append]; omega
          have HUS8 := Lib.hid hus8
          have HO8 := Lib.hid hO8
          clear hO8 hb8 hk8 hn8 hus8 z1'
          go_wp2_with fail
          refine (addInt_any w8 w2.heap.size _ us8 HB8.out.size HO8.out t (by omega) (by omega)).mono ?_
          rintro e w9 ⟨v9, rfl, hO9, hb9, -⟩
          have HB9 := Lib.hid (HB8.out.trans hb9)
          have HO9 := Lib.hid hO9
          clear hO9 hb9 z2'
          go_wp2
          go_roundw
          case rel =>
            refine ⟨j + 1, by omega, by go_num, ?_, HB9.out⟩
            have e : zs ++ merB (V.mer.take (j + 1)) = us8 ++ putL t := by rw [HTK.out, HUS8.out, HUS7.out, HUS.out]; simp [List.append_assoc]
            rw [e]
            exact HO9.out
          case measure => simp [intOf]; omega
        · obtain rfl : j = m := by omega
          have hjz : ¬ ((j : Int) < (j : Int)) := by omega
          have hfin : P = us := by
            rw [HPP.out, HUS.out, HZS.out, HYS2.out, List.take_of_length_le (by rw [HM.out]; exact Nat.le_refl _)]
            unfold putV
            rw [HN.out, HM.out]
            simp [List.append_assoc]
          subst hfin
          clear hB
          go_wp2
          go_ret2
          exact ⟨_, rfl, Go.Joins.ownsRow_le HO.out HB2.out.size, below_then HB2.out HB.out HB2.out.size⟩
end Go.Proofs.Ytecpihghlelefaa
