/- ManifestBack: a right manifest's bytes are read as it was; what is read of any bytes has them as they stood. (Printed by mk/mqback.py.) -/
import Derived.Test.YtmhiekbpmoikfaaGreatDoorZp13
import Derived.Test.YtmhiekbpmoikfaaGreatDoorZp1
namespace Go.Proofs.YtmhiekbpmoikfaaGreatDoor
open Go.RowKit Go.Maps Go.WideMaps
set_option linter.unusedSimpArgs false

theorem mOk_few {m : Mf} (h : mOk m) : m.refs.length ≤ 24 := by have := h.1; unfold mTop at this; omega
set_option maxHeartbeats 16000000 in
set_option maxRecDepth 100000 in
theorem manifestBack_any (W : World) (HP : Pow10 W) (m : Mf) (A : Option Addr) (n c : Nat) (hr : RefsIn W A n m.refs) (B : Option Addr) (k d : Nat) (l : Nm) (hb : BytesIn W B k l) (hd : k ≤ d) :
    Calls Tryz.prog 4 #[.agg #[.int .i64 m.gen, .int .i64 m.next, .slice A n c], .slice B k d] W fun e w' => e = .returned (.bool true) ∧ Below W.heap.size W w' := by
  have HPW := Lib.hid HP
  have HR := Lib.hid hr
  have HB := Lib.hid hb
  have hln : l.length = k := by have := hb.2.1.len; simpa using this
  have HLN := Lib.hid hln
  have hnm := hr.fit
  unfold maxLen at hnm
  obtain ⟨w1, hw1⟩ : ∃ w1, w1 = W.alloc (.cells #[.int .i64 m.gen, .int .i64 m.next, .slice A n c] 24) := ⟨_, rfl⟩
  obtain ⟨bm, hbm⟩ : ∃ b, b = W.heap.size := ⟨_, rfl⟩
  have hb1 : Below W.heap.size W w1 := by rw [hw1]; exact (Below.refl _ W).alloc (Nat.le_refl _) _
  have hk1 : Blk w1 bm 24 #[.int .i64 m.gen, .int .i64 m.next, .slice A n c] := by rw [hw1, hbm]; exact Blk.new _ _ _
  have HB1 := Lib.hid hb1
  have HALL : Hid (∀ u : World, Below w1.heap.size w1 u → u.cell? ⟨bm, 0, none⟩ = some (.int .i64 m.gen) ∧ u.cell? ⟨bm, 1, none⟩ = some (.int .i64 m.next) ∧ u.cell? ⟨bm, 2, none⟩ = some (.slice A n c) ∧ RefsIn u A n m.refs ∧ BytesIn u B k l ∧ Pow10 u ∧ Below W.heap.size W u) := Lib.hid (fun u hu => by
    have h1 := hk1.below hu hk1.lt
    have h2 := below_then hb1 hu hb1.size
    exact ⟨h1.cell 0, h1.cell 1, h1.cell 2, hr.below h2, hb.below h2, HP.later h2 (Nat.le_refl _), h2⟩)
  have HW1 := Lib.hid hw1
  have HBM := Lib.hid hbm
  clear hw1 hbm hb1 hk1 hr hb HP hln
  go_enter Tryz.func4, Tryz.ntmps4
  go_upto_region 1 with fail
  rw [← HW1.out, ← HBM.out]
  go_wp2_with fail
  refine (mqHead_any w1 (HPW.out.later HB1.out (Nat.le_refl _))).mono ?_
  rintro e w2 ⟨rfl, hb2⟩
  have HB2 := Lib.hid hb2
  obtain ⟨k0, k1, k2, hr2, -, -, hbw2⟩ := HALL.out w2 hb2
  have HBW2 := Lib.hid hbw2
  have HPUT := Lib.hid (pPut_any w2 m A n c hr2)
  clear hb2 hr2 hbw2
  by_cases hn : n ≤ 200
  case neg =>
    have hn' : (200 : Int) < (n : Int) := by omega
    clear hn
    go_wp2
    go_ret
    exact ⟨rfl, HBW2.out⟩
  have hn' : ¬ (200 : Int) < (n : Int) := by omega
  by_cases hk : k ≤ 20000
  case neg =>
    have hk' : (20000 : Int) < (k : Int) := by omega
    clear hk hn
    go_wp2
    go_ret
    exact ⟨rfl, HBW2.out⟩
  have hk' : ¬ (20000 : Int) < (k : Int) := by omega
  have HKK := Lib.hid hk
  clear hn hk
  go_wp2_with fail
  refine HPUT.out.mono ?_
  rintro e w3 ⟨hb3, hyes, hno⟩
  have HB3 := Lib.hid (below_then HB2.out hb3 HB2.out.size)
  have hs23 := hb3.size
  obtain ⟨k0, k1, k2, hr3, -, -, -⟩ := HALL.out w3 HB3.out
  have HCK := Lib.hid (pCheck_any w3 m A n c hr3)
  clear hb3 hr3 HPUT
  by_cases hm : mOk m
  case neg =>
    obtain rfl := hno hm
    have HM1 : Hid (mErr m = 1) := Lib.hid (mErr_one hm)
    rw [HM1.out] at HCK
    clear hm hyes hno
    go_wp2_with fail
    refine HCK.out.mono ?_
    rintro e w4 ⟨rfl, hb4⟩
    have HB4 := Lib.hid (below_then HB3.out hb4 HB3.out.size)
    have hs4 := hb4.size
    clear hb4 HCK k0 k1 k2
    obtain ⟨-, -, -, -, hby, -, -⟩ := HALL.out w4 HB4.out
    have HGB := Lib.hid (pGet_any w4 B k d l hby hd (by have := HKK.out; omega))
    clear hby
    go_wp2_with fail
    refine HGB.out.mono ?_
    rintro e w6 ⟨hb6, hg6⟩
    have HB6 := Lib.hid (below_then HB4.out hb6 HB4.out.size)
    have hs6 := hb6.size
    clear hb6 HGB
    cases hgl : mGetB l with
    | none =>
      rw [hgl] at hg6
      subst hg6
      obtain ⟨bz, hbz⟩ : ∃ z, z = w6.heap.size := ⟨_, rfl⟩
      obtain ⟨w7, hw7⟩ : ∃ z, z = w6.alloc (.cells #[.int .i64 0, .int .i64 0, .slice none 0 0] 24) := ⟨_, rfl⟩
      have hb7 : Below w6.heap.size w6 w7 := by rw [hw7]; exact (Below.refl _ w6).alloc (Nat.le_refl _) _
      have hk7 : Blk w7 bz 24 #[.int .i64 0, .int .i64 0, .slice none 0 0] := by rw [hw7, hbz]; exact Blk.new _ _ _
      have hsm := r15Same_any w7 ⟨0, 0, []⟩ ⟨0, 0, []⟩ none 0 0 (RefsIn.none_ w7) none 0 0 (RefsIn.none_ w7)
      rw [decide_eq_true rfl] at hsm
      have HSM : Hid (Calls Tryz.prog 18 #[.agg #[.int .i64 0, .int .i64 0, .slice none 0 0], .agg #[.int .i64 0, .int .i64 0, .slice none 0 0]] w7 fun e w' => e = .returned (.bool true) ∧ Below w7.heap.size w7 w') := Lib.hid hsm
      have z0 := hk7.cell 0
      have z1 := hk7.cell 1
      have z2 := hk7.cell 2
      simp only [List.getElem?_toArray, List.getElem?_cons_zero, List.getElem?_cons_succ] at z0 z1 z2
      have HB7 := Lib.hid (below_then HB6.out hb7 HB6.out.size)
      have HW7 := Lib.hid hw7
      have HBZ := Lib.hid hbz
      clear hgl hw7 hbz hb7 hk7 hsm
      go_upto_region 12 with fail
      rw [← HW7.out, ← HBZ.out]
      go_wp2_with fail
      refine HSM.out.mono ?_
      rintro e w8 ⟨rfl, hb8⟩
      obtain ⟨-, -, -, -, -, -, hbf⟩ := HALL.out w8 (below_then HB7.out hb8 HB7.out.size)
      have HBF := Lib.hid hbf
      clear hb8 hbf z0 z1 z2
      go_wp2
      go_ret
      exact ⟨rfl, HBF.out⟩
    | some u =>
      rw [hgl] at hg6
      obtain ⟨v6, rfl, ho6⟩ := hg6
      obtain ⟨A6, c6, hv6⟩ := own_slice ho6
      subst hv6
      obtain ⟨hou, hpu⟩ := mGet_back hgl
      have HPU := Lib.hid hpu
      have HOU := Lib.hid hou
      obtain ⟨un, hun⟩ : ∃ z, z = u.refs.length := ⟨_, rfl⟩
      rw [← hun] at ho6 ⊢
      obtain ⟨bz, hbz⟩ : ∃ z, z = w6.heap.size := ⟨_, rfl⟩
      obtain ⟨w7, hw7⟩ : ∃ z, z = w6.alloc (.cells #[.int .i64 u.gen, .int .i64 u.next, .slice A6 un c6] 24) := ⟨_, rfl⟩
      have hb7 : Below w6.heap.size w6 w7 := by rw [hw7]; exact (Below.refl _ w6).alloc (Nat.le_refl _) _
      have hk7 : Blk w7 bz 24 #[.int .i64 u.gen, .int .i64 u.next, .slice A6 un c6] := by rw [hw7, hbz]; exact Blk.new _ _ _
      have hru : RefsIn w7 A6 un u.refs := RefsIn.own (ownsRow_block ho6 fun g hg => hb7.block g (ho6.lt g hg).2) hun.symm (by have := mOk_few hou; unfold maxLen; omega) (refs_bound_ok hou)
      have HPT := Lib.hid (pPut_any w7 u A6 un c6 hru)
      have z0 := hk7.cell 0
      have z1 := hk7.cell 1
      have z2 := hk7.cell 2
      simp only [List.getElem?_toArray, List.getElem?_cons_zero, List.getElem?_cons_succ] at z0 z1 z2
      have HB7 := Lib.hid (below_then HB6.out hb7 HB6.out.size)
      have HW7 := Lib.hid hw7
      have HBZ := Lib.hid hbz
      clear hgl ho6 hou hpu hun hbz hw7 hb7 hk7 hru
      go_upto_region 12 with fail
      rw [← HW7.out, ← HBZ.out]
      go_wp2_with fail
      refine HPT.out.mono ?_
      rintro e w8 ⟨hb8, hy8, -⟩
      obtain ⟨A8, c8, rfl, ho8⟩ := hy8 HOU.out
      rw [HPU.out, HLN.out] at ho8
      rw [HPU.out, HLN.out]
      have hB8 := below_then HB7.out hb8 HB7.out.size
      obtain ⟨-, -, -, -, hby8, -, hbf⟩ := HALL.out w8 hB8
      have hb88 := BytesIn.own ho8 (by have := HKK.out; unfold maxLen; omega)
      have s1 := str_of hb88 c8
      have s2 := str_of hby8 d
      have HBF := Lib.hid hbf
      clear hb8 hy8 ho8 hB8 hby8 hbf hb88 z0 z1 z2 HPT
      go_wp2
      go_ret
      exact ⟨rfl, HBF.out⟩
  obtain ⟨A3, c3, rfl, ho3⟩ := hyes hm
  have HM0 : Hid (mErr m = 0) := Lib.hid (mErr_zero hm)
  rw [HM0.out] at HCK
  have HMO := Lib.hid hm
  obtain ⟨Q, hQ⟩ : ∃ Q, Q = mPutB m := ⟨_, rfl⟩
  have hgq : mGetB Q = some m := by rw [hQ]; exact mGet_put hm
  have hql : Q.length ≤ 1004 := by rw [hQ]; exact (mErr_put HM0.out).1
  rw [← hQ] at ho3 ⊢
  obtain ⟨qn, hqn⟩ : ∃ qn, qn = Q.length := ⟨_, rfl⟩
  rw [← hqn] at ho3 hql ⊢
  have hbq := BytesIn.own ho3 (by unfold maxLen; omega)
  have hcq := own_capM ho3
  have HBQ := Lib.hid hbq
  have HGQ := Lib.hid hgq
  clear hm hyes hno hQ hgq hqn ho3 hbq
  go_wp2_with fail
  refine HCK.out.mono ?_
  rintro e w4 ⟨rfl, hb4⟩
  have HB4 := Lib.hid (below_then HB3.out hb4 HB3.out.size)
  have hs4 := hb4.size
  have hgc := pGet_any w4 A3 qn c3 Q (HBQ.out.below hb4) hcq (by omega)
  have HGC := Lib.hid hgc
  clear hb4 hgc HCK k0 k1 k2
  go_wp2_with fail
  refine HGC.out.mono ?_
  rintro e w5 ⟨hb5, hg5⟩
  rw [HGQ.out] at hg5
  obtain ⟨v5, rfl, ho5⟩ := hg5
  obtain ⟨A5, c5, hv5⟩ := own_slice ho5
  subst hv5
  obtain ⟨yn, hyn⟩ : ∃ z, z = m.refs.length := ⟨_, rfl⟩
  rw [← hyn] at ho5 ⊢
  obtain ⟨by5, hby5⟩ : ∃ z, z = w5.heap.size := ⟨_, rfl⟩
  obtain ⟨w5a, hw5a⟩ : ∃ z, z = w5.alloc (.cells #[.int .i64 m.gen, .int .i64 m.next, .slice A5 yn c5] 24) := ⟨_, rfl⟩
  have hb5a : Below w5.heap.size w5 w5a := by rw [hw5a]; exact (Below.refl _ w5).alloc (Nat.le_refl _) _
  have hk5 : Blk w5a by5 24 #[.int .i64 m.gen, .int .i64 m.next, .slice A5 yn c5] := by rw [hw5a, hby5]; exact Blk.new _ _ _
  have hry : RefsIn w5a A5 yn m.refs := RefsIn.own (ownsRow_block ho5 fun g hg => hb5a.block g (ho5.lt g hg).2) hyn.symm (by have := mOk_few HMO.out; unfold maxLen; omega) (refs_bound_ok HMO.out)
  have hB5 := below_then (below_then HB4.out hb5 HB4.out.size) hb5a (below_then HB4.out hb5 HB4.out.size).size
  obtain ⟨k0, k1, k2, hrm, -, -, -⟩ := HALL.out w5a hB5
  have hsm := r15Same_any w5a m m A5 yn c5 hry A n c hrm
  rw [decide_eq_true rfl] at hsm
  have HSM := Lib.hid hsm
  have HB5 := Lib.hid hB5
  have z0 := hk5.cell 0
  have z1 := hk5.cell 1
  have z2 := hk5.cell 2
  simp only [List.getElem?_toArray, List.getElem?_cons_zero, List.getElem?_cons_succ] at z0 z1 z2
  have HW5 := Lib.hid hw5a
  have HBY := Lib.hid hby5
  clear ho5 hyn hby5 hw5a hb5a hk5 hry hB5 hrm hsm hb5 HGC
  go_upto_region 9 with fail
  rw [← HW5.out, ← HBY.out]
  go_wp2_with fail
  refine HSM.out.mono ?_
  rintro e w5b ⟨rfl, hb5b⟩
  have HB5b := Lib.hid (below_then HB5.out hb5b HB5.out.size)
  have hs5b := hb5b.size
  clear hb5b z0 z1 z2 k0 k1 k2 HSM
  obtain ⟨-, -, -, -, hby, -, -⟩ := HALL.out w5b HB5b.out
  have HGB := Lib.hid (pGet_any w5b B k d l hby hd (by have := HKK.out; omega))
  clear hby
  go_wp2_with fail
  refine HGB.out.mono ?_
  rintro e w6 ⟨hb6, hg6⟩
  have HB6 := Lib.hid (below_then HB5b.out hb6 HB5b.out.size)
  have hs6 := hb6.size
  clear hb6 HGB
  cases hgl : mGetB l with
  | none =>
    rw [hgl] at hg6
    subst hg6
    obtain ⟨bz, hbz⟩ : ∃ z, z = w6.heap.size := ⟨_, rfl⟩
    obtain ⟨w7, hw7⟩ : ∃ z, z = w6.alloc (.cells #[.int .i64 0, .int .i64 0, .slice none 0 0] 24) := ⟨_, rfl⟩
    have hb7 : Below w6.heap.size w6 w7 := by rw [hw7]; exact (Below.refl _ w6).alloc (Nat.le_refl _) _
    have hk7 : Blk w7 bz 24 #[.int .i64 0, .int .i64 0, .slice none 0 0] := by rw [hw7, hbz]; exact Blk.new _ _ _
    have hsm := r15Same_any w7 ⟨0, 0, []⟩ ⟨0, 0, []⟩ none 0 0 (RefsIn.none_ w7) none 0 0 (RefsIn.none_ w7)
    rw [decide_eq_true rfl] at hsm
    have HSM : Hid (Calls Tryz.prog 18 #[.agg #[.int .i64 0, .int .i64 0, .slice none 0 0], .agg #[.int .i64 0, .int .i64 0, .slice none 0 0]] w7 fun e w' => e = .returned (.bool true) ∧ Below w7.heap.size w7 w') := Lib.hid hsm
    have z0 := hk7.cell 0
    have z1 := hk7.cell 1
    have z2 := hk7.cell 2
    simp only [List.getElem?_toArray, List.getElem?_cons_zero, List.getElem?_cons_succ] at z0 z1 z2
    have HB7 := Lib.hid (below_then HB6.out hb7 HB6.out.size)
    have HW7 := Lib.hid hw7
    have HBZ := Lib.hid hbz
    clear hgl hw7 hbz hb7 hk7 hsm
    go_upto_region 12 with fail
    rw [← HW7.out, ← HBZ.out]
    go_wp2_with fail
    refine HSM.out.mono ?_
    rintro e w8 ⟨rfl, hb8⟩
    obtain ⟨-, -, -, -, -, -, hbf⟩ := HALL.out w8 (below_then HB7.out hb8 HB7.out.size)
    have HBF := Lib.hid hbf
    clear hb8 hbf z0 z1 z2
    go_wp2
    go_ret
    exact ⟨rfl, HBF.out⟩
  | some u =>
    rw [hgl] at hg6
    obtain ⟨v6, rfl, ho6⟩ := hg6
    obtain ⟨A6, c6, hv6⟩ := own_slice ho6
    subst hv6
    obtain ⟨hou, hpu⟩ := mGet_back hgl
    have HPU := Lib.hid hpu
    have HOU := Lib.hid hou
    obtain ⟨un, hun⟩ : ∃ z, z = u.refs.length := ⟨_, rfl⟩
    rw [← hun] at ho6 ⊢
    obtain ⟨bz, hbz⟩ : ∃ z, z = w6.heap.size := ⟨_, rfl⟩
    obtain ⟨w7, hw7⟩ : ∃ z, z = w6.alloc (.cells #[.int .i64 u.gen, .int .i64 u.next, .slice A6 un c6] 24) := ⟨_, rfl⟩
    have hb7 : Below w6.heap.size w6 w7 := by rw [hw7]; exact (Below.refl _ w6).alloc (Nat.le_refl _) _
    have hk7 : Blk w7 bz 24 #[.int .i64 u.gen, .int .i64 u.next, .slice A6 un c6] := by rw [hw7, hbz]; exact Blk.new _ _ _
    have hru : RefsIn w7 A6 un u.refs := RefsIn.own (ownsRow_block ho6 fun g hg => hb7.block g (ho6.lt g hg).2) hun.symm (by have := mOk_few hou; unfold maxLen; omega) (refs_bound_ok hou)
    have HPT := Lib.hid (pPut_any w7 u A6 un c6 hru)
    have z0 := hk7.cell 0
    have z1 := hk7.cell 1
    have z2 := hk7.cell 2
    simp only [List.getElem?_toArray, List.getElem?_cons_zero, List.getElem?_cons_succ] at z0 z1 z2
    have HB7 := Lib.hid (below_then HB6.out hb7 HB6.out.size)
    have HW7 := Lib.hid hw7
    have HBZ := Lib.hid hbz
    clear hgl ho6 hou hpu hun hbz hw7 hb7 hk7 hru
    go_upto_region 12 with fail
    rw [← HW7.out, ← HBZ.out]
    go_wp2_with fail
    refine HPT.out.mono ?_
    rintro e w8 ⟨hb8, hy8, -⟩
    obtain ⟨A8, c8, rfl, ho8⟩ := hy8 HOU.out
    rw [HPU.out, HLN.out] at ho8
    rw [HPU.out, HLN.out]
    have hB8 := below_then HB7.out hb8 HB7.out.size
    obtain ⟨-, -, -, -, hby8, -, hbf⟩ := HALL.out w8 hB8
    have hb88 := BytesIn.own ho8 (by have := HKK.out; unfold maxLen; omega)
    have s1 := str_of hb88 c8
    have s2 := str_of hby8 d
    have HBF := Lib.hid hbf
    clear hb8 hy8 ho8 hB8 hby8 hbf hb88 z0 z1 z2 HPT
    go_wp2
    go_ret
    exact ⟨rfl, HBF.out⟩
end Go.Proofs.YtmhiekbpmoikfaaGreatDoor
