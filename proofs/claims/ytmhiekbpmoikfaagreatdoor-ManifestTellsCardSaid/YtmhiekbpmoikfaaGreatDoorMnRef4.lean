/- The document's Get. -/
import Derived.Test.YtmhiekbpmoikfaaGreatDoorZp10
import Derived.Test.YtmhiekbpmoikfaaGreatDoorMnRef2
import Derived.Test.YtmhiekbpmoikfaaGreatDoorFRef3
import Derived.Test.YtmhiekbpmoikfaaGreatDoorLRef7n
import Derived.Deep.DeepCutAuto
namespace Go.Proofs.YtmhiekbpmoikfaaGreatDoor
open Go.RowKit Go.Maps Go.WideMaps
set_option linter.unusedSimpArgs false

theorem allAuxM_len : ∀ (f : Nat) (c : List UInt8) (acc : List (List UInt8)), (allAux f c acc).1.length ≤ acc.length + f
  | 0, c, acc => by simp [allAux]
  | f + 1, c, acc => by
    simp only [allAux]
    split
    · simp
    · split
      · simp
      · have := allAuxM_len f (c.drop (getF c).2.1) (acc ++ [(getF c).1])
        simp only [List.length_append, List.length_singleton] at this
        omega
theorem allFM_len (c : List UInt8) : (allF c).1.length ≤ c.length := by
  have := allAuxM_len c.length c []
  simpa [allF] using this
set_option maxHeartbeats 16000000 in
set_option maxRecDepth 100000 in
theorem r15Get_any (w : World) (A : Option Addr) (n c : Nat) (x : Nm) (hx : BytesIn w A n x) (hc : n ≤ c) (hn : n ≤ 1000000) :
    Calls Tryz.prog 15 #[.slice A n c] w (MGetOut w x) := by
  obtain ⟨i0, hi, hz0, hz1, hz2⟩ := info_parts refInfo
  have hln : x.length = n := by have := hx.2.1.len; simpa using this
  obtain ⟨W1, hW1⟩ : ∃ W1, W1 = w.alloc (.cells #[.int .i64 0, .int .i64 0, .slice none 0 0] 24) := ⟨_, rfl⟩
  have hb0 : Below w.heap.size w W1 := by rw [hW1]; exact (Below.refl _ w).alloc (Nat.le_refl _) _
  have hs1 : W1.heap.size = w.heap.size + 1 := by rw [hW1]; simp
  have HV1 : Hid (Blk W1 w.heap.size 24 #[.int .i64 0, .int .i64 0, .slice none 0 0]) := Lib.hid (by rw [hW1]; exact Blk.new _ _ _)
  have HB0 := Lib.hid hb0
  have HW1 := Lib.hid hW1
  have HCF := Lib.hid (r4All_any W1 A n c x (hx.below hb0) hc (by omega))
  have hll := allFM_len x
  obtain ⟨Ls, e0, hA⟩ : ∃ L e, allF x = (L, e) := ⟨_, _, rfl⟩
  have hdg : mGetB x = if e0 ≠ 0 ∨ Ls.length ≠ 1 then none else mOf (Ls.getD 0 []) := by unfold mGetB; rw [hA]
  rw [hA] at HCF hll
  simp only at hll
  have HA := Lib.hid hA
  have HDG := Lib.hid hdg
  clear hx hA hdg hb0 hW1
  go_enter Tryz.func15, Tryz.ntmps15
  go_wp2_with fail
  rw [← HW1.out]
  refine HCF.out.mono ?_
  rintro e w1 ⟨v1, rfl, hrow, hb1⟩
  have hrow : RowsAt w1 W1.heap.size v1 Ls := hrow
  obtain ⟨Ar, nr, cr, rfl⟩ : ∃ A n c, v1 = .slice A n c := by
    obtain ⟨svs, h1, -⟩ := hrow
    obtain ⟨A, c, h⟩ := own_slice h1
    exact ⟨A, _, c, h⟩
  obtain ⟨hsee, hnr, hcr⟩ := hrow.see (by unfold maxLen; omega)
  subst hnr
  have HS := Lib.hid hsee
  have HB1 := Lib.hid (below_then HB0.out hb1 HB0.out.size)
  have HV2 := Lib.hid (HV1.out.below hb1 HV1.out.lt)
  have hsz1 : W1.heap.size ≤ w1.heap.size := hb1.size
  clear hrow hsee hb1 HCF HV1 HB0 HW1
  have HBAD : Hid (∀ u : World, Blk u w.heap.size 24 #[.int .i64 0, .int .i64 0, .slice none 0 0] → Below w.heap.size w u → mGetB x = none → MGetOut w x (.returned (.tuple #[.agg #[.int .i64 0, .int .i64 0, .slice none 0 0], .int .i64 3])) u) := Lib.hid (fun u _ hb hn => MGetOut.none_ hn hb)
  have z0 := HV2.out.cell 0
  have z1 := HV2.out.cell 1
  have z2 := HV2.out.cell 2
  have y0 := HV2.out.frozen 0
  have y1 := HV2.out.frozen 1
  have y2 := HV2.out.frozen 2
  simp only [List.getElem?_toArray, List.getElem?_cons_zero, List.getElem?_cons_succ] at z0 z1 z2
  by_cases hE0 : e0 = 0
  case neg =>
    have d0 : (e0 != 0) = true := by simpa using hE0
    have HN := Lib.hid (show mGetB x = none by rw [HDG.out, if_pos (.inl hE0)])
    clear hE0
    go_wp2
    refine bodyPost_ret (results_man rfl _ _ w.heap.size 24 #[.int .i64 0, .int .i64 0, .slice none 0 0] (0, 0) _ rfl ?_ Tryz.underlying24 rfl manCells) rfl ?_
    · have := ((HV2.out.set_ 0 (.int .i64 0)).set_ 1 (.int .i64 0)).set_ 2 (.slice none 0 0)
      simpa [Blk] using this
    · exact MGetOut.none_ HN.out (((HB1.out.setCell (Nat.le_refl _) _).setCell (Nat.le_refl _) _).setCell (Nat.le_refl _) _)
  subst hE0
  by_cases hl1 : Ls.length = 1
  case neg =>
    have HN := Lib.hid (show mGetB x = none by rw [HDG.out, if_pos (.inr hl1)])
    have d0 : (((Ls.length : Nat) : Int) != 1) = true := by simp only [bne_iff_ne]; omega
    clear hl1
    go_wp2
    refine bodyPost_ret (results_man rfl _ _ w.heap.size 24 #[.int .i64 0, .int .i64 0, .slice none 0 0] (0, 0) _ rfl ?_ Tryz.underlying24 rfl manCells) rfl ?_
    · have := ((HV2.out.set_ 0 (.int .i64 0)).set_ 1 (.int .i64 0)).set_ 2 (.slice none 0 0)
      simpa [Blk] using this
    · exact MGetOut.none_ HN.out (((HB1.out.setCell (Nat.le_refl _) _).setCell (Nat.le_refl _) _).setCell (Nat.le_refl _) _)
  clear z0 z1 z2 y0 y1 y2
  obtain ⟨f, rfl⟩ : ∃ f, Ls = [f] := by
    match Ls, hl1 with
    | [f], _ => exact ⟨f, rfl⟩
  have HR : Hid (mGetB x = mOf f) := Lib.hid (by rw [HDG.out, if_neg (by simp)]; rfl)
  have hfl : f.length ≤ 262144 := (allF_inv HA.out).2 f (List.mem_singleton.2 rfl)
  obtain ⟨ad, B1, c1, e1, hcell, hcc, hB1⟩ := HS.out.at_ 0 f rfl
  cases e1
  rw [Addr.add_zero'] at hcell
  have HBY := Lib.hid hB1
  simp only [List.length_cons, List.length_nil, Nat.zero_add, Nat.reduceAdd] at hl1 hll ⊢
  clear hB1 HDG HA
  go_wp2_with fail
  refine (r3New_any w1 B1 f.length c1 f HBY.out (by omega)).mono ?_
  rintro e w2 ⟨rb, A1, c1', rfl, hrb, hR1, hb2, hal⟩
  unfold at0
  obtain ⟨W3, hW3⟩ : ∃ W3, W3 = w2.alloc (.cells #[.int .i64 0, .int .i64 0, .slice none 0 0] 24) := ⟨_, rfl⟩
  have hb3 : Below w2.heap.size w2 W3 := by rw [hW3]; exact (Below.refl _ w2).alloc (Nat.le_refl _) _
  obtain ⟨mb, hmb⟩ : ∃ mb, mb = w2.heap.size := ⟨_, rfl⟩
  have hblk : Blk W3 mb 24 #[.int .i64 0, .int .i64 0, .slice none 0 0] := by rw [hW3, hmb]; exact Blk.new _ _ _
  have hrb1 : rb < mb := by rw [hmb]; exact hR1.blk.lt
  have HG0 : Hid (MGrow W3 W3 rb mb A1 c1' ⟨f, 0, 0⟩ 0 0 (.slice none 0 0) []) := Lib.hid
    { rd := hR1.same (Kept.below (F := fun _ => False) hb3) (fun h => h) (fun _ _ _ h => h)
      blk := hblk
      row := World.ownsRow_nil _ _ _ _
      kept := Kept.refl _ _
      rl := hrb1
      al := fun ad e h0 => by rw [hmb]; exact hR1.bytes.2.2 ad e h0 }
  have HB2 := Lib.hid (below_then HB1.out hb2 HB1.out.size)
  have HB3 := Lib.hid (below_then HB2.out hb3 HB2.out.size)
  have HV3 := Lib.hid ((HV2.out.below hb2 HV2.out.lt).below hb3 (HV2.out.below hb2 HV2.out.lt).lt)
  have HRBW : Hid (w.heap.size < rb) := Lib.hid (by omega)
  have HW3 := Lib.hid hW3
  have HMB := Lib.hid hmb
  clear hR1 hb2 hb3 hcell hcc HBY HS hal hW3 hmb hblk HB2 HB1 HV2
  go_wp2_with fail
  rw [← HW3.out, ← HMB.out]
  obtain ⟨gg, s1, hq1⟩ : ∃ g s, rInt ⟨f, 0, 0⟩ 1099511627776 = (g, s) := ⟨_, _, rfl⟩
  refine (r3Int_any W3 rb ⟨f, 0, 0⟩ A1 c1' HG0.out.rd 1099511627776 (by omega) (by omega)).mono ?_
  rw [hq1]
  rintro e w4 ⟨rfl, hr4, hk4⟩
  simp only at hr4 ⊢
  have hg4 := HG0.out.step (hk4.mono (fun i e => .inl e)) hr4 (rInt_bs HG0.out.rd.ok hq1)
  have HG4 := Lib.hid (hg4.put 0 (.int .i64 gg) rfl)
  have e0 := hg4.blk.cell 0
  have f0 := hg4.blk.frozen 0
  simp only [List.getElem?_toArray, List.getElem?_cons_zero, List.getElem?_cons_succ] at e0
  have HQ1 := Lib.hid hq1
  clear hq1 hr4 hk4 hg4 HG0
  go_wp2_with fail
  clear e0 f0
  obtain ⟨W4, hW4⟩ : ∃ z, z = w4.setCell ⟨mb, 0, none⟩ (.int .i64 gg) := ⟨_, rfl⟩
  rw [← hW4] at HG4 ⊢
  clear hW4
  obtain ⟨nn, s2, hq1⟩ : ∃ g s, rInt s1 1099511627776 = (g, s) := ⟨_, _, rfl⟩
  refine (r3Int_any W4 rb s1 A1 c1' HG4.out.rd 1099511627776 (by omega) (by omega)).mono ?_
  rw [hq1]
  rintro e w5 ⟨rfl, hr4, hk4⟩
  simp only at hr4 ⊢
  have hg4 := HG4.out.step (hk4.mono (fun i e => .inl e)) hr4 (rInt_bs HG4.out.rd.ok hq1)
  have HG5 := Lib.hid (hg4.put 1 (.int .i64 nn) rfl)
  have e0 := hg4.blk.cell 1
  have f0 := hg4.blk.frozen 1
  simp only [List.getElem?_toArray, List.getElem?_cons_zero, List.getElem?_cons_succ] at e0
  have HQ2 := Lib.hid hq1
  clear hq1 hr4 hk4 hg4 HG4
  go_wp2_with fail
  clear e0 f0
  obtain ⟨W5, hW5⟩ : ∃ z, z = w5.setCell ⟨mb, 1, none⟩ (.int .i64 nn) := ⟨_, rfl⟩
  rw [← hW5] at HG5 ⊢
  clear hW5
  obtain ⟨mm, s3, hq1⟩ : ∃ g s, rInt s2 24 = (g, s) := ⟨_, _, rfl⟩
  have hmr := rInt_rng s2 (most := 24) (by omega)
  rw [hq1] at hmr
  obtain ⟨cn, rfl⟩ := Int.eq_ofNat_of_zero_le hmr.1
  have hcn : cn ≤ 24 := by have := hmr.2; simp only at this; omega
  refine (r3Int_any W5 rb s2 A1 c1' HG5.out.rd 24 (by omega) (by omega)).mono ?_
  rw [hq1]
  rintro e w6 ⟨rfl, hr4, hk4⟩
  simp only at hr4 ⊢
  have HG6 := Lib.hid (HG5.out.step (hk4.mono (fun i e => .inl e)) hr4 (rInt_bs HG5.out.rd.ok hq1))
  have HQ3 := Lib.hid hq1
  clear hq1 hr4 hk4 HG5 hmr
  go_wp2_with fail
  go_loopw [9] (fun iv wr => ∃ (i : Nat) (v : Value), i ≤ cn ∧ iv = .int .i64 i ∧ MGrow W3 wr rb mb A1 c1' (rUp s3 i).2 gg nn v (rUp s3 i).1) (fun iv _ => cn - (intOf iv).toNat)
  case atStart => exact ⟨0, _, by omega, rfl, HG6.out⟩
  case round =>
    obtain ⟨i, v, hi0, rfl, hg⟩ := hrel
    obtain ⟨L, sk, hup⟩ : ∃ L s, rUp s3 i = (L, s) := ⟨_, _, rfl⟩
    have hll := rUp_len s3 i
    rw [hup] at hg hll
    simp only at hg hll
    have HUP := Lib.hid hup
    have HG := Lib.hid hg
    have HLL := Lib.hid hll
    have HI0 := Lib.hid hi0
    clear hup hg hll hi0 HG6
    obtain ⟨Av, cv, hv⟩ := own_slice HG.out.row
    subst hv
    obtain ⟨ln, hln⟩ : ∃ z, z = L.length := ⟨_, rfl⟩
    have hln24 : ln ≤ 24 := by have := HLL.out; have := HI0.out; omega
    have hcap := refs_cap HG.out.row
    rw [← hln] at HG hcap
    have HLN := Lib.hid hln
    have hrow := HG.out.row
    rw [← hln] at hrow
    have HROW := Lib.hid hrow
    clear hln hrow
    have k0 := HG.out.blk.cell 0
    have k1 := HG.out.blk.cell 1
    have k2 := HG.out.blk.cell 2
    simp only [List.getElem?_toArray, List.getElem?_cons_zero, List.getElem?_cons_succ] at k0 k1 k2
    have hwr : mb < wr.heap.size := HG.out.blk.lt
    rcases Nat.lt_or_ge i cn with hlt | hge
    · have hlt' : (i : Int) < (cn : Int) := by omega
      go_wp2_with fail
      clear k0 k1 k2
      obtain ⟨rr, hrr⟩ : ∃ rr, rr = wr.heap.size := ⟨_, rfl⟩
      obtain ⟨u0, hu0⟩ : ∃ u0, u0 = wr.alloc (.cells #[.int .i64 0, .int .i64 0, .int .i64 0, .int .i64 0] 88) := ⟨_, rfl⟩
      have HB_0 : Hid (Blk u0 rr 88 #[.int .i64 0, .int .i64 0, .int .i64 0, .int .i64 0]) := Lib.hid (by rw [hu0, hrr]; exact Blk.new _ _ _)
      have HK_0 : Hid (Kept (fun g => g = rb ∨ wr.heap.size ≤ g) wr u0) := Lib.hid (by rw [hu0]; exact (Kept.refl _ _).alloc _)
      have HR_0 : Hid (IsR3 u0 rb sk A1 c1') := Lib.hid (by rw [hu0]; exact HG.out.rd.same ((Kept.refl (fun _ => False) _).alloc _) (fun h => h) (fun _ _ _ h => h))
      have HRR := Lib.hid hrr
      rw [← hu0, ← hrr]
      clear hu0 hrr
      have HNA : Hid (∀ (s : Rd) (u : World), IsR3 u rb s A1 c1' → s.bs = sk.bs → ∀ (j : Nat) (a : Value), IsR3 (u.setCell ⟨rr, j, none⟩ a) rb s A1 c1') := Lib.hid (fun s u h hs j a => h.same ((Kept.refl (fun i => i = rr) u).setCell (.inl rfl) a) (fun e => by have := HRR.out; have := HG.out.rl; omega) (fun ad e h0 hf => by have := HRR.out; have := HG.out.al ad e (by rw [← hs]; exact h0); omega))
      obtain ⟨a1, t1, hq1⟩ : ∃ g s, rInt sk 1099511627776 = (g, s) := ⟨_, _, rfl⟩
      refine (r3Int_any u0 rb sk A1 c1' HR_0.out 1099511627776 (by omega) (by omega)).mono ?_
      rw [hq1]
      rintro e x1 ⟨rfl, hr4, hk4⟩
      simp only at hr4 ⊢
      have HBS_1 : Hid (t1.bs = sk.bs) := Lib.hid ((rInt_bs HR_0.out.ok hq1).trans rfl)
      have hbx := HB_0.out.kept hk4 (fun e => by have := HRR.out; have := HG.out.rl; omega)
      have HKX := Lib.hid (HK_0.out.trans hk4 (fun i _ e => .inl e))
      have HRX := Lib.hid hr4
      have HQ_1 := Lib.hid hq1
      have e0 := hbx.cell 0
      have e1 := hbx.cell 1
      have e2 := hbx.cell 2
      have e3 := hbx.cell 3
      have f0 := hbx.frozen 0
      have f1 := hbx.frozen 1
      have f2 := hbx.frozen 2
      have f3 := hbx.frozen 3
      simp only [List.getElem?_toArray, List.getElem?_cons_zero, List.getElem?_cons_succ] at e0 e1 e2 e3
      obtain ⟨u1, hu⟩ : ∃ z, z = x1.setCell ⟨rr, 0, none⟩ (.int .i64 a1) := ⟨_, rfl⟩
      have HB_1 : Hid (Blk u1 rr 88 #[.int .i64 a1, .int .i64 0, .int .i64 0, .int .i64 0]) := Lib.hid (by rw [hu]; exact hbx.set_ 0 _)
      have HK_1 : Hid (Kept (fun g => g = rb ∨ wr.heap.size ≤ g) wr u1) := Lib.hid (by rw [hu]; exact HKX.out.setCell (.inl (.inr (by have := HRR.out; show _ ≤ rr; omega))) _)
      have HR_1 : Hid (IsR3 u1 rb t1 A1 c1') := Lib.hid (by rw [hu]; exact HNA.out _ _ HRX.out HBS_1.out _ _)
      have HU := Lib.hid hu
      clear hq1 hr4 hk4 hbx hu HB_0 HK_0 HR_0
      go_wp2_with fail
      rw [← HU.out]
      clear e0 e1 e2 e3 f0 f1 f2 f3 HU HKX HRX
      obtain ⟨a2, t2, hq1⟩ : ∃ g s, rInt t1 1099511627776 = (g, s) := ⟨_, _, rfl⟩
      refine (r3Int_any u1 rb t1 A1 c1' HR_1.out 1099511627776 (by omega) (by omega)).mono ?_
      rw [hq1]
      rintro e x2 ⟨rfl, hr4, hk4⟩
      simp only at hr4 ⊢
      have HBS_2 : Hid (t2.bs = sk.bs) := Lib.hid ((rInt_bs HR_1.out.ok hq1).trans HBS_1.out)
      have hbx := HB_1.out.kept hk4 (fun e => by have := HRR.out; have := HG.out.rl; omega)
      have HKX := Lib.hid (HK_1.out.trans hk4 (fun i _ e => .inl e))
      have HRX := Lib.hid hr4
      have HQ_2 := Lib.hid hq1
      have e0 := hbx.cell 0
      have e1 := hbx.cell 1
      have e2 := hbx.cell 2
      have e3 := hbx.cell 3
      have f0 := hbx.frozen 0
      have f1 := hbx.frozen 1
      have f2 := hbx.frozen 2
      have f3 := hbx.frozen 3
      simp only [List.getElem?_toArray, List.getElem?_cons_zero, List.getElem?_cons_succ] at e0 e1 e2 e3
      obtain ⟨u2, hu⟩ : ∃ z, z = x2.setCell ⟨rr, 1, none⟩ (.int .i64 a2) := ⟨_, rfl⟩
      have HB_2 : Hid (Blk u2 rr 88 #[.int .i64 a1, .int .i64 a2, .int .i64 0, .int .i64 0]) := Lib.hid (by rw [hu]; exact hbx.set_ 1 _)
      have HK_2 : Hid (Kept (fun g => g = rb ∨ wr.heap.size ≤ g) wr u2) := Lib.hid (by rw [hu]; exact HKX.out.setCell (.inl (.inr (by have := HRR.out; show _ ≤ rr; omega))) _)
      have HR_2 : Hid (IsR3 u2 rb t2 A1 c1') := Lib.hid (by rw [hu]; exact HNA.out _ _ HRX.out HBS_2.out _ _)
      have HU := Lib.hid hu
      clear hq1 hr4 hk4 hbx hu HB_1 HK_1 HR_1
      go_wp2_with fail
      rw [← HU.out]
      clear e0 e1 e2 e3 f0 f1 f2 f3 HU HKX HRX
      obtain ⟨a3, t3, hq1⟩ : ∃ g s, rInt t2 1099511627776 = (g, s) := ⟨_, _, rfl⟩
      refine (r3Int_any u2 rb t2 A1 c1' HR_2.out 1099511627776 (by omega) (by omega)).mono ?_
      rw [hq1]
      rintro e x3 ⟨rfl, hr4, hk4⟩
      simp only at hr4 ⊢
      have HBS_3 : Hid (t3.bs = sk.bs) := Lib.hid ((rInt_bs HR_2.out.ok hq1).trans HBS_2.out)
      have hbx := HB_2.out.kept hk4 (fun e => by have := HRR.out; have := HG.out.rl; omega)
      have HKX := Lib.hid (HK_2.out.trans hk4 (fun i _ e => .inl e))
      have HRX := Lib.hid hr4
      have HQ_3 := Lib.hid hq1
      have e0 := hbx.cell 0
      have e1 := hbx.cell 1
      have e2 := hbx.cell 2
      have e3 := hbx.cell 3
      have f0 := hbx.frozen 0
      have f1 := hbx.frozen 1
      have f2 := hbx.frozen 2
      have f3 := hbx.frozen 3
      simp only [List.getElem?_toArray, List.getElem?_cons_zero, List.getElem?_cons_succ] at e0 e1 e2 e3
      obtain ⟨u3, hu⟩ : ∃ z, z = x3.setCell ⟨rr, 2, none⟩ (.int .i64 a3) := ⟨_, rfl⟩
      have HB_3 : Hid (Blk u3 rr 88 #[.int .i64 a1, .int .i64 a2, .int .i64 a3, .int .i64 0]) := Lib.hid (by rw [hu]; exact hbx.set_ 2 _)
      have HK_3 : Hid (Kept (fun g => g = rb ∨ wr.heap.size ≤ g) wr u3) := Lib.hid (by rw [hu]; exact HKX.out.setCell (.inl (.inr (by have := HRR.out; show _ ≤ rr; omega))) _)
      have HR_3 : Hid (IsR3 u3 rb t3 A1 c1') := Lib.hid (by rw [hu]; exact HNA.out _ _ HRX.out HBS_3.out _ _)
      have HU := Lib.hid hu
      clear hq1 hr4 hk4 hbx hu HB_2 HK_2 HR_2
      go_wp2_with fail
      rw [← HU.out]
      clear e0 e1 e2 e3 f0 f1 f2 f3 HU HKX HRX
      obtain ⟨a4, t4, hq1⟩ : ∃ g s, rInt t3 1099511627776 = (g, s) := ⟨_, _, rfl⟩
      refine (r3Int_any u3 rb t3 A1 c1' HR_3.out 1099511627776 (by omega) (by omega)).mono ?_
      rw [hq1]
      rintro e x4 ⟨rfl, hr4, hk4⟩
      simp only at hr4 ⊢
      have HBS_4 : Hid (t4.bs = sk.bs) := Lib.hid ((rInt_bs HR_3.out.ok hq1).trans HBS_3.out)
      have hbx := HB_3.out.kept hk4 (fun e => by have := HRR.out; have := HG.out.rl; omega)
      have HKX := Lib.hid (HK_3.out.trans hk4 (fun i _ e => .inl e))
      have HRX := Lib.hid hr4
      have HQ_4 := Lib.hid hq1
      have e0 := hbx.cell 0
      have e1 := hbx.cell 1
      have e2 := hbx.cell 2
      have e3 := hbx.cell 3
      have f0 := hbx.frozen 0
      have f1 := hbx.frozen 1
      have f2 := hbx.frozen 2
      have f3 := hbx.frozen 3
      simp only [List.getElem?_toArray, List.getElem?_cons_zero, List.getElem?_cons_succ] at e0 e1 e2 e3
      obtain ⟨u4, hu⟩ : ∃ z, z = x4.setCell ⟨rr, 3, none⟩ (.int .i64 a4) := ⟨_, rfl⟩
      have HB_4 : Hid (Blk u4 rr 88 #[.int .i64 a1, .int .i64 a2, .int .i64 a3, .int .i64 a4]) := Lib.hid (by rw [hu]; exact hbx.set_ 3 _)
      have HK_4 : Hid (Kept (fun g => g = rb ∨ wr.heap.size ≤ g) wr u4) := Lib.hid (by rw [hu]; exact HKX.out.setCell (.inl (.inr (by have := HRR.out; show _ ≤ rr; omega))) _)
      have HR_4 : Hid (IsR3 u4 rb t4 A1 c1') := Lib.hid (by rw [hu]; exact HNA.out _ _ HRX.out HBS_4.out _ _)
      have HU := Lib.hid hu
      clear hq1 hr4 hk4 hbx hu HB_3 HK_3 HR_3
      have hgx := HG.out.step HKX.out HRX.out HBS_4.out
      have m2 := hgx.blk.cell 2
      simp only [List.getElem?_toArray, List.getElem?_cons_zero, List.getElem?_cons_succ] at m2
      have hsx : u4.heap.size = x4.heap.size := by rw [HU.out]; simp
      have hg4 := HG.out.step HK_4.out HR_4.out HBS_4.out
      obtain ⟨u5, hu5⟩ : ∃ z, z = u4.alloc (.cells #[.int .i64 a1, .int .i64 a2, .int .i64 a3, .int .i64 a4] 88) := ⟨_, rfl⟩
      have hk5 : Kept (fun g => g = rb ∨ u4.heap.size ≤ g) u4 u5 := by rw [hu5]; exact (Kept.refl _ _).alloc _
      have HG5 := Lib.hid (hg4.step hk5 (hg4.rd.same (by rw [hu5]; exact (Kept.refl (fun _ => False) _).alloc _) (fun h => h) (fun _ _ _ h => h)) rfl)
      have hb5 : Blk u5 x4.heap.size 88 #[.int .i64 a1, .int .i64 a2, .int .i64 a3, .int .i64 a4] := by rw [hu5, ← hsx]; exact Blk.new _ _ _
      have HNEW : Hid (∀ (j : Nat) (z : Value), (rfCells ⟨a1, a2, a3, a4⟩)[j]? = some z → u5.cell? ((⟨x4.heap.size, 0, none⟩ : Addr).add j) = some z) := Lib.hid (fun j z hz => by
        rw [addr_at, hb5.cell]
        simpa [rfCells] using hz)
      have hrow5 := HG5.out.row
      rw [← HLN.out] at hrow5
      have HROW5 := Lib.hid hrow5
      have hms5 : mb + 1 ≤ u5.heap.size := HG5.out.blk.lt
      rw [HU.out] at hu5
      have HU5 := Lib.hid hu5
      clear hgx hsx hg4 hk5 hb5 hrow5 hu5 HKX HRX HU HB_4 HK_4 HR_4 HNA
      go_wp2_with (at_builtin; rw [← HU5.out]; refine wpList_append_own_at _ rfl (.tmp 55) (.tmp 57) 22 rfl (mb + 1) 88 i0 (.agg #[.int .i64 0, .int .i64 0, .int .i64 0, .int .i64 0]) 4 32 Tryz.underlying22 hi hz0 hz1 hz2 rfl (by omega) _ ln (L.flatMap rfCells) rfl HROW5.out ⟨x4.heap.size, 0, none⟩ 1 1 (rfCells ⟨a1, a2, a3, a4⟩) rfl rfl HNEW.out (by simp [rfCells, Value.oneCell']) (by unfold maxLen; omega) (by omega) (by omega) ?_; intro v' z5 hown hgrow _ _; obtain ⟨Az, cz, hqz⟩ := own_slice hown; subst hqz; have HP := Lib.hid (HG5.out.push (r := ⟨a1, a2, a3, a4⟩) hgrow (by rw [← HLN.out]; exact hown)); have hbz := HG5.out.blk.grown hgrow (own_blk_ne HROW5.out HG5.out.blk (by decide)).symm; have y2 := hbz.cell 2; have y3 := hbz.frozen 2; simp only [List.getElem?_toArray, List.getElem?_cons_zero, List.getElem?_cons_succ] at y2; clear hown hgrow hbz)
      have HUP2 := Lib.hid (rUp_succ HUP.out HQ_1.out HQ_2.out HQ_3.out HQ_4.out)
      refine ⟨⟨i + 1, .slice Az (ln + 1) cz, by omega, by go_num, ?_⟩, by simp [intOf]; omega⟩
      rw [HUP2.out]
      exact HP.out
    · have hlz : ¬ ((i : Int) < (cn : Int)) := by omega
      have HIC : Hid (i = cn) := Lib.hid (by have := HI0.out; omega)
      have HM : Hid (mGetB x = if sk.e ≠ 0 ∨ 0 < rLeft sk ∨ ¬ mOk ⟨gg, nn, L⟩ then none else some ⟨gg, nn, L⟩) := Lib.hid (by
        have h1 : mHd f = s3 := by unfold mHd maxNum; rw [HQ1.out]; simp only; rw [HQ2.out]; simp only; rw [HQ3.out]
        have h2 : mMany f = (cn : Int) := by unfold mMany maxNum; rw [HQ1.out]; simp only; rw [HQ2.out]; simp only; rw [HQ3.out]
        have h3 : mRead f = ⟨gg, nn, L⟩ := by
          unfold mRead
          rw [h1, h2, Int.toNat_natCast, ← HIC.out, HUP.out]
          unfold maxNum
          rw [HQ1.out]
          simp only
          rw [HQ2.out]
        rw [HR.out]
        unfold mOf
        rw [h1, h2, h3, Int.toNat_natCast, ← HIC.out, HUP.out])
      have HBD : Hid (∀ r ∈ L, rfBound r) := Lib.hid (by have := rUp_bound s3 i; rw [HUP.out] at this; exact this)
      have HRI : Hid (RefsIn wr Av ln L) := Lib.hid (RefsIn.own HROW.out HLN.out.symm (by unfold maxLen; omega) HBD.out)
      have HCK := Lib.hid (r15Check_any wr ⟨gg, nn, L⟩ Av ln cv HRI.out hcap)
      have HBW : Hid (Below w.heap.size w wr) := Lib.hid (HB3.out.trans (HG.out.kept.toBelow HB3.out.size (fun g e => by have := HRBW.out; have := HG.out.rl; omega)))
      have HVW : Hid (Blk wr w.heap.size 24 #[.int .i64 0, .int .i64 0, .slice none 0 0]) := Lib.hid (HV3.out.kept HG.out.kept (fun e => by have := HRBW.out; have := HG.out.rl; omega))
      go_wp2_with fail
      clear k0 k1 k2
      refine HCK.out.mono ?_
      rintro e w7 ⟨rfl, hb7⟩
      have HG7 := Lib.hid (HG.out.step (Kept.below (hb7.mono (Nat.le_refl _))) (HG.out.rd.same (Kept.below (F := fun _ => False) hb7) (fun h => h) (fun _ _ _ h => h)) rfl)
      have HB7 := Lib.hid (below_then HBW.out hb7 HBW.out.size)
      have HV7 := Lib.hid (HVW.out.below hb7 HVW.out.lt)
      have HROW7 : Hid (w7.ownsRow w.heap.size 88 4 (.slice Av ln cv) ln (L.flatMap rfCells)) := Lib.hid (Go.Joins.ownsRow_le (by have := HG7.out.row; rw [← HLN.out] at this; exact this) (by have := HRBW.out; have := HG.out.rl; omega))
      have hmr : mErr ⟨gg, nn, L⟩ = if mOk ⟨gg, nn, L⟩ then 0 else 1 := rfl
      obtain ⟨ee, hee⟩ : ∃ ee, ee = mErr ⟨gg, nn, L⟩ := ⟨_, rfl⟩
      rw [← hee] at hmr ⊢
      have HMR := Lib.hid hmr
      obtain ⟨se, hse⟩ : ∃ se, se = sk.e := ⟨_, rfl⟩
      have c2 := HG7.out.rd.blk.cell 2
      have HLC := Lib.hid (r3Left_any w7 rb sk A1 c1' HG7.out.rd)
      obtain ⟨lf, hlf⟩ : ∃ lf, lf = rLeft sk := ⟨_, rfl⟩
      rw [← hse, ← hlf] at HM
      rw [← hlf] at HLC
      rw [← hse] at c2
      have z0 := HV7.out.cell 0
      have z1 := HV7.out.cell 1
      have z2 := HV7.out.cell 2
      have y0 := HV7.out.frozen 0
      have y1 := HV7.out.frozen 1
      have y2 := HV7.out.frozen 2
      have k0 := HG7.out.blk.cell 0
      have k1 := HG7.out.blk.cell 1
      have k2 := HG7.out.blk.cell 2
      simp only [List.getElem?_toArray, List.getElem?_cons_zero, List.getElem?_cons_succ] at c2 z0 z1 z2 k0 k1 k2
      clear hb7 hmr hee hse hlf HB3 HV3 HRI HCK HBW HVW HROW
      by_cases hs0 : se = 0
      case neg =>
        have d0 : (se != 0) = true := by simpa using hs0
        have HN := Lib.hid (show mGetB x = none by rw [HM.out, if_pos (.inl hs0)])
        clear hs0
        go_wp2
        refine bodyPost_ret (results_man rfl _ _ w.heap.size 24 #[.int .i64 0, .int .i64 0, .slice none 0 0] (0, 0) _ rfl ?_ Tryz.underlying24 rfl manCells) rfl ?_
        · have := ((HV7.out.set_ 0 (.int .i64 0)).set_ 1 (.int .i64 0)).set_ 2 (.slice none 0 0)
          simpa [Blk] using this
        · exact MGetOut.none_ HN.out (((HB7.out.setCell (Nat.le_refl _) _).setCell (Nat.le_refl _) _).setCell (Nat.le_refl _) _)
      subst hs0
      go_wp2_with fail
      refine HLC.out.mono ?_
      rintro e w8 ⟨rfl, q, rfl⟩
      by_cases hlf : 0 < lf
      · have d1 : (0 : Int) < (lf : Int) := by omega
        have HN := Lib.hid (show mGetB x = none by rw [HM.out, if_pos (.inr (.inl hlf))])
        clear hlf
        go_wp2
        refine bodyPost_ret (results_man rfl _ _ w.heap.size 24 #[.int .i64 0, .int .i64 0, .slice none 0 0] (0, 0) _ rfl ?_ Tryz.underlying24 rfl manCells) rfl ?_
        · have := (((HV7.out.drewN q).set_ 0 (.int .i64 0)).set_ 1 (.int .i64 0)).set_ 2 (.slice none 0 0)
          simpa [Blk] using this
        · exact MGetOut.none_ HN.out ((((below_drewN HB7.out q).setCell (Nat.le_refl _) _).setCell (Nat.le_refl _) _).setCell (Nat.le_refl _) _)
      have d1 : ¬ (0 : Int) < (lf : Int) := by omega
      by_cases hok : mOk ⟨gg, nn, L⟩
      case neg =>
        have he : ee = 1 := by rw [HMR.out, if_neg hok]
        have HN := Lib.hid (show mGetB x = none by rw [HM.out, if_pos (.inr (.inr hok))])
        subst he
        clear hok hlf
        go_wp2
        refine bodyPost_ret (results_man rfl _ _ w.heap.size 24 #[.int .i64 0, .int .i64 0, .slice none 0 0] (0, 0) _ rfl ?_ Tryz.underlying24 rfl manCells) rfl ?_
        · have := (((HV7.out.drewN q).set_ 0 (.int .i64 0)).set_ 1 (.int .i64 0)).set_ 2 (.slice none 0 0)
          simpa [Blk] using this
        · exact MGetOut.none_ HN.out ((((below_drewN HB7.out q).setCell (Nat.le_refl _) _).setCell (Nat.le_refl _) _).setCell (Nat.le_refl _) _)
      have he : ee = 0 := by rw [HMR.out, if_pos hok]
      have HN := Lib.hid (show mGetB x = some ⟨gg, nn, L⟩ by rw [HM.out, if_neg (by simp [hlf, hok])])
      subst he
      clear hok hlf
      go_wp2
      refine bodyPost_ret (results_man rfl _ _ w.heap.size 24 #[.int .i64 gg, .int .i64 nn, .slice Av ln cv] (0, 0) _ rfl ?_ Tryz.underlying24 rfl manCells) rfl ?_
      · have := (((HV7.out.drewN q).set_ 0 (.int .i64 gg)).set_ 1 (.int .i64 nn)).set_ 2 (.slice Av ln cv)
        simpa [Blk] using this
      · refine ⟨(((below_drewN HB7.out q).setCell (Nat.le_refl _) _).setCell (Nat.le_refl _) _).setCell (Nat.le_refl _) _, ?_⟩
        rw [HN.out]
        refine ⟨_, rfl, ?_⟩
        simp only
        rw [← HLN.out]
        have hne : ∀ g, (Value.slice Av ln cv).ownBlock = some g → g ≠ w.heap.size := fun g hg => by
          have h1 := HG7.out.row
          have h2 := (h1.lt g hg).1
          have := HRBW.out
          have := HG.out.rl
          omega
        refine ownsRow_block (w := w7) HROW7.out fun g hg => ?_
        rw [Below.heap_setCell _ _ _ g (hne g hg), Below.heap_setCell _ _ _ g (hne g hg), Below.heap_setCell _ _ _ g (hne g hg)]
        rfl
end Go.Proofs.YtmhiekbpmoikfaaGreatDoor
