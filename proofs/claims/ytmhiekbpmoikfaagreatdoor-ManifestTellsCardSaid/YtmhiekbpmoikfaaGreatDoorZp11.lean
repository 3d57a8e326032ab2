/- The closure of the program's reader: one number more. The program's read: the manifest of a frame's integers. (Printed by mk/mqread.py.) The program's Get. -/
import Derived.Test.YtmhiekbpmoikfaaGreatDoorZp10
import Derived.Test.YtmhiekbpmoikfaaGreatDoorZp2
import Derived.Test.YtmhiekbpmoikfaaGreatDoorZp4
import Derived.Deep.RegionHeld3
namespace Go.Proofs.YtmhiekbpmoikfaaGreatDoor
open Go.RowKit Go.Maps Go.WideMaps
set_option linter.unusedSimpArgs false

/-- The reader's two variables: the bytes that are left, and whether all went well. -/
structure PRd (w : World) (bb ib : Nat) (ok : Bool) (l : Nm) : Prop where
  row : ∃ A n c, Blk w bb 25 #[.slice A n c] ∧ BytesIn w A n l ∧ n ≤ c ∧ ∀ ad, A = some ad → 0 < n → ad.block < bb
  is_ : Blk w ib 4 #[.bool ok]
  ap : bb < ib
theorem PRd.kept {w w' : World} {bb ib : Nat} {ok : Bool} {l : Nm} (h : PRd w bb ib ok l) {F : Nat → Prop} (hk : Kept F w w') (hF : ∀ i, F i → bb ≤ i ∧ i ≠ bb ∧ i ≠ ib) : PRd w' bb ib ok l := by
  obtain ⟨⟨A, n, c, h1, h2, h3, h4⟩, h5, h6⟩ := h
  refine ⟨⟨A, n, c, h1.kept hk (fun hf => (hF _ hf).2.1 rfl), ⟨h2.1, h2.2.1.keep fun ad e hn => ?_, fun ad e hn => ?_⟩, h3, h4⟩, h5.kept hk (fun hf => (hF _ hf).2.2 rfl), h6⟩
  · exact hk.block _ (h2.2.2 ad e hn) (fun hf => by have := (hF _ hf).1; have := h4 ad e hn; omega)
  · exact Nat.lt_of_lt_of_le (h2.2.2 ad e hn) hk.size
theorem PRd.below {w w' : World} {bb ib : Nat} {ok : Bool} {l : Nm} (h : PRd w bb ib ok l) (hb : Below w.heap.size w w') : PRd w' bb ib ok l := h.kept (Kept.below (F := fun _ => False) hb) fun _ h => h.elim

theorem bytes_set {w : World} {A : Option Addr} {n : Nat} {l : Nm} (h : BytesIn w A n l) {g : Nat} (u : Value) (hg : ∀ ad, A = some ad → 0 < n → ad.block ≠ g) : BytesIn (w.setCell ⟨g, 0, none⟩ u) A n l :=
  ⟨h.1, h.2.1.keep fun ad e hn => heap_setCell_other _ _ _ (hg ad e hn), fun ad e hn => by rw [size_setCell']; exact h.2.2 ad e hn⟩
/-- It went wrong. -/
theorem PRd.fell {w : World} {bb ib : Nat} {ok : Bool} {l : Nm} (h : PRd w bb ib ok l) : PRd (w.setCell ⟨ib, 0, none⟩ (.bool false)) bb ib false l := by
  obtain ⟨⟨A, n, c, h1, h2, h3, h4⟩, h5, h6⟩ := h
  refine ⟨⟨A, n, c, (heap_setCell_other _ _ _ (show bb ≠ ib by omega)).trans h1, bytes_set h2 _ fun ad e hn => by have := h4 ad e hn; omega, h3, h4⟩, by simpa using h5.set_ 0 (.bool false), h6⟩
set_option maxHeartbeats 4000000 in
set_option maxRecDepth 100000 in
theorem mqNext_any (w : World) (bb ib : Nat) (ok : Bool) (l : Nm) (h : PRd w bb ib ok l) (most : Nat) (hm : most ≤ 1099511627776) :
    Calls Tryz.prog 119 #[.int .i64 most, .pointer (some ⟨bb, 0, none⟩), .pointer (some ⟨ib, 0, none⟩)] w fun e w' => e = .returned (.int .i64 (pN ok l most).1) ∧ PRd w' bb ib (pN ok l most).2.1 (pN ok l most).2.2 ∧ Kept (fun i => i = bb ∨ i = ib) w w' := by
  have HFELL := Lib.hid h.fell
  obtain ⟨⟨A, n, c, h1, h2, h3, h4⟩, h5, h6⟩ := h
  have hln : l.length = n := by have := h2.2.1.len; simpa using this
  obtain ⟨v, k, e, hg⟩ : ∃ v k e, getL l = (v, k, e) := ⟨_, _, _, rfl⟩
  obtain ⟨R, hR⟩ : ∃ R, R = pN ok l most := ⟨_, rfl⟩
  rw [← hR]
  have hR0 := hR
  unfold pN at hR
  rw [hg] at hR
  simp only at hR
  have hcall := lGet_any w A n c l h2
  rw [hg] at hcall
  unfold gotV at hcall
  simp only at hcall
  have HCG := Lib.hid hcall
  have HRR := Lib.hid hR
  have HB1 := Lib.hid h1
  have HB2 := Lib.hid h2
  have HB5 := Lib.hid h5
  have HB4 := Lib.hid h4
  have HLN := Lib.hid hln
  have HG := Lib.hid hg
  have c0 := h1.cell 0
  have z0 := h1.frozen 0
  have c5 := h5.cell 0
  have z5 := h5.frozen 0
  simp only [List.getElem?_toArray, List.getElem?_cons_zero, List.getElem?_cons_succ] at c0 c5
  have hw2 : IntKind.u64.wrap (most : Int) = (most : Int) := IntWalk.u64_in _ (by omega)
  clear hR hR0 hcall h1 h2 h5 h4 hln hg
  by_cases he : e = 0
  · subst he
    obtain ⟨g1, g2, g3, g4, g5⟩ := getL_inv HG.out
    rw [HLN.out] at g3
    by_cases hv : v ≤ most
    · have HE : Hid (R = (v, ok, l.drop k)) := Lib.hid (by rw [HRR.out, if_pos ⟨rfl, hv⟩])
      have hv' : ¬ (most : Int) < (v : Int) := by omega
      have hw1 : IntKind.i64.wrap (v : Int) = (v : Int) := IntWalk.i64_in _ (by omega)
      have hsl := fun u : World => slice_from u A n c k g3
      clear g4 HRR
      go_enter Tryz.func119, Tryz.ntmps119
      go_wp2_with fail
      refine HCG.out.mono ?_
      rintro e w2 ⟨rfl, e2⟩
      have e3 := e2.symm
      subst e3
      clear e2
      go_wp2
      go_ret
      rw [HE.out]
      refine ⟨rfl, ⟨⟨cutAddr A k c, n - k, c - k, by simpa using HB1.out.set_ 0 _, ?_, by omega, ?_⟩, ?_, h6⟩, (Kept.refl _ w).setCell (.inl (.inl rfl)) _⟩
      · have hs := HB2.out.sub h3 k n g3 (Nat.le_refl _)
        rw [List.take_of_length_le (by have := HLN.out; omega)] at hs
        refine bytes_set hs _ fun ad e hn => ?_
        unfold cutAddr at e
        split at e
        · omega
        · cases A with
          | none => cases e
          | some a => cases e; rw [addBlock]; have := HB4.out a rfl (by omega); omega
      · intro ad e hn
        unfold cutAddr at e
        split at e
        · omega
        · cases A with
          | none => cases e
          | some a => cases e; rw [addBlock]; exact HB4.out a rfl (by omega)
      · exact (heap_setCell_other _ _ _ (show ib ≠ bb by omega)).trans HB5.out
    · have HE : Hid (R = (0, false, l)) := Lib.hid (by rw [HRR.out, if_neg (fun h => hv h.2)])
      have hv' : (most : Int) < (v : Int) := by omega
      clear g4 HRR
      go_enter Tryz.func119, Tryz.ntmps119
      go_wp2_with fail
      refine HCG.out.mono ?_
      rintro e w2 ⟨rfl, e2⟩
      have e3 := e2.symm
      subst e3
      clear e2
      go_wp2
      go_ret
      rw [HE.out]
      exact ⟨rfl, HFELL.out, (Kept.refl _ w).setCell (.inl (.inr rfl)) _⟩
  · have HE : Hid (R = (0, false, l)) := Lib.hid (by rw [HRR.out, if_neg (fun h => he h.1)])
    have he' : (e != 0) = true := by simpa using he
    clear HRR
    go_enter Tryz.func119, Tryz.ntmps119
    go_wp2_with fail
    refine HCG.out.mono ?_
    rintro e w2 ⟨rfl, e2⟩
    have e3 := e2.symm
    subst e3
    clear e2
    go_wp2
    go_ret
    rw [HE.out]
    exact ⟨rfl, HFELL.out, (Kept.refl _ w).setCell (.inl (.inr rfl)) _⟩
/-- The same, the greatest number as it stands in the text. -/
theorem mqNext_lit (w : World) (bb ib : Nat) (ok : Bool) (l : Nm) (h : PRd w bb ib ok l) (most : Nat) (hm : most ≤ 1099511627776) (mi : Int) (hmi : (most : Int) = mi) :
    Calls Tryz.prog 119 #[.int .i64 mi, .pointer (some ⟨bb, 0, none⟩), .pointer (some ⟨ib, 0, none⟩)] w fun e w' => e = .returned (.int .i64 (pN ok l most).1) ∧ PRd w' bb ib (pN ok l most).2.1 (pN ok l most).2.2 ∧ Kept (fun i => i = bb ∨ i = ib) w w' := by
  rw [← hmi]
  exact mqNext_any w bb ib ok l h most hm
end Go.Proofs.YtmhiekbpmoikfaaGreatDoor
namespace Go.Proofs.YtmhiekbpmoikfaaGreatDoor
open Go.RowKit Go.Maps Go.WideMaps
set_option linter.unusedSimpArgs false

/-- The reader and a manifest that grows. -/
structure MqRd (w0 : World) (bb ib mb : Nat) (s : Bool × Nm) (g x : Int) (L : List Rf) (w : World) : Prop where
  rd : PRd w bb ib s.1 s.2
  man : ∃ v, Blk w mb 24 #[.int .i64 g, .int .i64 x, v] ∧ w.ownsRow (mb + 1) 88 4 v L.length (L.flatMap rfCells)
  kept : Kept (fun i => i = bb ∨ i = ib ∨ mb ≤ i) w0 w
/-- What read gives. -/
def ReadOut (w : World) (x : Nm) (e : Ending) (w' : World) : Prop := Below w.heap.size w w' ∧ if pIs x = true then ∃ v, e = .returned (.tuple #[.agg #[.int .i64 (pRead x).gen, .int .i64 (pRead x).next, v], .bool true]) ∧ w'.ownsRow w.heap.size 88 4 v (pRead x).refs.length ((pRead x).refs.flatMap rfCells)
  else e = .returned (.tuple #[.agg #[.int .i64 0, .int .i64 0, .slice none 0 0], .bool false])

set_option maxHeartbeats 16000000 in
set_option maxRecDepth 100000 in
theorem mqRead_any (w : World) (A : Option Addr) (n c : Nat) (x0 : Nm) (hx : BytesIn w A n x0) (hc : n ≤ c) :
    Calls Tryz.prog 59 #[.slice A n c] w (ReadOut w x0) := by
  obtain ⟨i0, hi0, hz0, hz1, hz2⟩ := info_parts refInfo
  obtain ⟨bb, hbb⟩ : ∃ b, b = w.heap.size := ⟨_, rfl⟩
  obtain ⟨ib, hib⟩ : ∃ i, i = bb + 1 + 1 := ⟨_, rfl⟩
  obtain ⟨w1, hw1⟩ : ∃ w1, w1 = ((w.alloc (.cells #[.slice A n c] 25)).alloc (.cells #[.int .i64 0, .int .i64 0, .slice none 0 0] 24)).alloc (.cells #[.bool true] 4) := ⟨_, rfl⟩
  have hb1 : Below w.heap.size w w1 := by rw [hw1]; exact (((Below.refl _ w).alloc (Nat.le_refl _) _).alloc (by simp) _).alloc (by simp; omega) _
  have hs1 : w1.heap.size = bb + 3 := by rw [hw1, hbb]; simp
  have hr1 : PRd w1 bb ib true x0 := by
    refine ⟨⟨A, n, c, ?_, hx.below hb1, hc, fun ad e hn => by rw [hbb]; exact hx.2.2 ad e hn⟩, ?_, by omega⟩
    · rw [hw1, hbb]
      exact ((Blk.new _ _ _).alloc _).alloc _
    · have := Blk.new ((w.alloc (.cells #[.slice A n c] 25)).alloc (.cells #[.int .i64 0, .int .i64 0, .slice none 0 0] 24)) 4 #[.bool true]
      rw [World.size_alloc, World.size_alloc] at this
      rw [hw1, hib, hbb]
      exact this
  have hres : Blk w1 (bb + 1) 24 #[.int .i64 0, .int .i64 0, .slice none 0 0] := by
    have := Blk.new (w.alloc (.cells #[.slice A n c] 25)) 24 #[.int .i64 0, .int .i64 0, .slice none 0 0]
    rw [World.size_alloc] at this
    rw [hw1, hbb]
    exact this.alloc _
  have HW1 := Lib.hid hw1
  have HBB := Lib.hid hbb
  have HB1 := Lib.hid hb1
  have HR1 := Lib.hid hr1
  have HRES := Lib.hid hres
  have hbbw1 : bb ≤ w.heap.size := by omega
  have hbbw2 : w.heap.size ≤ bb := by omega
  have HIB := Lib.hid hib
  have hiba1 : bb + 2 ≤ ib := by omega
  have hiba2 : ib ≤ bb + 2 := by omega
  clear hw1 hb1 hr1 hres hx hbb hib
  obtain ⟨a, oa, la, ha⟩ : ∃ a o l, pA x0 = (a, o, l) := ⟨_, _, _, rfl⟩
  obtain ⟨b, ob, lb, hb⟩ : ∃ a o l, pN oa la bigN = (a, o, l) := ⟨_, _, _, rfl⟩
  obtain ⟨k, ok, lk, hk⟩ : ∃ a o l, pN ob lb 24 = (a, o, l) := ⟨_, _, _, rfl⟩
  have hka : k ≤ 24 := by have := (pN_most ob lb 24).1; rw [hk] at this; exact this
  have hpB : pB x0 = (b, ob, lb) := by unfold pB; rw [ha]; exact hb
  have hpC : pC x0 = (k, ok, lk) := by unfold pC; rw [hpB]; exact hk
  have hEnd : pEnd x0 = pUp (ok, lk) k := by unfold pEnd; rw [hpC]
  have hRead : pRead x0 = ⟨(a : Int), (b : Int), (pUp (ok, lk) k).1⟩ := by unfold pRead; rw [ha, hpB, hEnd]
  have hIs : pIs x0 = ((pUp (ok, lk) k).2.1 && decide ((pUp (ok, lk) k).2.2.length = 0)) := by unfold pIs; rw [hEnd]
  have HREAD := Lib.hid hRead
  have HIS := Lib.hid hIs
  have HPL := Lib.hid (pUp_len (ok, lk) k)
  have hN1 := mqNext_lit w1 bb ib true x0 HR1.out bigN (by unfold bigN; omega) 1099511627776 (by decide)
  have ha' : pN true x0 bigN = (a, oa, la) := ha
  rw [ha'] at hN1
  unfold bigN at hb
  have HN1 := Lib.hid hN1
  have HHB := Lib.hid hb
  have HHK := Lib.hid hk
  clear hN1 ha ha' hb hk hpB hpC hEnd hRead hIs
  go_enter Tryz.func59, Tryz.ntmps59
  go_wp2_with fail
  rw [← HW1.out, ← HBB.out, ← HIB.out]
  refine HN1.out.mono ?_
  rintro e w2 ⟨rfl, hr2, hk2⟩
  have hN2 := mqNext_lit w2 bb ib oa la hr2 1099511627776 (by omega) 1099511627776 (by decide)
  rw [HHB.out] at hN2
  have HN2 := Lib.hid hN2
  have HK2 := Lib.hid hk2
  clear hr2 hk2 hN2 HN1
  go_wp2_with fail
  refine HN2.out.mono ?_
  rintro e w3 ⟨rfl, hr3, hk3⟩
  have HK3 : Hid (Kept (fun i => i = bb ∨ i = ib) w1 w3) := Lib.hid (HK2.out.trans hk3 (fun _ _ h => h))
  have hs3 : bb + 3 ≤ w3.heap.size := by have := HK3.out.size; omega
  obtain ⟨mb, hmb⟩ : ∃ m, m = w3.heap.size := ⟨_, rfl⟩
  obtain ⟨w4, hw4⟩ : ∃ z, z = w3.alloc (.cells #[.int .i64 a, .int .i64 b, .slice none 0 0] 24) := ⟨_, rfl⟩
  have hb4 : Below w3.heap.size w3 w4 := by rw [hw4]; exact (Below.refl _ w3).alloc (Nat.le_refl _) _
  have hr4 := hr3.below hb4
  have hm4 : Blk w4 mb 24 #[.int .i64 a, .int .i64 b, .slice none 0 0] := by rw [hw4, hmb]; exact Blk.new _ _ _
  have hs4 : w4.heap.size = mb + 1 := by rw [hw4, hmb]; simp
  have HRES4 : Hid (Blk w4 (bb + 1) 24 #[.int .i64 0, .int .i64 0, .slice none 0 0]) := Lib.hid ((HRES.out.kept HK3.out (by omega)).below hb4 (HRES.out.kept HK3.out (by omega)).lt)
  have hN4 := mqNext_lit w4 bb ib ob lb hr4 24 (by omega) 24 (by decide)
  rw [HHK.out] at hN4
  have HN4 := Lib.hid hN4
  have HM4 := Lib.hid hm4
  have HB4 : Hid (Below w.heap.size w w4) := Lib.hid (by
    have h1 : Below w.heap.size w w3 := HB1.out.trans (HK3.out.toBelow HB1.out.size (fun i hi => by omega))
    exact below_then h1 hb4 h1.size)
  have HW4 := Lib.hid hw4
  have HMB := Lib.hid hmb
  have hmbb : bb + 3 ≤ mb := by omega
  clear hr3 hk3 hb4 hr4 hm4 hN4 hw4 hmb HN2 HK2 HK3 HRES HB1 HR1 hs3
  go_wp2_with fail
  rw [← HW4.out, ← HMB.out]
  refine HN4.out.mono ?_
  rintro e w5 ⟨rfl, hr5, hk5⟩
  have HRD5 : Hid (MqRd w4 bb ib mb (ok, lk) a b [] w5) := Lib.hid ⟨hr5, ⟨_, HM4.out.kept hk5 (by omega), World.ownsRow_nil _ _ _ _⟩, hk5.mono (fun i h => by omega)⟩
  have hiba : bb < ib ∧ ib < mb := by omega
  clear hr5 hk5 HN4
  go_wp2_with fail
  go_loopw [15] (fun iv wr => ∃ (i : Nat), i ≤ k ∧ iv = .int .i64 i ∧ MqRd w4 bb ib mb (pUp (ok, lk) i).2 a b (pUp (ok, lk) i).1 wr) (fun iv _ => k - (intOf iv).toNat)
  case atStart => exact ⟨0, by omega, rfl, HRD5.out⟩
  case round =>
    obtain ⟨i, hi, rfl, hrd, ⟨v, hmv, hov⟩, hkr⟩ := hrel
    have hul := pUp_len (ok, lk) i
    have HSTEP : Hid (pUp (ok, lk) (i + 1) = ((pUp (ok, lk) i).1 ++ [(pRef (pUp (ok, lk) i).2).1], (pRef (pUp (ok, lk) i).2).2)) := Lib.hid rfl
    obtain ⟨L, o0, l0, hu⟩ : ∃ L o l, pUp (ok, lk) i = (L, o, l) := ⟨_, _, _, rfl⟩
    rw [hu] at hrd hov hul HSTEP
    simp only at hrd hov hul HSTEP
    obtain ⟨ln, hln⟩ : ∃ ln, ln = L.length := ⟨_, rfl⟩
    rw [← hln] at hov hul
    obtain ⟨Av, cv, rfl⟩ := own_slice hov
    have HUU := Lib.hid hu
    have HR0 := Lib.hid hrd
    have HB := Lib.hid hmv
    have HO := Lib.hid hov
    have HK0r := Lib.hid hkr
    have HLN := Lib.hid hln
    have hsz := hkr.size
    obtain ⟨v, hv⟩ : ∃ v, v = Value.slice Av ln cv := ⟨_, rfl⟩
    rw [← hv] at HB HO
    have HV := Lib.hid hv
    have HNB : Hid (¬ (mb = bb ∨ mb = ib)) := Lib.hid (by omega)
    have hul1 : ln ≤ i := by omega
    have hul2 : i ≤ ln := by omega
    clear hrd hmv hov hkr hu hln HRD5 hv hul
    rcases Nat.lt_or_ge i k with hlt | hge
    · have hlt' : (i : Int) < (k : Int) := by omega
      have pi : (0 : Int) ≤ (i : Int) := by omega
      obtain ⟨na, oa, la, ha⟩ : ∃ a o l, pN o0 l0 1099511627776 = (a, o, l) := ⟨_, _, _, rfl⟩
      obtain ⟨nb, obx, lbx, hb⟩ : ∃ a o l, pN oa la 64 = (a, o, l) := ⟨_, _, _, rfl⟩
      obtain ⟨nc, oc, lc, hc⟩ : ∃ a o l, pN obx lbx 16 = (a, o, l) := ⟨_, _, _, rfl⟩
      obtain ⟨nd, od, ld, hd⟩ : ∃ a o l, pN oc lc 1099511627776 = (a, o, l) := ⟨_, _, _, rfl⟩
      have HREF : Hid (pRef (o0, l0) = (⟨(na : Int), (nb : Int), (nc : Int), (nd : Int)⟩, od, ld)) := Lib.hid (by
        unfold pRef bigN
        simp only [ha, hb, hc, hd])
      have HC0 : Hid (∀ u, PRd u bb ib o0 l0 → Calls Tryz.prog 119 #[.int .i64 (1099511627776 : Int), .pointer (some ⟨bb, 0, none⟩), .pointer (some ⟨ib, 0, none⟩)] u fun e w' => e = .returned (.int .i64 na) ∧ PRd w' bb ib oa la ∧ Kept (fun i => i = bb ∨ i = ib) u w') := Lib.hid (fun u hu => by
        have := mqNext_lit u bb ib o0 l0 hu 1099511627776 (by omega) 1099511627776 (by decide)
        rw [ha] at this
        exact this)
      have HC1 : Hid (∀ u, PRd u bb ib oa la → Calls Tryz.prog 119 #[.int .i64 (64 : Int), .pointer (some ⟨bb, 0, none⟩), .pointer (some ⟨ib, 0, none⟩)] u fun e w' => e = .returned (.int .i64 nb) ∧ PRd w' bb ib obx lbx ∧ Kept (fun i => i = bb ∨ i = ib) u w') := Lib.hid (fun u hu => by
        have := mqNext_lit u bb ib oa la hu 64 (by omega) 64 (by decide)
        rw [hb] at this
        exact this)
      have HC2 : Hid (∀ u, PRd u bb ib obx lbx → Calls Tryz.prog 119 #[.int .i64 (16 : Int), .pointer (some ⟨bb, 0, none⟩), .pointer (some ⟨ib, 0, none⟩)] u fun e w' => e = .returned (.int .i64 nc) ∧ PRd w' bb ib oc lc ∧ Kept (fun i => i = bb ∨ i = ib) u w') := Lib.hid (fun u hu => by
        have := mqNext_lit u bb ib obx lbx hu 16 (by omega) 16 (by decide)
        rw [hc] at this
        exact this)
      have HC3 : Hid (∀ u, PRd u bb ib oc lc → Calls Tryz.prog 119 #[.int .i64 (1099511627776 : Int), .pointer (some ⟨bb, 0, none⟩), .pointer (some ⟨ib, 0, none⟩)] u fun e w' => e = .returned (.int .i64 nd) ∧ PRd w' bb ib od ld ∧ Kept (fun i => i = bb ∨ i = ib) u w') := Lib.hid (fun u hu => by
        have := mqNext_lit u bb ib oc lc hu 1099511627776 (by omega) 1099511627776 (by decide)
        rw [hd] at this
        exact this)
      have HS1 : Hid (pUp (ok, lk) (i + 1) = (L ++ [⟨(na : Int), (nb : Int), (nc : Int), (nd : Int)⟩], od, ld)) := Lib.hid (by rw [HSTEP.out, HREF.out])
      have HFIN : Hid (∀ (u0 u' : World) (v' : Value), PRd u0 bb ib od ld → Kept (fun i => i = bb ∨ i = ib) wr u0 → u'.ownsRow (mb + 1) 88 4 v' (ln + 1) (L.flatMap rfCells ++ [.int .i64 na, .int .i64 nb, .int .i64 nc, .int .i64 nd]) → (u0.alloc (.cells #[.int .i64 na, .int .i64 nb, .int .i64 nc, .int .i64 nd] 88)).grownBy u' v.ownBlock → Blk u' mb 24 #[.int .i64 a, .int .i64 b, v] → MqRd w4 bb ib mb (pUp (ok, lk) (i + 1)).2 a b (pUp (ok, lk) (i + 1)).1 (u'.setCell ⟨mb, 2, none⟩ v')) := Lib.hid (fun u0 u' v' h1 h2 h3 h4 h5 => by
        rw [HS1.out]
        have hk0 : Kept (fun i => mb ≤ i) u0 u' := ((Kept.refl (fun i => mb ≤ i) u0).alloc _).grown h4 (fun g hg => .inl (by have := (HO.out.lt g hg).1; omega))
        have hk : Kept (fun i => mb ≤ i) u0 (u'.setCell ⟨mb, 2, none⟩ v') := hk0.setCell (.inl (Nat.le_refl mb)) v'
        refine ⟨h1.kept hk (fun i hi => by omega), ⟨v', by simpa using h5.set_ 2 v', ?_⟩, ?_⟩
        · have := ownsRow_block (w' := u'.setCell ⟨mb, 2, none⟩ v') h3 fun g hg => heap_setCell_other _ _ _ (by have := (h3.lt g hg).1; simp only; omega)
          rw [List.length_append, List.length_singleton, ← HLN.out, List.flatMap_append]
          simpa [rfCells] using this
        · exact (HK0r.out.trans h2 (fun i _ h => by omega)).trans hk (fun i _ h => .inr (.inr h)))
      have HK0 : Hid (Kept (fun i => i = bb ∨ i = ib) wr wr.drew) := Lib.hid (Kept.refl _ wr).drew
      have HR00 := HR0
      clear HR0
      have HR0 : Hid (PRd wr.drew bb ib o0 l0) := Lib.hid (HR00.out.below (Below.refl _ wr).drew)
      clear ha hb hc hd HR00
      go_wp2_with fail
      refine wp_region_held_drew (S := fun _ => True) (by kernel_rfl) trivial (fun hHeld => ?_)
      obtain ⟨u0, hu0⟩ : ∃ zz, zz = wr.drew := ⟨_, rfl⟩
      try rw [← hu0] at hHeld
      rw [← hu0] at HK0 HR0 ⊢
      clear hu0
      refine wpAnyH_take (i := 0) (oi := ?oia10) (v := ?va10) ?hia10 (by kernel_rfl) (by kernel_rfl) (by kernel_rfl) ?hQa10 (Or.inl ⟨?hwa10, ?hya10⟩) (by assumption) ?resta10
      case hia10 => (first | (simp only [List.getElem?_toArray, List.getElem?_cons_zero, List.getElem?_cons_succ]; rfl) | rfl)
      case hQa10 => exact fun _ _ _ h => h
      case hwa10 => rfl
      case hya10 => ((intro w hSw; go_simp); first | done | with_reducible rfl)
      try simp only [Act.put, List.setIfInBounds_toArray, List.set_cons_zero, List.set_cons_succ]
      refine wpAnyH_take (i := 2) (oi := ?oia22) (v := ?va22) ?hia22 (by kernel_rfl) (by kernel_rfl) (by kernel_rfl) ?hQa22 (Or.inl ⟨?hwa22, ?hya22⟩) (by assumption) ?resta22
      case hia22 => (first | (simp only [List.getElem?_toArray, List.getElem?_cons_zero, List.getElem?_cons_succ]; rfl) | rfl)
      case hQa22 => exact fun _ _ _ h => h
      case hwa22 => rfl
      case hya22 => ((intro w hSw; go_simp); first | done | with_reducible rfl)
      try simp only [Act.put, List.setIfInBounds_toArray, List.set_cons_zero, List.set_cons_succ]
      refine wpAnyH_take (i := 4) (oi := ?oia34) (v := ?va34) ?hia34 (by kernel_rfl) (by kernel_rfl) (by kernel_rfl) ?hQa34 (Or.inl ⟨?hwa34, ?hya34⟩) (by assumption) ?resta34
      case hia34 => (first | (simp only [List.getElem?_toArray, List.getElem?_cons_zero, List.getElem?_cons_succ]; rfl) | rfl)
      case hQa34 => exact fun _ _ _ h => h
      case hwa34 => rfl
      case hya34 => ((intro w hSw; go_simp); first | done | with_reducible rfl)
      try simp only [Act.put, List.setIfInBounds_toArray, List.set_cons_zero, List.set_cons_succ]
      refine wpAnyH_take (i := 6) (oi := ?oia46) (v := ?va46) ?hia46 (by kernel_rfl) (by kernel_rfl) (by kernel_rfl) ?hQa46 (Or.inl ⟨?hwa46, ?hya46⟩) (by assumption) ?resta46
      case hia46 => (first | (simp only [List.getElem?_toArray, List.getElem?_cons_zero, List.getElem?_cons_succ]; rfl) | rfl)
      case hQa46 => exact fun _ _ _ h => h
      case hwa46 => rfl
      case hya46 => ((intro w hSw; go_simp); first | done | with_reducible rfl)
      try simp only [Act.put, List.setIfInBounds_toArray, List.set_cons_zero, List.set_cons_succ]
      refine wpAnyH_take (i := 8) (oi := ?oia58) (v := ?va58) ?hia58 (by kernel_rfl) (by kernel_rfl) (by kernel_rfl) ?hQa58 (Or.inl ⟨?hwa58, ?hya58⟩) (by assumption) ?resta58
      case hia58 => (first | (simp only [List.getElem?_toArray, List.getElem?_cons_zero, List.getElem?_cons_succ]; rfl) | rfl)
      case hQa58 => exact fun _ _ _ h => h
      case hwa58 => rfl
      case hya58 => ((intro w hSw; go_simp); first | done | with_reducible rfl)
      try simp only [Act.put, List.setIfInBounds_toArray, List.set_cons_zero, List.set_cons_succ]
      refine wpAnyH_ready (rs := [1, 3]) (by kernel_rfl) (by simp) ?_
      refine AllReadyH.cons (o := ?oa6) ?ha6 ?sa6 (AllReadyH.cons (o := ?oa7) ?ha7 ?sa7 AllReadyH.nil)
      case ha6 => (simp only [List.getElem?_toArray, List.getElem?_cons_zero, List.getElem?_cons_succ]; rfl)
      case ha7 => (simp only [List.getElem?_toArray, List.getElem?_cons_zero, List.getElem?_cons_succ]; rfl)
      case sa6 =>
        intro K hK
        have yq1 := ((HB.out.kept HK0.out HNB.out) : Blk _ mb 24 _).cell 2
        simp only [List.getElem?_toArray, List.getElem?_cons_zero, List.getElem?_cons_succ] at yq1
        go_simp
        clear yq1
        refine hK.out _ _ trivial (fun ha8 => ?_)
        clear hK K
        try simp only [Act.put, List.setIfInBounds_toArray, List.set_cons_zero, List.set_cons_succ]
        refine wpAnyH_ready (rs := [3]) (by kernel_rfl) (by simp) ?_
        refine AllReadyH.cons (o := ?oa9) ?ha9 ?sa9 AllReadyH.nil
        case ha9 => (simp only [List.getElem?_toArray, List.getElem?_cons_zero, List.getElem?_cons_succ]; rfl)
        case sa9 =>
          intro K hK
          go_simp
          refine (HC0.out u0 HR0.out).mono ?_
          rintro e uq2 ⟨rfl, hrq5, hkq6⟩
          have Rq3 := Lib.hid hrq5
          have Kq4 : Hid (Kept (fun i => i = bb ∨ i = ib) wr uq2) := Lib.hid (HK0.out.trans hkq6 (fun _ _ h => h))
          clear hrq5 hkq6
          go_wp2_with fail
          refine hK.out _ _ trivial (fun ha10 => ?_)
          clear hK K
          try simp only [Act.put, List.setIfInBounds_toArray, List.set_cons_zero, List.set_cons_succ]
          refine wpAnyH_ready (rs := [5]) (by kernel_rfl) (by simp) ?_
          refine AllReadyH.cons (o := ?oa11) ?ha11 ?sa11 AllReadyH.nil
          case ha11 => (simp only [List.getElem?_toArray, List.getElem?_cons_zero, List.getElem?_cons_succ]; rfl)
          case sa11 =>
            intro K hK
            go_simp
            refine (HC1.out uq2 Rq3.out).mono ?_
            rintro e uq7 ⟨rfl, hrq10, hkq11⟩
            have Rq8 := Lib.hid hrq10
            have Kq9 : Hid (Kept (fun i => i = bb ∨ i = ib) wr uq7) := Lib.hid (Kq4.out.trans hkq11 (fun _ _ h => h))
            clear hrq10 hkq11
            go_wp2_with fail
            refine hK.out _ _ trivial (fun ha12 => ?_)
            clear hK K
            try simp only [Act.put, List.setIfInBounds_toArray, List.set_cons_zero, List.set_cons_succ]
            refine wpAnyH_ready (rs := [7]) (by kernel_rfl) (by simp) ?_
            refine AllReadyH.cons (o := ?oa13) ?ha13 ?sa13 AllReadyH.nil
            case ha13 => (simp only [List.getElem?_toArray, List.getElem?_cons_zero, List.getElem?_cons_succ]; rfl)
            case sa13 =>
              intro K hK
              go_simp
              refine (HC2.out uq7 Rq8.out).mono ?_
              rintro e uq12 ⟨rfl, hrq15, hkq16⟩
              have Rq13 := Lib.hid hrq15
              have Kq14 : Hid (Kept (fun i => i = bb ∨ i = ib) wr uq12) := Lib.hid (Kq9.out.trans hkq16 (fun _ _ h => h))
              clear hrq15 hkq16
              go_wp2_with fail
              refine hK.out _ _ trivial (fun ha14 => ?_)
              clear hK K
              try simp only [Act.put, List.setIfInBounds_toArray, List.set_cons_zero, List.set_cons_succ]
              refine wpAnyH_ready (rs := [9]) (by kernel_rfl) (by simp) ?_
              refine AllReadyH.cons (o := ?oa15) ?ha15 ?sa15 AllReadyH.nil
              case ha15 => (simp only [List.getElem?_toArray, List.getElem?_cons_zero, List.getElem?_cons_succ]; rfl)
              case sa15 =>
                intro K hK
                go_simp
                refine (HC3.out uq12 Rq13.out).mono ?_
                rintro e uq17 ⟨rfl, hrq20, hkq21⟩
                have Rq18 := Lib.hid hrq20
                have Kq19 : Hid (Kept (fun i => i = bb ∨ i = ib) wr uq17) := Lib.hid (Kq14.out.trans hkq21 (fun _ _ h => h))
                clear hrq20 hkq21
                go_wp2_with fail
                refine hK.out _ _ trivial (fun ha16 => ?_)
                clear hK K
                try simp only [Act.put, List.setIfInBounds_toArray, List.set_cons_zero, List.set_cons_succ]
                refine wpAnyH_take (i := 10) (oi := ?oia1710) (v := ?va1710) ?hia1710 (by kernel_rfl) (by kernel_rfl) (by kernel_rfl) ?hQa1710 (Or.inl ⟨?hwa1710, ?hya1710⟩) (by assumption) ?resta1710
                case hia1710 => (first | (simp only [List.getElem?_toArray, List.getElem?_cons_zero, List.getElem?_cons_succ]; rfl) | rfl)
                case hQa1710 => exact fun _ _ _ h => h
                case hwa1710 => rfl
                case hya1710 => ((intro w hSw; go_simp); first | done | with_reducible rfl)
                try simp only [Act.put, List.setIfInBounds_toArray, List.set_cons_zero, List.set_cons_succ]
                refine wpAnyH_ready (rs := [11]) (by kernel_rfl) (by simp) ?_
                refine AllReadyH.cons (o := ?oa18) ?ha18 ?sa18 AllReadyH.nil
                case ha18 => (simp only [List.getElem?_toArray, List.getElem?_cons_zero, List.getElem?_cons_succ]; rfl)
                case sa18 =>
                  intro K hK
                  go_simp
                  refine hK.out _ _ trivial (fun ha19 => ?_)
                  clear hK K
                  try simp only [Act.put, List.setIfInBounds_toArray, List.set_cons_zero, List.set_cons_succ]
                  refine wpAnyH_ready (rs := [12]) (by kernel_rfl) (by simp) ?_
                  refine AllReadyH.cons (o := ?oa20) ?ha20 ?sa20 AllReadyH.nil
                  case ha20 => (simp only [List.getElem?_toArray, List.getElem?_cons_zero, List.getElem?_cons_succ]; rfl)
                  case sa20 =>
                    intro K hK
                    refine step_append_rec _ rfl (.tmp 18) (.tmp 28) 22 rfl (mb + 1) 88 i0 _ 4 32 Tryz.underlying22 hi0 hz0 hz1 hz2 rfl (by decide) v ln (L.flatMap rfCells) rfl (World.ownsRow.alloc (ownsRow_block HO.out fun g hg => Kq19.out.block g (HO.out.lt g hg).2 (by have := (HO.out.lt g hg).1; omega)) _) ⟨uq17.heap.size, 0, none⟩ 1 1 [.int .i64 na, .int .i64 nb, .int .i64 nc, .int .i64 nd] rfl rfl (by intro i u hu; rw [Addr.add_mid, cell_of_row _ _ _ _ _ _ (heap_alloc_new uq17 _)]; simpa using hu) (by intro u hu; simp at hu; rcases hu with rfl | rfl | rfl | rfl <;> rfl) (by unfold maxLen; omega) (by omega) (by have := Kq19.out.size; simp; omega) ?_
                    intro vq23 uq22 hwq24 hgq25 hlq26
                    obtain ⟨vq23A, vq23c, rfl⟩ := own_slice hwq24
                    have Oq27 := Lib.hid hwq24
                    have Gq28 := Lib.hid hgq25
                    clear hwq24 hgq25 hlq26
                    have HMGq28 : Hid (Blk uq22 mb 24 #[.int .i64 a, .int .i64 b, v]) := Lib.hid (((HB.out.kept Kq19.out HNB.out).alloc _).grown Gq28.out (fun e0 => by have := (HO.out.lt _ e0.symm).1; omega))
                    refine hK.out _ _ trivial (fun ha21 => ?_)
                    clear hK K
                    try simp only [Act.put, List.setIfInBounds_toArray, List.set_cons_zero, List.set_cons_succ]
                    refine wpAnyH_take (i := 13) (oi := ?oia2213) (v := ?va2213) ?hia2213 (by kernel_rfl) (by kernel_rfl) (by kernel_rfl) ?hQa2213 (Or.inl ⟨?hwa2213, ?hya2213⟩) (by assumption) ?resta2213
                    case hia2213 => (first | (simp only [List.getElem?_toArray, List.getElem?_cons_zero, List.getElem?_cons_succ]; rfl) | rfl)
                    case hQa2213 => exact fun _ _ _ h => h
                    case hwa2213 => rfl
                    case hya2213 => ((intro w hSw; go_simp); first | done | with_reducible rfl)
                    try simp only [Act.put, List.setIfInBounds_toArray, List.set_cons_zero, List.set_cons_succ]
                    refine wpAnyH_ready (rs := [14]) (by kernel_rfl) (by simp) ?_
                    refine AllReadyH.cons (o := ?oa23) ?ha23 ?sa23 AllReadyH.nil
                    case ha23 => (simp only [List.getElem?_toArray, List.getElem?_cons_zero, List.getElem?_cons_succ]; rfl)
                    case sa23 =>
                      intro K hK
                      have yq29 := HMGq28.out.cell 2
                      have zq30 := HMGq28.out.frozen 2
                      simp only [List.getElem?_toArray, List.getElem?_cons_zero, List.getElem?_cons_succ] at yq29
                      go_simp
                      clear yq29 zq30
                      refine hK.out _ _ trivial (fun ha24 => ?_)
                      clear hK K
                      try simp only [Act.put, List.setIfInBounds_toArray, List.set_cons_zero, List.set_cons_succ]
                      refine wpAnyH_done (by kernel_rfl) ?_ _
                      have HF := Lib.hid (HFIN.out uq17 uq22 (.slice vq23A (ln + 1) vq23c) Rq18.out Kq19.out Oq27.out Gq28.out HMGq28.out)
                      go_wp2
                      go_roundw
                      case rel => exact ⟨i + 1, by omega, by go_num, HF.out⟩
                      case measure => simp [intOf]; omega
      case sa7 =>
        intro K hK
        go_simp
        refine (HC0.out u0 HR0.out).mono ?_
        rintro e uq31 ⟨rfl, hrq34, hkq35⟩
        have Rq32 := Lib.hid hrq34
        have Kq33 : Hid (Kept (fun i => i = bb ∨ i = ib) wr uq31) := Lib.hid (HK0.out.trans hkq35 (fun _ _ h => h))
        clear hrq34 hkq35
        go_wp2_with fail
        refine hK.out _ _ trivial (fun ha25 => ?_)
        clear hK K
        try simp only [Act.put, List.setIfInBounds_toArray, List.set_cons_zero, List.set_cons_succ]
        refine wpAnyH_ready (rs := [1, 5]) (by kernel_rfl) (by simp) ?_
        refine AllReadyH.cons (o := ?oa26) ?ha26 ?sa26 (AllReadyH.cons (o := ?oa27) ?ha27 ?sa27 AllReadyH.nil)
        case ha26 => (simp only [List.getElem?_toArray, List.getElem?_cons_zero, List.getElem?_cons_succ]; rfl)
        case ha27 => (simp only [List.getElem?_toArray, List.getElem?_cons_zero, List.getElem?_cons_succ]; rfl)
        case sa26 =>
          intro K hK
          have yq36 := ((HB.out.kept Kq33.out HNB.out) : Blk _ mb 24 _).cell 2
          simp only [List.getElem?_toArray, List.getElem?_cons_zero, List.getElem?_cons_succ] at yq36
          go_simp
          clear yq36
          refine hK.out _ _ trivial (fun ha28 => ?_)
          clear hK K
          try simp only [Act.put, List.setIfInBounds_toArray, List.set_cons_zero, List.set_cons_succ]
          refine wpAnyH_ready (rs := [5]) (by kernel_rfl) (by simp) ?_
          refine AllReadyH.cons (o := ?oa29) ?ha29 ?sa29 AllReadyH.nil
          case ha29 => (simp only [List.getElem?_toArray, List.getElem?_cons_zero, List.getElem?_cons_succ]; rfl)
          case sa29 =>
            intro K hK
            go_simp
            refine (HC1.out uq31 Rq32.out).mono ?_
            rintro e uq37 ⟨rfl, hrq40, hkq41⟩
            have Rq38 := Lib.hid hrq40
            have Kq39 : Hid (Kept (fun i => i = bb ∨ i = ib) wr uq37) := Lib.hid (Kq33.out.trans hkq41 (fun _ _ h => h))
            clear hrq40 hkq41
            go_wp2_with fail
            refine hK.out _ _ trivial (fun ha30 => ?_)
            clear hK K
            try simp only [Act.put, List.setIfInBounds_toArray, List.set_cons_zero, List.set_cons_succ]
            refine wpAnyH_ready (rs := [7]) (by kernel_rfl) (by simp) ?_
            refine AllReadyH.cons (o := ?oa31) ?ha31 ?sa31 AllReadyH.nil
            case ha31 => (simp only [List.getElem?_toArray, List.getElem?_cons_zero, List.getElem?_cons_succ]; rfl)
            case sa31 =>
              intro K hK
              go_simp
              refine (HC2.out uq37 Rq38.out).mono ?_
              rintro e uq42 ⟨rfl, hrq45, hkq46⟩
              have Rq43 := Lib.hid hrq45
              have Kq44 : Hid (Kept (fun i => i = bb ∨ i = ib) wr uq42) := Lib.hid (Kq39.out.trans hkq46 (fun _ _ h => h))
              clear hrq45 hkq46
              go_wp2_with fail
              refine hK.out _ _ trivial (fun ha32 => ?_)
              clear hK K
              try simp only [Act.put, List.setIfInBounds_toArray, List.set_cons_zero, List.set_cons_succ]
              refine wpAnyH_ready (rs := [9]) (by kernel_rfl) (by simp) ?_
              refine AllReadyH.cons (o := ?oa33) ?ha33 ?sa33 AllReadyH.nil
              case ha33 => (simp only [List.getElem?_toArray, List.getElem?_cons_zero, List.getElem?_cons_succ]; rfl)
              case sa33 =>
                intro K hK
                go_simp
                refine (HC3.out uq42 Rq43.out).mono ?_
                rintro e uq47 ⟨rfl, hrq50, hkq51⟩
                have Rq48 := Lib.hid hrq50
                have Kq49 : Hid (Kept (fun i => i = bb ∨ i = ib) wr uq47) := Lib.hid (Kq44.out.trans hkq51 (fun _ _ h => h))
                clear hrq50 hkq51
                go_wp2_with fail
                refine hK.out _ _ trivial (fun ha34 => ?_)
                clear hK K
                try simp only [Act.put, List.setIfInBounds_toArray, List.set_cons_zero, List.set_cons_succ]
                refine wpAnyH_take (i := 10) (oi := ?oia3510) (v := ?va3510) ?hia3510 (by kernel_rfl) (by kernel_rfl) (by kernel_rfl) ?hQa3510 (Or.inl ⟨?hwa3510, ?hya3510⟩) (by assumption) ?resta3510
                case hia3510 => (first | (simp only [List.getElem?_toArray, List.getElem?_cons_zero, List.getElem?_cons_succ]; rfl) | rfl)
                case hQa3510 => exact fun _ _ _ h => h
                case hwa3510 => rfl
                case hya3510 => ((intro w hSw; go_simp); first | done | with_reducible rfl)
                try simp only [Act.put, List.setIfInBounds_toArray, List.set_cons_zero, List.set_cons_succ]
                refine wpAnyH_ready (rs := [11]) (by kernel_rfl) (by simp) ?_
                refine AllReadyH.cons (o := ?oa36) ?ha36 ?sa36 AllReadyH.nil
                case ha36 => (simp only [List.getElem?_toArray, List.getElem?_cons_zero, List.getElem?_cons_succ]; rfl)
                case sa36 =>
                  intro K hK
                  go_simp
                  refine hK.out _ _ trivial (fun ha37 => ?_)
                  clear hK K
                  try simp only [Act.put, List.setIfInBounds_toArray, List.set_cons_zero, List.set_cons_succ]
                  refine wpAnyH_ready (rs := [12]) (by kernel_rfl) (by simp) ?_
                  refine AllReadyH.cons (o := ?oa38) ?ha38 ?sa38 AllReadyH.nil
                  case ha38 => (simp only [List.getElem?_toArray, List.getElem?_cons_zero, List.getElem?_cons_succ]; rfl)
                  case sa38 =>
                    intro K hK
                    refine step_append_rec _ rfl (.tmp 18) (.tmp 28) 22 rfl (mb + 1) 88 i0 _ 4 32 Tryz.underlying22 hi0 hz0 hz1 hz2 rfl (by decide) v ln (L.flatMap rfCells) rfl (World.ownsRow.alloc (ownsRow_block HO.out fun g hg => Kq49.out.block g (HO.out.lt g hg).2 (by have := (HO.out.lt g hg).1; omega)) _) ⟨uq47.heap.size, 0, none⟩ 1 1 [.int .i64 na, .int .i64 nb, .int .i64 nc, .int .i64 nd] rfl rfl (by intro i u hu; rw [Addr.add_mid, cell_of_row _ _ _ _ _ _ (heap_alloc_new uq47 _)]; simpa using hu) (by intro u hu; simp at hu; rcases hu with rfl | rfl | rfl | rfl <;> rfl) (by unfold maxLen; omega) (by omega) (by have := Kq49.out.size; simp; omega) ?_
                    intro vq53 uq52 hwq54 hgq55 hlq56
                    obtain ⟨vq53A, vq53c, rfl⟩ := own_slice hwq54
                    have Oq57 := Lib.hid hwq54
                    have Gq58 := Lib.hid hgq55
                    clear hwq54 hgq55 hlq56
                    have HMGq58 : Hid (Blk uq52 mb 24 #[.int .i64 a, .int .i64 b, v]) := Lib.hid (((HB.out.kept Kq49.out HNB.out).alloc _).grown Gq58.out (fun e0 => by have := (HO.out.lt _ e0.symm).1; omega))
                    refine hK.out _ _ trivial (fun ha39 => ?_)
                    clear hK K
                    try simp only [Act.put, List.setIfInBounds_toArray, List.set_cons_zero, List.set_cons_succ]
                    refine wpAnyH_take (i := 13) (oi := ?oia4013) (v := ?va4013) ?hia4013 (by kernel_rfl) (by kernel_rfl) (by kernel_rfl) ?hQa4013 (Or.inl ⟨?hwa4013, ?hya4013⟩) (by assumption) ?resta4013
                    case hia4013 => (first | (simp only [List.getElem?_toArray, List.getElem?_cons_zero, List.getElem?_cons_succ]; rfl) | rfl)
                    case hQa4013 => exact fun _ _ _ h => h
                    case hwa4013 => rfl
                    case hya4013 => ((intro w hSw; go_simp); first | done | with_reducible rfl)
                    try simp only [Act.put, List.setIfInBounds_toArray, List.set_cons_zero, List.set_cons_succ]
                    refine wpAnyH_ready (rs := [14]) (by kernel_rfl) (by simp) ?_
                    refine AllReadyH.cons (o := ?oa41) ?ha41 ?sa41 AllReadyH.nil
                    case ha41 => (simp only [List.getElem?_toArray, List.getElem?_cons_zero, List.getElem?_cons_succ]; rfl)
                    case sa41 =>
                      intro K hK
                      have yq59 := HMGq58.out.cell 2
                      have zq60 := HMGq58.out.frozen 2
                      simp only [List.getElem?_toArray, List.getElem?_cons_zero, List.getElem?_cons_succ] at yq59
                      go_simp
                      clear yq59 zq60
                      refine hK.out _ _ trivial (fun ha42 => ?_)
                      clear hK K
                      try simp only [Act.put, List.setIfInBounds_toArray, List.set_cons_zero, List.set_cons_succ]
                      refine wpAnyH_done (by kernel_rfl) ?_ _
                      have HF := Lib.hid (HFIN.out uq47 uq52 (.slice vq53A (ln + 1) vq53c) Rq48.out Kq49.out Oq57.out Gq58.out HMGq58.out)
                      go_wp2
                      go_roundw
                      case rel => exact ⟨i + 1, by omega, by go_num, HF.out⟩
                      case measure => simp [intOf]; omega
        case sa27 =>
          intro K hK
          go_simp
          refine (HC1.out uq31 Rq32.out).mono ?_
          rintro e uq61 ⟨rfl, hrq64, hkq65⟩
          have Rq62 := Lib.hid hrq64
          have Kq63 : Hid (Kept (fun i => i = bb ∨ i = ib) wr uq61) := Lib.hid (Kq33.out.trans hkq65 (fun _ _ h => h))
          clear hrq64 hkq65
          go_wp2_with fail
          refine hK.out _ _ trivial (fun ha43 => ?_)
          clear hK K
          try simp only [Act.put, List.setIfInBounds_toArray, List.set_cons_zero, List.set_cons_succ]
          refine wpAnyH_ready (rs := [1, 7]) (by kernel_rfl) (by simp) ?_
          refine AllReadyH.cons (o := ?oa44) ?ha44 ?sa44 (AllReadyH.cons (o := ?oa45) ?ha45 ?sa45 AllReadyH.nil)
          case ha44 => (simp only [List.getElem?_toArray, List.getElem?_cons_zero, List.getElem?_cons_succ]; rfl)
          case ha45 => (simp only [List.getElem?_toArray, List.getElem?_cons_zero, List.getElem?_cons_succ]; rfl)
          case sa44 =>
            intro K hK
            have yq66 := ((HB.out.kept Kq63.out HNB.out) : Blk _ mb 24 _).cell 2
            simp only [List.getElem?_toArray, List.getElem?_cons_zero, List.getElem?_cons_succ] at yq66
            go_simp
            clear yq66
            refine hK.out _ _ trivial (fun ha46 => ?_)
            clear hK K
            try simp only [Act.put, List.setIfInBounds_toArray, List.set_cons_zero, List.set_cons_succ]
            refine wpAnyH_ready (rs := [7]) (by kernel_rfl) (by simp) ?_
            refine AllReadyH.cons (o := ?oa47) ?ha47 ?sa47 AllReadyH.nil
            case ha47 => (simp only [List.getElem?_toArray, List.getElem?_cons_zero, List.getElem?_cons_succ]; rfl)
            case sa47 =>
              intro K hK
              go_simp
              refine (HC2.out uq61 Rq62.out).mono ?_
              rintro e uq67 ⟨rfl, hrq70, hkq71⟩
              have Rq68 := Lib.hid hrq70
              have Kq69 : Hid (Kept (fun i => i = bb ∨ i = ib) wr uq67) := Lib.hid (Kq63.out.trans hkq71 (fun _ _ h => h))
              clear hrq70 hkq71
              go_wp2_with fail
              refine hK.out _ _ trivial (fun ha48 => ?_)
              clear hK K
              try simp only [Act.put, List.setIfInBounds_toArray, List.set_cons_zero, List.set_cons_succ]
              refine wpAnyH_ready (rs := [9]) (by kernel_rfl) (by simp) ?_
              refine AllReadyH.cons (o := ?oa49) ?ha49 ?sa49 AllReadyH.nil
              case ha49 => (simp only [List.getElem?_toArray, List.getElem?_cons_zero, List.getElem?_cons_succ]; rfl)
              case sa49 =>
                intro K hK
                go_simp
                refine (HC3.out uq67 Rq68.out).mono ?_
                rintro e uq72 ⟨rfl, hrq75, hkq76⟩
                have Rq73 := Lib.hid hrq75
                have Kq74 : Hid (Kept (fun i => i = bb ∨ i = ib) wr uq72) := Lib.hid (Kq69.out.trans hkq76 (fun _ _ h => h))
                clear hrq75 hkq76
                go_wp2_with fail
                refine hK.out _ _ trivial (fun ha50 => ?_)
                clear hK K
                try simp only [Act.put, List.setIfInBounds_toArray, List.set_cons_zero, List.set_cons_succ]
                refine wpAnyH_take (i := 10) (oi := ?oia5110) (v := ?va5110) ?hia5110 (by kernel_rfl) (by kernel_rfl) (by kernel_rfl) ?hQa5110 (Or.inl ⟨?hwa5110, ?hya5110⟩) (by assumption) ?resta5110
                case hia5110 => (first | (simp only [List.getElem?_toArray, List.getElem?_cons_zero, List.getElem?_cons_succ]; rfl) | rfl)
                case hQa5110 => exact fun _ _ _ h => h
                case hwa5110 => rfl
                case hya5110 => ((intro w hSw; go_simp); first | done | with_reducible rfl)
                try simp only [Act.put, List.setIfInBounds_toArray, List.set_cons_zero, List.set_cons_succ]
                refine wpAnyH_ready (rs := [11]) (by kernel_rfl) (by simp) ?_
                refine AllReadyH.cons (o := ?oa52) ?ha52 ?sa52 AllReadyH.nil
                case ha52 => (simp only [List.getElem?_toArray, List.getElem?_cons_zero, List.getElem?_cons_succ]; rfl)
                case sa52 =>
                  intro K hK
                  go_simp
                  refine hK.out _ _ trivial (fun ha53 => ?_)
                  clear hK K
                  try simp only [Act.put, List.setIfInBounds_toArray, List.set_cons_zero, List.set_cons_succ]
                  refine wpAnyH_ready (rs := [12]) (by kernel_rfl) (by simp) ?_
                  refine AllReadyH.cons (o := ?oa54) ?ha54 ?sa54 AllReadyH.nil
                  case ha54 => (simp only [List.getElem?_toArray, List.getElem?_cons_zero, List.getElem?_cons_succ]; rfl)
                  case sa54 =>
                    intro K hK
                    refine step_append_rec _ rfl (.tmp 18) (.tmp 28) 22 rfl (mb + 1) 88 i0 _ 4 32 Tryz.underlying22 hi0 hz0 hz1 hz2 rfl (by decide) v ln (L.flatMap rfCells) rfl (World.ownsRow.alloc (ownsRow_block HO.out fun g hg => Kq74.out.block g (HO.out.lt g hg).2 (by have := (HO.out.lt g hg).1; omega)) _) ⟨uq72.heap.size, 0, none⟩ 1 1 [.int .i64 na, .int .i64 nb, .int .i64 nc, .int .i64 nd] rfl rfl (by intro i u hu; rw [Addr.add_mid, cell_of_row _ _ _ _ _ _ (heap_alloc_new uq72 _)]; simpa using hu) (by intro u hu; simp at hu; rcases hu with rfl | rfl | rfl | rfl <;> rfl) (by unfold maxLen; omega) (by omega) (by have := Kq74.out.size; simp; omega) ?_
                    intro vq78 uq77 hwq79 hgq80 hlq81
                    obtain ⟨vq78A, vq78c, rfl⟩ := own_slice hwq79
                    have Oq82 := Lib.hid hwq79
                    have Gq83 := Lib.hid hgq80
                    clear hwq79 hgq80 hlq81
                    have HMGq83 : Hid (Blk uq77 mb 24 #[.int .i64 a, .int .i64 b, v]) := Lib.hid (((HB.out.kept Kq74.out HNB.out).alloc _).grown Gq83.out (fun e0 => by have := (HO.out.lt _ e0.symm).1; omega))
                    refine hK.out _ _ trivial (fun ha55 => ?_)
                    clear hK K
                    try simp only [Act.put, List.setIfInBounds_toArray, List.set_cons_zero, List.set_cons_succ]
                    refine wpAnyH_take (i := 13) (oi := ?oia5613) (v := ?va5613) ?hia5613 (by kernel_rfl) (by kernel_rfl) (by kernel_rfl) ?hQa5613 (Or.inl ⟨?hwa5613, ?hya5613⟩) (by assumption) ?resta5613
                    case hia5613 => (first | (simp only [List.getElem?_toArray, List.getElem?_cons_zero, List.getElem?_cons_succ]; rfl) | rfl)
                    case hQa5613 => exact fun _ _ _ h => h
                    case hwa5613 => rfl
                    case hya5613 => ((intro w hSw; go_simp); first | done | with_reducible rfl)
                    try simp only [Act.put, List.setIfInBounds_toArray, List.set_cons_zero, List.set_cons_succ]
                    refine wpAnyH_ready (rs := [14]) (by kernel_rfl) (by simp) ?_
                    refine AllReadyH.cons (o := ?oa57) ?ha57 ?sa57 AllReadyH.nil
                    case ha57 => (simp only [List.getElem?_toArray, List.getElem?_cons_zero, List.getElem?_cons_succ]; rfl)
                    case sa57 =>
                      intro K hK
                      have yq84 := HMGq83.out.cell 2
                      have zq85 := HMGq83.out.frozen 2
                      simp only [List.getElem?_toArray, List.getElem?_cons_zero, List.getElem?_cons_succ] at yq84
                      go_simp
                      clear yq84 zq85
                      refine hK.out _ _ trivial (fun ha58 => ?_)
                      clear hK K
                      try simp only [Act.put, List.setIfInBounds_toArray, List.set_cons_zero, List.set_cons_succ]
                      refine wpAnyH_done (by kernel_rfl) ?_ _
                      have HF := Lib.hid (HFIN.out uq72 uq77 (.slice vq78A (ln + 1) vq78c) Rq73.out Kq74.out Oq82.out Gq83.out HMGq83.out)
                      go_wp2
                      go_roundw
                      case rel => exact ⟨i + 1, by omega, by go_num, HF.out⟩
                      case measure => simp [intOf]; omega
          case sa45 =>
            intro K hK
            go_simp
            refine (HC2.out uq61 Rq62.out).mono ?_
            rintro e uq86 ⟨rfl, hrq89, hkq90⟩
            have Rq87 := Lib.hid hrq89
            have Kq88 : Hid (Kept (fun i => i = bb ∨ i = ib) wr uq86) := Lib.hid (Kq63.out.trans hkq90 (fun _ _ h => h))
            clear hrq89 hkq90
            go_wp2_with fail
            refine hK.out _ _ trivial (fun ha59 => ?_)
            clear hK K
            try simp only [Act.put, List.setIfInBounds_toArray, List.set_cons_zero, List.set_cons_succ]
            refine wpAnyH_ready (rs := [1, 9]) (by kernel_rfl) (by simp) ?_
            refine AllReadyH.cons (o := ?oa60) ?ha60 ?sa60 (AllReadyH.cons (o := ?oa61) ?ha61 ?sa61 AllReadyH.nil)
            case ha60 => (simp only [List.getElem?_toArray, List.getElem?_cons_zero, List.getElem?_cons_succ]; rfl)
            case ha61 => (simp only [List.getElem?_toArray, List.getElem?_cons_zero, List.getElem?_cons_succ]; rfl)
            case sa60 =>
              intro K hK
              have yq91 := ((HB.out.kept Kq88.out HNB.out) : Blk _ mb 24 _).cell 2
              simp only [List.getElem?_toArray, List.getElem?_cons_zero, List.getElem?_cons_succ] at yq91
              go_simp
              clear yq91
              refine hK.out _ _ trivial (fun ha62 => ?_)
              clear hK K
              try simp only [Act.put, List.setIfInBounds_toArray, List.set_cons_zero, List.set_cons_succ]
              refine wpAnyH_ready (rs := [9]) (by kernel_rfl) (by simp) ?_
              refine AllReadyH.cons (o := ?oa63) ?ha63 ?sa63 AllReadyH.nil
              case ha63 => (simp only [List.getElem?_toArray, List.getElem?_cons_zero, List.getElem?_cons_succ]; rfl)
              case sa63 =>
                intro K hK
                go_simp
                refine (HC3.out uq86 Rq87.out).mono ?_
                rintro e uq92 ⟨rfl, hrq95, hkq96⟩
                have Rq93 := Lib.hid hrq95
                have Kq94 : Hid (Kept (fun i => i = bb ∨ i = ib) wr uq92) := Lib.hid (Kq88.out.trans hkq96 (fun _ _ h => h))
                clear hrq95 hkq96
                go_wp2_with fail
                refine hK.out _ _ trivial (fun ha64 => ?_)
                clear hK K
                try simp only [Act.put, List.setIfInBounds_toArray, List.set_cons_zero, List.set_cons_succ]
                refine wpAnyH_take (i := 10) (oi := ?oia6510) (v := ?va6510) ?hia6510 (by kernel_rfl) (by kernel_rfl) (by kernel_rfl) ?hQa6510 (Or.inl ⟨?hwa6510, ?hya6510⟩) (by assumption) ?resta6510
                case hia6510 => (first | (simp only [List.getElem?_toArray, List.getElem?_cons_zero, List.getElem?_cons_succ]; rfl) | rfl)
                case hQa6510 => exact fun _ _ _ h => h
                case hwa6510 => rfl
                case hya6510 => ((intro w hSw; go_simp); first | done | with_reducible rfl)
                try simp only [Act.put, List.setIfInBounds_toArray, List.set_cons_zero, List.set_cons_succ]
                refine wpAnyH_ready (rs := [11]) (by kernel_rfl) (by simp) ?_
                refine AllReadyH.cons (o := ?oa66) ?ha66 ?sa66 AllReadyH.nil
                case ha66 => (simp only [List.getElem?_toArray, List.getElem?_cons_zero, List.getElem?_cons_succ]; rfl)
                case sa66 =>
                  intro K hK
                  go_simp
                  refine hK.out _ _ trivial (fun ha67 => ?_)
                  clear hK K
                  try simp only [Act.put, List.setIfInBounds_toArray, List.set_cons_zero, List.set_cons_succ]
                  refine wpAnyH_ready (rs := [12]) (by kernel_rfl) (by simp) ?_
                  refine AllReadyH.cons (o := ?oa68) ?ha68 ?sa68 AllReadyH.nil
                  case ha68 => (simp only [List.getElem?_toArray, List.getElem?_cons_zero, List.getElem?_cons_succ]; rfl)
                  case sa68 =>
                    intro K hK
                    refine step_append_rec _ rfl (.tmp 18) (.tmp 28) 22 rfl (mb + 1) 88 i0 _ 4 32 Tryz.underlying22 hi0 hz0 hz1 hz2 rfl (by decide) v ln (L.flatMap rfCells) rfl (World.ownsRow.alloc (ownsRow_block HO.out fun g hg => Kq94.out.block g (HO.out.lt g hg).2 (by have := (HO.out.lt g hg).1; omega)) _) ⟨uq92.heap.size, 0, none⟩ 1 1 [.int .i64 na, .int .i64 nb, .int .i64 nc, .int .i64 nd] rfl rfl (by intro i u hu; rw [Addr.add_mid, cell_of_row _ _ _ _ _ _ (heap_alloc_new uq92 _)]; simpa using hu) (by intro u hu; simp at hu; rcases hu with rfl | rfl | rfl | rfl <;> rfl) (by unfold maxLen; omega) (by omega) (by have := Kq94.out.size; simp; omega) ?_
                    intro vq98 uq97 hwq99 hgq100 hlq101
                    obtain ⟨vq98A, vq98c, rfl⟩ := own_slice hwq99
                    have Oq102 := Lib.hid hwq99
                    have Gq103 := Lib.hid hgq100
                    clear hwq99 hgq100 hlq101
                    have HMGq103 : Hid (Blk uq97 mb 24 #[.int .i64 a, .int .i64 b, v]) := Lib.hid (((HB.out.kept Kq94.out HNB.out).alloc _).grown Gq103.out (fun e0 => by have := (HO.out.lt _ e0.symm).1; omega))
                    refine hK.out _ _ trivial (fun ha69 => ?_)
                    clear hK K
                    try simp only [Act.put, List.setIfInBounds_toArray, List.set_cons_zero, List.set_cons_succ]
                    refine wpAnyH_take (i := 13) (oi := ?oia7013) (v := ?va7013) ?hia7013 (by kernel_rfl) (by kernel_rfl) (by kernel_rfl) ?hQa7013 (Or.inl ⟨?hwa7013, ?hya7013⟩) (by assumption) ?resta7013
                    case hia7013 => (first | (simp only [List.getElem?_toArray, List.getElem?_cons_zero, List.getElem?_cons_succ]; rfl) | rfl)
                    case hQa7013 => exact fun _ _ _ h => h
                    case hwa7013 => rfl
                    case hya7013 => ((intro w hSw; go_simp); first | done | with_reducible rfl)
                    try simp only [Act.put, List.setIfInBounds_toArray, List.set_cons_zero, List.set_cons_succ]
                    refine wpAnyH_ready (rs := [14]) (by kernel_rfl) (by simp) ?_
                    refine AllReadyH.cons (o := ?oa71) ?ha71 ?sa71 AllReadyH.nil
                    case ha71 => (simp only [List.getElem?_toArray, List.getElem?_cons_zero, List.getElem?_cons_succ]; rfl)
                    case sa71 =>
                      intro K hK
                      have yq104 := HMGq103.out.cell 2
                      have zq105 := HMGq103.out.frozen 2
                      simp only [List.getElem?_toArray, List.getElem?_cons_zero, List.getElem?_cons_succ] at yq104
                      go_simp
                      clear yq104 zq105
                      refine hK.out _ _ trivial (fun ha72 => ?_)
                      clear hK K
                      try simp only [Act.put, List.setIfInBounds_toArray, List.set_cons_zero, List.set_cons_succ]
                      refine wpAnyH_done (by kernel_rfl) ?_ _
                      have HF := Lib.hid (HFIN.out uq92 uq97 (.slice vq98A (ln + 1) vq98c) Rq93.out Kq94.out Oq102.out Gq103.out HMGq103.out)
                      go_wp2
                      go_roundw
                      case rel => exact ⟨i + 1, by omega, by go_num, HF.out⟩
                      case measure => simp [intOf]; omega
            case sa61 =>
              intro K hK
              go_simp
              refine (HC3.out uq86 Rq87.out).mono ?_
              rintro e uq106 ⟨rfl, hrq109, hkq110⟩
              have Rq107 := Lib.hid hrq109
              have Kq108 : Hid (Kept (fun i => i = bb ∨ i = ib) wr uq106) := Lib.hid (Kq88.out.trans hkq110 (fun _ _ h => h))
              clear hrq109 hkq110
              go_wp2_with fail
              refine hK.out _ _ trivial (fun ha73 => ?_)
              clear hK K
              try simp only [Act.put, List.setIfInBounds_toArray, List.set_cons_zero, List.set_cons_succ]
              refine wpAnyH_take (i := 10) (oi := ?oia7410) (v := ?va7410) ?hia7410 (by kernel_rfl) (by kernel_rfl) (by kernel_rfl) ?hQa7410 (Or.inl ⟨?hwa7410, ?hya7410⟩) (by assumption) ?resta7410
              case hia7410 => (first | (simp only [List.getElem?_toArray, List.getElem?_cons_zero, List.getElem?_cons_succ]; rfl) | rfl)
              case hQa7410 => exact fun _ _ _ h => h
              case hwa7410 => rfl
              case hya7410 => ((intro w hSw; go_simp); first | done | with_reducible rfl)
              try simp only [Act.put, List.setIfInBounds_toArray, List.set_cons_zero, List.set_cons_succ]
              refine wpAnyH_ready (rs := [1, 11]) (by kernel_rfl) (by simp) ?_
              refine AllReadyH.cons (o := ?oa75) ?ha75 ?sa75 (AllReadyH.cons (o := ?oa76) ?ha76 ?sa76 AllReadyH.nil)
              case ha75 => (simp only [List.getElem?_toArray, List.getElem?_cons_zero, List.getElem?_cons_succ]; rfl)
              case ha76 => (simp only [List.getElem?_toArray, List.getElem?_cons_zero, List.getElem?_cons_succ]; rfl)
              case sa75 =>
                intro K hK
                have yq111 := ((HB.out.kept Kq108.out HNB.out) : Blk _ mb 24 _).cell 2
                simp only [List.getElem?_toArray, List.getElem?_cons_zero, List.getElem?_cons_succ] at yq111
                go_simp
                clear yq111
                refine hK.out _ _ trivial (fun ha77 => ?_)
                clear hK K
                try simp only [Act.put, List.setIfInBounds_toArray, List.set_cons_zero, List.set_cons_succ]
                refine wpAnyH_ready (rs := [11]) (by kernel_rfl) (by simp) ?_
                refine AllReadyH.cons (o := ?oa78) ?ha78 ?sa78 AllReadyH.nil
                case ha78 => (simp only [List.getElem?_toArray, List.getElem?_cons_zero, List.getElem?_cons_succ]; rfl)
                case sa78 =>
                  intro K hK
                  go_simp
                  refine hK.out _ _ trivial (fun ha79 => ?_)
                  clear hK K
                  try simp only [Act.put, List.setIfInBounds_toArray, List.set_cons_zero, List.set_cons_succ]
                  refine wpAnyH_ready (rs := [12]) (by kernel_rfl) (by simp) ?_
                  refine AllReadyH.cons (o := ?oa80) ?ha80 ?sa80 AllReadyH.nil
                  case ha80 => (simp only [List.getElem?_toArray, List.getElem?_cons_zero, List.getElem?_cons_succ]; rfl)
                  case sa80 =>
                    intro K hK
                    refine step_append_rec _ rfl (.tmp 18) (.tmp 28) 22 rfl (mb + 1) 88 i0 _ 4 32 Tryz.underlying22 hi0 hz0 hz1 hz2 rfl (by decide) v ln (L.flatMap rfCells) rfl (World.ownsRow.alloc (ownsRow_block HO.out fun g hg => Kq108.out.block g (HO.out.lt g hg).2 (by have := (HO.out.lt g hg).1; omega)) _) ⟨uq106.heap.size, 0, none⟩ 1 1 [.int .i64 na, .int .i64 nb, .int .i64 nc, .int .i64 nd] rfl rfl (by intro i u hu; rw [Addr.add_mid, cell_of_row _ _ _ _ _ _ (heap_alloc_new uq106 _)]; simpa using hu) (by intro u hu; simp at hu; rcases hu with rfl | rfl | rfl | rfl <;> rfl) (by unfold maxLen; omega) (by omega) (by have := Kq108.out.size; simp; omega) ?_
                    intro vq113 uq112 hwq114 hgq115 hlq116
                    obtain ⟨vq113A, vq113c, rfl⟩ := own_slice hwq114
                    have Oq117 := Lib.hid hwq114
                    have Gq118 := Lib.hid hgq115
                    clear hwq114 hgq115 hlq116
                    have HMGq118 : Hid (Blk uq112 mb 24 #[.int .i64 a, .int .i64 b, v]) := Lib.hid (((HB.out.kept Kq108.out HNB.out).alloc _).grown Gq118.out (fun e0 => by have := (HO.out.lt _ e0.symm).1; omega))
                    refine hK.out _ _ trivial (fun ha81 => ?_)
                    clear hK K
                    try simp only [Act.put, List.setIfInBounds_toArray, List.set_cons_zero, List.set_cons_succ]
                    refine wpAnyH_take (i := 13) (oi := ?oia8213) (v := ?va8213) ?hia8213 (by kernel_rfl) (by kernel_rfl) (by kernel_rfl) ?hQa8213 (Or.inl ⟨?hwa8213, ?hya8213⟩) (by assumption) ?resta8213
                    case hia8213 => (first | (simp only [List.getElem?_toArray, List.getElem?_cons_zero, List.getElem?_cons_succ]; rfl) | rfl)
                    case hQa8213 => exact fun _ _ _ h => h
                    case hwa8213 => rfl
                    case hya8213 => ((intro w hSw; go_simp); first | done | with_reducible rfl)
                    try simp only [Act.put, List.setIfInBounds_toArray, List.set_cons_zero, List.set_cons_succ]
                    refine wpAnyH_ready (rs := [14]) (by kernel_rfl) (by simp) ?_
                    refine AllReadyH.cons (o := ?oa83) ?ha83 ?sa83 AllReadyH.nil
                    case ha83 => (simp only [List.getElem?_toArray, List.getElem?_cons_zero, List.getElem?_cons_succ]; rfl)
                    case sa83 =>
                      intro K hK
                      have yq119 := HMGq118.out.cell 2
                      have zq120 := HMGq118.out.frozen 2
                      simp only [List.getElem?_toArray, List.getElem?_cons_zero, List.getElem?_cons_succ] at yq119
                      go_simp
                      clear yq119 zq120
                      refine hK.out _ _ trivial (fun ha84 => ?_)
                      clear hK K
                      try simp only [Act.put, List.setIfInBounds_toArray, List.set_cons_zero, List.set_cons_succ]
                      refine wpAnyH_done (by kernel_rfl) ?_ _
                      have HF := Lib.hid (HFIN.out uq106 uq112 (.slice vq113A (ln + 1) vq113c) Rq107.out Kq108.out Oq117.out Gq118.out HMGq118.out)
                      go_wp2
                      go_roundw
                      case rel => exact ⟨i + 1, by omega, by go_num, HF.out⟩
                      case measure => simp [intOf]; omega
              case sa76 =>
                intro K hK
                go_simp
                refine hK.out _ _ trivial (fun ha85 => ?_)
                clear hK K
                try simp only [Act.put, List.setIfInBounds_toArray, List.set_cons_zero, List.set_cons_succ]
                refine wpAnyH_ready (rs := [1]) (by kernel_rfl) (by simp) ?_
                refine AllReadyH.cons (o := ?oa86) ?ha86 ?sa86 AllReadyH.nil
                case ha86 => (simp only [List.getElem?_toArray, List.getElem?_cons_zero, List.getElem?_cons_succ]; rfl)
                case sa86 =>
                  intro K hK
                  have yq121 := ((HB.out.kept Kq108.out HNB.out).alloc (.cells #[.int .i64 na, .int .i64 nb, .int .i64 nc, .int .i64 nd] 88) : Blk _ mb 24 _).cell 2
                  simp only [List.getElem?_toArray, List.getElem?_cons_zero, List.getElem?_cons_succ] at yq121
                  go_simp
                  clear yq121
                  refine hK.out _ _ trivial (fun ha87 => ?_)
                  clear hK K
                  try simp only [Act.put, List.setIfInBounds_toArray, List.set_cons_zero, List.set_cons_succ]
                  refine wpAnyH_ready (rs := [12]) (by kernel_rfl) (by simp) ?_
                  refine AllReadyH.cons (o := ?oa88) ?ha88 ?sa88 AllReadyH.nil
                  case ha88 => (simp only [List.getElem?_toArray, List.getElem?_cons_zero, List.getElem?_cons_succ]; rfl)
                  case sa88 =>
                    intro K hK
                    refine step_append_rec _ rfl (.tmp 18) (.tmp 28) 22 rfl (mb + 1) 88 i0 _ 4 32 Tryz.underlying22 hi0 hz0 hz1 hz2 rfl (by decide) v ln (L.flatMap rfCells) rfl (World.ownsRow.alloc (ownsRow_block HO.out fun g hg => Kq108.out.block g (HO.out.lt g hg).2 (by have := (HO.out.lt g hg).1; omega)) _) ⟨uq106.heap.size, 0, none⟩ 1 1 [.int .i64 na, .int .i64 nb, .int .i64 nc, .int .i64 nd] rfl rfl (by intro i u hu; rw [Addr.add_mid, cell_of_row _ _ _ _ _ _ (heap_alloc_new uq106 _)]; simpa using hu) (by intro u hu; simp at hu; rcases hu with rfl | rfl | rfl | rfl <;> rfl) (by unfold maxLen; omega) (by omega) (by have := Kq108.out.size; simp; omega) ?_
                    intro vq123 uq122 hwq124 hgq125 hlq126
                    obtain ⟨vq123A, vq123c, rfl⟩ := own_slice hwq124
                    have Oq127 := Lib.hid hwq124
                    have Gq128 := Lib.hid hgq125
                    clear hwq124 hgq125 hlq126
                    have HMGq128 : Hid (Blk uq122 mb 24 #[.int .i64 a, .int .i64 b, v]) := Lib.hid (((HB.out.kept Kq108.out HNB.out).alloc _).grown Gq128.out (fun e0 => by have := (HO.out.lt _ e0.symm).1; omega))
                    refine hK.out _ _ trivial (fun ha89 => ?_)
                    clear hK K
                    try simp only [Act.put, List.setIfInBounds_toArray, List.set_cons_zero, List.set_cons_succ]
                    refine wpAnyH_take (i := 13) (oi := ?oia9013) (v := ?va9013) ?hia9013 (by kernel_rfl) (by kernel_rfl) (by kernel_rfl) ?hQa9013 (Or.inl ⟨?hwa9013, ?hya9013⟩) (by assumption) ?resta9013
                    case hia9013 => (first | (simp only [List.getElem?_toArray, List.getElem?_cons_zero, List.getElem?_cons_succ]; rfl) | rfl)
                    case hQa9013 => exact fun _ _ _ h => h
                    case hwa9013 => rfl
                    case hya9013 => ((intro w hSw; go_simp); first | done | with_reducible rfl)
                    try simp only [Act.put, List.setIfInBounds_toArray, List.set_cons_zero, List.set_cons_succ]
                    refine wpAnyH_ready (rs := [14]) (by kernel_rfl) (by simp) ?_
                    refine AllReadyH.cons (o := ?oa91) ?ha91 ?sa91 AllReadyH.nil
                    case ha91 => (simp only [List.getElem?_toArray, List.getElem?_cons_zero, List.getElem?_cons_succ]; rfl)
                    case sa91 =>
                      intro K hK
                      have yq129 := HMGq128.out.cell 2
                      have zq130 := HMGq128.out.frozen 2
                      simp only [List.getElem?_toArray, List.getElem?_cons_zero, List.getElem?_cons_succ] at yq129
                      go_simp
                      clear yq129 zq130
                      refine hK.out _ _ trivial (fun ha92 => ?_)
                      clear hK K
                      try simp only [Act.put, List.setIfInBounds_toArray, List.set_cons_zero, List.set_cons_succ]
                      refine wpAnyH_done (by kernel_rfl) ?_ _
                      have HF := Lib.hid (HFIN.out uq106 uq122 (.slice vq123A (ln + 1) vq123c) Rq107.out Kq108.out Oq127.out Gq128.out HMGq128.out)
                      go_wp2
                      go_roundw
                      case rel => exact ⟨i + 1, by omega, by go_num, HF.out⟩
                      case measure => simp [intOf]; omega
    · obtain rfl : i = k := by omega
      have hlz : ¬ ((i : Int) < (i : Int)) := by omega
      have HBF : Hid (Below w.heap.size w wr) := Lib.hid (HB4.out.trans (HK0r.out.toBelow HB4.out.size (fun i hi => by omega)))
      have hres : Blk wr (bb + 1) 24 #[.int .i64 0, .int .i64 0, .slice none 0 0] := HRES4.out.kept HK0r.out (by omega)
      have hman := HB.out
      obtain ⟨⟨Ab, nb, cb, hbk, hbb2, -, -⟩, hbi, -⟩ := HR0.out
      have y0 := hbk.cell 0
      have y1 := hbi.cell 0
      have m0 := hman.cell 0
      have m1 := hman.cell 1
      have m2 := hman.cell 2
      have x0c := hres.cell 0
      have x1c := hres.cell 1
      have x2c := hres.cell 2
      have x0z := hres.frozen 0
      have x1z := hres.frozen 1
      have x2z := hres.frozen 2
      simp only [List.getElem?_toArray, List.getElem?_cons_zero, List.getElem?_cons_succ] at y0 y1 m0 m1 m2 x0c x1c x2c
      have hnl : l0.length = nb := by have := hbb2.2.1.len; simpa using this
      have HISV : Hid (pIs x0 = (o0 && decide (nb = 0))) := Lib.hid (by rw [HIS.out, HUU.out, ← hnl])
      have HRES2 := Lib.hid hres
      clear hres hman hbk hbb2 hbi hnl
      have HONE : Hid (∀ (u : Value), pIs x0 = false → ReadOut w x0 (.returned (.tuple #[.agg #[.int .i64 0, .int .i64 0, .slice none 0 0], .bool false])) (((wr.setCell ⟨bb + 1, 0, none⟩ (.int .i64 0)).setCell ⟨bb + 1, 1, none⟩ (.int .i64 0)).setCell ⟨bb + 1, 2, none⟩ (.slice none 0 0))) := Lib.hid (fun _ h => by
        refine ⟨((HBF.out.setCell (show w.heap.size ≤ bb + 1 by omega) _).setCell (show w.heap.size ≤ bb + 1 by omega) _).setCell (show w.heap.size ≤ bb + 1 by omega) _, ?_⟩
        rw [if_neg (by rw [h]; simp)])
      cases o0 with
      | false =>
        have HE : Hid (pIs x0 = false) := Lib.hid (by rw [HISV.out]; rfl)
        go_wp2
        refine bodyPost_ret (results_man rfl _ _ (bb + 1) 24 #[.int .i64 0, .int .i64 0, .slice none 0 0] (0, 0) _ rfl ?_ Tryz.underlying24 rfl manCells) rfl ?_
        · have := ((HRES2.out.set_ 0 (.int .i64 0)).set_ 1 (.int .i64 0)).set_ 2 (.slice none 0 0)
          simpa [Blk] using this
        · exact HONE.out (.bool false) HE.out
      | true =>
        by_cases hz : nb = 0
        · have HE : Hid (pIs x0 = true) := Lib.hid (by rw [HISV.out, hz]; rfl)
          have hz' : ¬ (0 : Int) < (nb : Int) := by omega
          have HVV := HV.out
          have HOO := HO.out
          subst HVV
          have HRD2 : Hid (pRead x0 = ⟨(a : Int), (b : Int), L⟩) := Lib.hid (by rw [HREAD.out, HUU.out])
          have HOF := Lib.hid (Go.Joins.ownsRow_le HOO (show w.heap.size ≤ mb + 1 by omega))
          have HNE : Hid (∀ gg, (Value.slice Av ln cv).ownBlock = some gg → gg ≠ bb + 1) := Lib.hid (fun gg hgg => by have := (HOO.lt gg hgg).1; omega)
          clear hz HOO
          go_wp2
          refine bodyPost_ret (results_man rfl _ _ (bb + 1) 24 #[.int .i64 a, .int .i64 b, .slice Av ln cv] (0, 0) _ rfl ?_ Tryz.underlying24 rfl manCells) rfl ?_
          · have := ((HRES2.out.set_ 0 (.int .i64 a)).set_ 1 (.int .i64 b)).set_ 2 (.slice Av ln cv)
            simpa [Blk] using this
          · refine ⟨((HBF.out.setCell (show w.heap.size ≤ bb + 1 by omega) _).setCell (show w.heap.size ≤ bb + 1 by omega) _).setCell (show w.heap.size ≤ bb + 1 by omega) _, ?_⟩
            rw [if_pos HE.out, HRD2.out]
            refine ⟨.slice Av ln cv, rfl, ?_⟩
            rw [← HLN.out]
            exact ownsRow_block HOF.out fun gg hgg => (heap_setCell_other _ _ _ (HNE.out gg hgg)).trans ((heap_setCell_other _ _ _ (HNE.out gg hgg)).trans (heap_setCell_other _ _ _ (HNE.out gg hgg)))
        · have HE : Hid (pIs x0 = false) := Lib.hid (by rw [HISV.out]; simp [hz])
          have hz' : (0 : Int) < (nb : Int) := by omega
          clear hz
          go_wp2
          refine bodyPost_ret (results_man rfl _ _ (bb + 1) 24 #[.int .i64 0, .int .i64 0, .slice none 0 0] (0, 0) _ rfl ?_ Tryz.underlying24 rfl manCells) rfl ?_
          · have := ((HRES2.out.set_ 0 (.int .i64 0)).set_ 1 (.int .i64 0)).set_ 2 (.slice none 0 0)
            simpa [Blk] using this
          · exact HONE.out (.bool false) HE.out
end Go.Proofs.YtmhiekbpmoikfaaGreatDoor
namespace Go.Proofs.YtmhiekbpmoikfaaGreatDoor
open Go.RowKit Go.Maps Go.WideMaps
set_option linter.unusedSimpArgs false

theorem own_capM {w : World} {base : Nat} {e : TypeId} {size : Nat} {A : Option Addr} {n c : Nat} {xs : List Value} (h : w.ownsRow base e size (.slice A n c) n xs) : n ≤ c := by
  rcases h.2 with ⟨h1, h0⟩ | ⟨g, cap, cur, h1, _, _, hc, _⟩
  · omega
  · injection h1 with _ _ h3
    omega
theorem getF_lenM (c : List UInt8) : (getF c).1.length ≤ 262144 := by
  rcases getF_err c with h | h
  · exact (getF_step h).2.2
  · rw [h.1]; simp
theorem fitN {n : Nat} (h : n ≤ 1099511627776) : fits64 (n : Int) := ⟨by omega, by omega⟩
theorem pRef_bound (s : Bool × List UInt8) : rfBound (pRef s).1 :=
  ⟨fitN (pN_most _ _ bigN).1, fitN (Nat.le_trans (pN_most _ _ 64).1 (by decide)), fitN (Nat.le_trans (pN_most _ _ 16).1 (by decide)), fitN (pN_most _ _ bigN).1⟩
theorem pUp_bound (s : Bool × List UInt8) : ∀ k, ∀ r ∈ (pUp s k).1, rfBound r
  | 0, r, h => by simp [pUp] at h
  | k + 1, r, h => by
    rw [pUp] at h
    rcases List.mem_append.1 h with h | h
    · exact pUp_bound s k r h
    · rw [List.mem_singleton.1 h]; exact pRef_bound _
theorem pRead_few (x : List UInt8) : (pRead x).refs.length ≤ 24 := by
  show (pUp (pC x).2 (pC x).1).1.length ≤ 24
  rw [pUp_len]
  exact (pN_most _ _ 24).1
set_option maxHeartbeats 8000000 in
set_option maxRecDepth 100000 in
theorem pGet_any (w : World) (A : Option Addr) (n c : Nat) (x : Nm) (hx : BytesIn w A n x) (hc : n ≤ c) (hn : n ≤ 1000000) :
    Calls Tryz.prog 14 #[.slice A n c] w (MGetOut w x) := by
  have hln : x.length = n := by have := hx.2.1.len; simpa using this
  obtain ⟨W1, hW1⟩ : ∃ W1, W1 = w.alloc (.cells #[.int .i64 0, .int .i64 0, .slice none 0 0] 24) := ⟨_, rfl⟩
  have hb0 : Below w.heap.size w W1 := by rw [hW1]; exact (Below.refl _ w).alloc (Nat.le_refl _) _
  have hv0 : Blk W1 w.heap.size 24 #[.int .i64 0, .int .i64 0, .slice none 0 0] := by rw [hW1]; exact Blk.new _ _ _
  obtain ⟨X, k, e, hg⟩ : ∃ X k e, getF x = (X, k, e) := ⟨_, _, _, rfl⟩
  have hcall := fGet_any W1 A n c x (hx.below hb0) hc (by omega)
  rw [hg] at hcall
  have hG : mGetB x = if e = 0 ∧ n ≤ k then pOf X else none := by
    rw [← pGet_is]
    unfold pGetB
    rw [hg, hln]
  have hXl : X.length ≤ 262144 := by
    have := getF_lenM x
    rw [hg] at this
    exact this
  have HCF := Lib.hid hcall
  have HG := Lib.hid hG
  have HW1 := Lib.hid hW1
  have HB0 := Lib.hid hb0
  have HV0 := Lib.hid hv0
  clear hx hln hW1 hb0 hv0 hg hcall hG
  go_enter Tryz.func14, Tryz.ntmps14
  go_wp2_with fail
  rw [← HW1.out]
  refine HCF.out.mono ?_
  rintro e1 w2 ⟨v2, rfl, ho2, hb2⟩
  obtain ⟨A2, c2, hv2⟩ := own_slice ho2
  subst hv2
  simp only at ho2 ⊢
  have hX2 := BytesIn.own ho2 (by unfold maxLen; omega)
  have hcap := own_capM ho2
  obtain ⟨xn, hxn⟩ : ∃ z, z = X.length := ⟨_, rfl⟩
  rw [← hxn] at hX2 hcap hXl ⊢
  have HX2 := Lib.hid hX2
  have HB2 := Lib.hid (below_then HB0.out hb2 HB0.out.size)
  have HV2 := Lib.hid (HV0.out.below hb2 HV0.out.lt)
  have y0 := HV2.out.cell 0
  have y1 := HV2.out.cell 1
  have y2 := HV2.out.cell 2
  have z0 := HV2.out.frozen 0
  have z1 := HV2.out.frozen 1
  have z2 := HV2.out.frozen 2
  simp only [List.getElem?_toArray, List.getElem?_cons_zero, List.getElem?_cons_succ] at y0 y1 y2
  clear ho2 hb2 hX2 hxn
  by_cases he : e = 0
  case neg =>
    have he' : (e != 0) = true := by simpa using he
    have HE : Hid (mGetB x = none) := Lib.hid (by rw [HG.out, if_neg (fun h => he h.1)])
    clear he
    go_wp2
    refine bodyPost_ret (results_man rfl _ _ w.heap.size 24 #[.int .i64 0, .int .i64 0, .slice none 0 0] (0, 0) _ rfl ?_ Tryz.underlying24 rfl manCells) rfl ?_
    · have := ((HV2.out.set_ 0 (.int .i64 0)).set_ 1 (.int .i64 0)).set_ 2 (.slice none 0 0)
      simpa [Blk] using this
    · exact MGetOut.none_ HE.out (((HB2.out.setCell (Nat.le_refl _) _).setCell (Nat.le_refl _) _).setCell (Nat.le_refl _) _)
  subst he
  by_cases hk : n ≤ k
  case neg =>
    have hk' : (k : Int) < (n : Int) := by omega
    have HE : Hid (mGetB x = none) := Lib.hid (by rw [HG.out, if_neg (fun h => hk h.2)])
    clear hk
    go_wp2
    refine bodyPost_ret (results_man rfl _ _ w.heap.size 24 #[.int .i64 0, .int .i64 0, .slice none 0 0] (0, 0) _ rfl ?_ Tryz.underlying24 rfl manCells) rfl ?_
    · have := ((HV2.out.set_ 0 (.int .i64 0)).set_ 1 (.int .i64 0)).set_ 2 (.slice none 0 0)
      simpa [Blk] using this
    · exact MGetOut.none_ HE.out (((HB2.out.setCell (Nat.le_refl _) _).setCell (Nat.le_refl _) _).setCell (Nat.le_refl _) _)
  have hk' : ¬ (k : Int) < (n : Int) := by omega
  have HP : Hid (mGetB x = if pIs X = true ∧ mOk (pRead X) then some (pRead X) else none) := Lib.hid (by rw [HG.out, if_pos ⟨rfl, hk⟩]; rfl)
  have HRC := Lib.hid (mqRead_any w2 A2 xn c2 X HX2.out hcap)
  clear hk HG y0 y1 y2 z0 z1 z2
  go_wp2_with fail
  refine HRC.out.mono ?_
  rintro e1 w3 ⟨hb3, hr3⟩
  have hs3 := hb3.size
  have HB3 := Lib.hid (below_then HB2.out hb3 HB2.out.size)
  have HV3 := Lib.hid (HV2.out.below hb3 HV2.out.lt)
  clear hb3 HRC
  cases his : pIs X with
  | false =>
    rw [his, if_neg (by simp)] at hr3
    subst hr3
    have HE : Hid (mGetB x = none) := Lib.hid (by rw [HP.out, if_neg (fun h => by rw [his] at h; cases h.1)])
    clear his
    have hvx := HV3.out.alloc (.cells #[.int .i64 0, .int .i64 0, .slice none 0 0] 24)
    have HVX := Lib.hid hvx
    have y0 := hvx.cell 0
    have y1 := hvx.cell 1
    have y2 := hvx.cell 2
    have z0 := hvx.frozen 0
    have z1 := hvx.frozen 1
    have z2 := hvx.frozen 2
    simp only [List.getElem?_toArray, List.getElem?_cons_zero, List.getElem?_cons_succ] at y0 y1 y2
    have HBX := Lib.hid (HB3.out.alloc HB3.out.size (.cells #[.int .i64 0, .int .i64 0, .slice none 0 0] 24))
    clear hvx
    go_wp2
    refine bodyPost_ret (results_man rfl _ _ w.heap.size 24 #[.int .i64 0, .int .i64 0, .slice none 0 0] (0, 0) _ rfl ?_ Tryz.underlying24 rfl manCells) rfl ?_
    · have := ((HVX.out.set_ 0 (.int .i64 0)).set_ 1 (.int .i64 0)).set_ 2 (.slice none 0 0)
      simpa [Blk] using this
    · exact MGetOut.none_ HE.out (((HBX.out.setCell (Nat.le_refl _) _).setCell (Nat.le_refl _) _).setCell (Nat.le_refl _) _)
  | true =>
    rw [his, if_pos rfl] at hr3
    obtain ⟨v3, rfl, ho3⟩ := hr3
    have hfew := pRead_few X
    have hbd : ∀ r ∈ (pRead X).refs, rfBound r := pUp_bound _ _
    obtain ⟨m, hm⟩ : ∃ m, m = pRead X := ⟨_, rfl⟩
    rw [← hm] at ho3 hfew hbd HP ⊢
    obtain ⟨Av, cv, hv3⟩ := own_slice ho3
    subst hv3
    obtain ⟨w4, hw4⟩ : ∃ z, z = w3.alloc (.cells #[.int .i64 m.gen, .int .i64 m.next, .slice Av m.refs.length cv] 24) := ⟨_, rfl⟩
    have hb4 : Below w3.heap.size w3 w4 := by rw [hw4]; exact (Below.refl _ w3).alloc (Nat.le_refl _) _
    have hmb : Blk w4 w3.heap.size 24 #[.int .i64 m.gen, .int .i64 m.next, .slice Av m.refs.length cv] := by rw [hw4]; exact Blk.new _ _ _
    have ho4 := ownsRow_block (w' := w4) ho3 fun g hg => hb4.block g (ho3.lt g hg).2
    have hri := RefsIn.own ho4 rfl (by unfold maxLen; omega) hbd
    have HCK := Lib.hid (pCheck_any w4 m Av m.refs.length cv hri)
    obtain ⟨mb, hmbb⟩ : ∃ mb, mb = w3.heap.size := ⟨_, rfl⟩
    obtain ⟨rn, hrn⟩ : ∃ rn, rn = m.refs.length := ⟨_, rfl⟩
    rw [← hmbb] at hmb
    rw [← hrn] at hmb HCK hw4 ⊢
    have m0 := hmb.cell 0
    have m1 := hmb.cell 1
    have m2 := hmb.cell 2
    simp only [List.getElem?_toArray, List.getElem?_cons_zero, List.getElem?_cons_succ] at m0 m1 m2
    have HMB := Lib.hid hmb
    have HO4 := Lib.hid (Go.Joins.ownsRow_le ho4 (show w.heap.size ≤ w2.heap.size from HB2.out.size))
    have HV4 := Lib.hid (HV3.out.below hb4 HV3.out.lt)
    have HNE : Hid (∀ g, (Value.slice Av rn cv).ownBlock = some g → g ≠ w.heap.size) := Lib.hid (fun g hg => by
      rw [hrn] at hg
      have h1 := (ho3.lt g hg).1
      have h2 := HV2.out.lt
      omega)
    have HB4 := Lib.hid (below_then HB3.out hb4 HB3.out.size)
    have HW4 := Lib.hid hw4
    have HMM := Lib.hid hmbb
    have HRN := Lib.hid hrn
    have HHIS := Lib.hid his
    clear ho3 hb4 hmb ho4 hri hw4 hmbb hm his hrn hbd HB3 HV3
    go_wp2_with fail
    rw [← HW4.out, ← HMM.out]
    refine HCK.out.mono ?_
    rintro e1 w5 ⟨rfl, hb5⟩
    have HB5 := Lib.hid (below_then HB4.out hb5 HB4.out.size)
    have hv5 := HV4.out.below hb5 HV4.out.lt
    have hmb5 := HMB.out.below hb5 HMB.out.lt
    have HV5 := Lib.hid hv5
    have HO5 := Lib.hid (ownsRow_block HO4.out fun g hg => hb5.block g (HO4.out.lt g hg).2)
    have y0 := hv5.cell 0
    have y1 := hv5.cell 1
    have y2 := hv5.cell 2
    have z0 := hv5.frozen 0
    have z1 := hv5.frozen 1
    have z2 := hv5.frozen 2
    have n0 := hmb5.cell 0
    have n1 := hmb5.cell 1
    have n2 := hmb5.cell 2
    simp only [List.getElem?_toArray, List.getElem?_cons_zero, List.getElem?_cons_succ] at y0 y1 y2 n0 n1 n2
    clear hb5 hv5 hmb5 HCK m0 m1 m2
    by_cases hok : mOk m
    case neg =>
      have HE : Hid (mGetB x = none) := Lib.hid (by rw [HP.out, if_neg (fun h => hok h.2)])
      have HM1 : Hid (mErr m = 1) := Lib.hid (mErr_one hok)
      rw [HM1.out]
      clear hok
      go_wp2
      refine bodyPost_ret (results_man rfl _ _ w.heap.size 24 #[.int .i64 0, .int .i64 0, .slice none 0 0] (0, 0) _ rfl ?_ Tryz.underlying24 rfl manCells) rfl ?_
      · have := ((HV5.out.set_ 0 (.int .i64 0)).set_ 1 (.int .i64 0)).set_ 2 (.slice none 0 0)
        simpa [Blk] using this
      · exact MGetOut.none_ HE.out (((HB5.out.setCell (Nat.le_refl _) _).setCell (Nat.le_refl _) _).setCell (Nat.le_refl _) _)
    have HE : Hid (mGetB x = some m) := Lib.hid (by rw [HP.out, if_pos ⟨HHIS.out, hok⟩])
    have HM1 : Hid (mErr m = 0) := Lib.hid (mErr_zero hok)
    rw [HM1.out]
    clear hok
    go_wp2
    refine bodyPost_ret (results_man rfl _ _ w.heap.size 24 #[.int .i64 m.gen, .int .i64 m.next, .slice Av rn cv] (0, 0) _ rfl ?_ Tryz.underlying24 rfl manCells) rfl ?_
    · have := ((HV5.out.set_ 0 (.int .i64 m.gen)).set_ 1 (.int .i64 m.next)).set_ 2 (.slice Av rn cv)
      simpa [Blk] using this
    · refine ⟨((HB5.out.setCell (Nat.le_refl _) _).setCell (Nat.le_refl _) _).setCell (Nat.le_refl _) _, ?_⟩
      rw [HE.out]
      refine ⟨_, rfl, ?_⟩
      have := HO5.out
      rw [← HRN.out] at this ⊢
      exact ownsRow_block this fun g hg => (heap_setCell_other _ _ _ (HNE.out g hg)).trans ((heap_setCell_other _ _ _ (HNE.out g hg)).trans (heap_setCell_other _ _ _ (HNE.out g hg)))
end Go.Proofs.YtmhiekbpmoikfaaGreatDoor
