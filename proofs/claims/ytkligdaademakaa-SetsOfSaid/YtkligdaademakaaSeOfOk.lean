/- The landed sets of cursors keep what the law asks. -/
import Derived.Test.YtkligdaademakaaZp3
import Derived.Test.YtkligdaademakaaSeOfSpec
import Derived.Test.YtkligdaademakaaCuGo
namespace Go.Proofs.Ytkligdaademakaa
open Go.RowKit Go.Maps Go.WideMaps Go.Shelf
set_option linter.unusedSimpArgs false

theorem rises_drop {l : List Int} {p : Int} (h : rises p l = true) (hp : -1 ≤ p) : ∀ k, rises (-1) (l.drop k) = true := by
  induction l generalizing p with
  | nil => intro k; simp [rises]
  | cons x r ih =>
    intro k
    cases k with
    | zero => exact rises_less h hp
    | succ k =>
      simp only [rises, Bool.and_eq_true, decide_eq_true_eq] at h
      exact ih h.2 (by omega) k
theorem docs_up {s : CSt} (h : ValidP s.l) : Up (docsFrom s) := by
  unfold docsFrom
  rw [List.map_drop]
  refine ⟨rises_drop (p := -1) ((rises_at _ _).2 fun i x hx => ?_) (by omega) _, fun x hx => ?_⟩
  · rw [List.getElem?_map] at hx
    cases hl : s.l[i]? with
    | none => rw [hl] at hx; cases hx
    | some y =>
      rw [hl] at hx
      simp only [Option.map_some, Option.some.injEq] at hx
      have hi := (List.getElem?_eq_some_iff.1 hl).1
      have h1 := h.up i hi
      rw [pAt_eq hl, hx] at h1
      unfold lastD at h1
      by_cases h0 : i = 0
      · rw [if_pos h0]; rw [if_pos h0] at h1; exact h1
      · rw [if_neg h0]
        rw [if_neg h0] at h1
        have h2 : (s.l.map (·.1)).getD (i - 1) 0 = (pAt s.l (i - 1)).1 := by
          unfold pAt
          rw [List.getD_eq_getElem?_getD, List.getElem?_map, List.getD_eq_getElem?_getD, List.getElem?_eq_getElem (by omega : i - 1 < s.l.length)]
          rfl
        rw [h2]
        exact h1
  · obtain ⟨y, hy, rfl⟩ := List.mem_map.1 (List.mem_of_mem_drop hx)
    have := (h.docs y hy).2
    omega
theorem docs_skip (l : List Pst) (d : Int) : ∀ (f a : Nat), f = l.length - a → (l.drop (skipN l d f a)).map (·.1) = ((l.drop a).map (·.1)).dropWhile fun x => decide (x < d)
  | 0, a, h => by
    unfold skipN
    rw [List.drop_eq_nil_of_le (by omega)]
    rfl
  | f + 1, a, h => by
    have ha : a < l.length := by omega
    have hp : pAt l a = l[a] := by unfold pAt; rw [List.getD_eq_getElem?_getD, List.getElem?_eq_getElem ha]; rfl
    conv => rhs; rw [List.drop_eq_getElem_cons ha, List.map_cons, List.dropWhile_cons]
    unfold skipN
    by_cases hd : (pAt l a).1 < d
    · rw [if_pos ⟨ha, hd⟩, if_pos (by rw [← hp]; simpa using hd)]
      exact docs_skip l d f (a + 1) (by omega)
    · rw [if_neg (fun e => hd e.2), if_neg (by rw [← hp]; simpa using hd), List.drop_eq_getElem_cons ha]
      rfl
theorem docs_cskip (s : CSt) (d : Int) : docsFrom (cSkip s d) = fromL d (docsFrom s) := by
  unfold docsFrom cSkip fromL
  rw [(cStand_l _).1, (cStand_l _).2]
  exact docs_skip s.l d _ s.at_ rfl
theorem doc_head (s : CSt) (h : s.at_ ≤ s.l.length) : cDoc s = (docsFrom s).headD 0 ∧ cIn s = !(docsFrom s).isEmpty := by
  unfold cDoc cIn docsFrom
  rcases Nat.lt_or_ge s.at_ s.l.length with h1 | h1
  · have hp : pAt s.l s.at_ = s.l[s.at_] := by unfold pAt; rw [List.getD_eq_getElem?_getD, List.getElem?_eq_getElem h1]; rfl
    rw [if_pos h1, decide_eq_true h1, List.drop_eq_getElem_cons h1, hp]
    exact ⟨rfl, rfl⟩
  · rw [if_neg (by omega), decide_eq_false (by omega), List.drop_eq_nil_of_le h1]
    exact ⟨rfl, rfl⟩
set_option maxHeartbeats 4000000 in
set_option maxRecDepth 100000 in
/-- A cursor behind an interface moves on. -/
theorem toCur_any {w : World} {F : Nat → Prop} {b : Nat} {s : CSt} (h : K0 w F b s) (hw : CWF s) (d : Int) : Calls Try.prog 43 #[.iface 53 (.pointer (some ⟨b, 0, none⟩)), .int .i64 d] w fun e w' => e = .returned (.tuple #[.int .i64 ((fromL d (docsFrom s)).headD 0), .bool (!(fromL d (docsFrom s)).isEmpty)]) ∧ ∃ F', K0 w' F' b (cSkip s d) ∧ Kept F w w' ∧ ∀ i, F' i → F i ∨ w.heap.size ≤ i := by
  have HS := Lib.hid (k0_skip h hw d)
  have hdh := doc_head (cSkip s d) (hw.skip d).at_
  rw [docs_cskip] at hdh
  rw [← hdh.1, ← hdh.2]
  clear h hdh
  have m1 : ∀ (q : Option Addr) (w : World), (method 244 53 (.pointer q) "Skip").run Try.prog w = .ok (52, .pointer q) w := fun _ _ => by kernel_rfl
  have m2 : ∀ (q : Option Addr) (w : World), (method 244 53 (.pointer q) "Doc").run Try.prog w = .ok (101, .pointer q) w := fun _ _ => by kernel_rfl
  go_enter Try.func43, Try.ntmps43
  go_wp2_with fail
  refine HS.out.mono ?_
  rintro e w1 ⟨rfl, F', h1, h2, h3⟩
  have HD := Lib.hid (k0_doc h1)
  have HP := Lib.hid (And.intro h1 (And.intro h2 h3))
  clear h1 h2 h3
  go_wp2_with fail
  refine HD.out.mono ?_
  rintro e w2 ⟨rfl, hw⟩
  rw [hw]
  clear hw
  go_wp2
  go_ret2
  exact ⟨rfl, F', HP.out.1, HP.out.2.1, HP.out.2.2⟩
/-- The function that moves a cursor. -/
def CurMv (w : World) (F : Nat → Prop) (fv : Value) (M : List Int) : Prop :=
  ∃ (g b : Nat) (Fc : Nat → Prop) (s : CSt), fv = .func (.func 53) #[] #[at0 g] ∧ Blk w g 53 #[.pointer (some ⟨b, 0, none⟩)] ∧ K0 w Fc b s ∧ CWF s ∧ ValidP s.l ∧ M = docsFrom s ∧ F g ∧ (∀ i, Fc i → F i ∧ i ≠ g) ∧ ∀ i, F i → i < w.heap.size
set_option maxHeartbeats 4000000 in
set_option maxRecDepth 100000 in
theorem of1_any {w : World} {F Fc : Nat → Prop} {g b : Nat} {s : CSt} {fv : Value} (hfv : fv = .func (.func 53) #[] #[at0 g]) (hb : Blk w g 53 #[.pointer (some ⟨b, 0, none⟩)]) (hk : K0 w Fc b s) (hw : CWF s) (hv : ValidP s.l) (hg : F g) (hFc : ∀ i, Fc i → F i ∧ i ≠ g) (hlt : ∀ i, F i → i < w.heap.size) (d : Int) :
    Calls Try.prog 53 #[.int .i64 d, at0 g] w (MoveOut CurMv w F fv (docsFrom s) d) := by
  obtain ⟨w1, hw1⟩ : ∃ z, z = w.alloc (.cells #[.int .i64 0, .int .i64 0] 68) := ⟨_, rfl⟩
  have hb1 : Below w.heap.size w w1 := by rw [hw1]; exact (Below.refl _ w).alloc (Nat.le_refl _) _
  have hz1 : w1.heap.size = w.heap.size + 1 := by rw [hw1]; simp
  have hr1 : Blk w1 w.heap.size 68 #[.int .i64 0, .int .i64 0] := by rw [hw1]; exact Blk.new _ _ _
  have hbk := hb.below hb1 hb.lt
  have y0 := hbk.cell 0
  simp only [List.getElem?_toArray, List.getElem?_cons_zero] at y0
  have hto := toCur_any (k0_keep hk (w' := w1) (fun i hi => hb1.block i (hlt i (hFc i hi).1)) hb1.size) hw d
  have hu := docs_up hv
  have hsk := docs_cskip s d
  obtain ⟨D, hD⟩ : ∃ z, z = (fromL d (docsFrom s)).headD 0 := ⟨_, rfl⟩
  obtain ⟨I, hI⟩ : ∃ z, z = (fromL d (docsFrom s)).isEmpty := ⟨_, rfl⟩
  rw [← hD, ← hI] at hto
  have HTO := Lib.hid hto
  have HD := Lib.hid hD
  have HI := Lib.hid hI
  have HBK := Lib.hid hbk
  have HR1 := Lib.hid hr1
  have HB1 := Lib.hid hb1
  have HW1 := Lib.hid hw1
  have HFC := Lib.hid hFc
  have HLT := Lib.hid hlt
  have HU := Lib.hid hu
  have HSK := Lib.hid hsk
  have HCW := Lib.hid (And.intro hw hv)
  have HFV := Lib.hid hfv
  rw [HW1.out] at y0
  clear hfv hb hk hw hv hFc hlt hb1 hr1 hbk hto hu hsk hD hI hw1
  unfold at0
  go_enter Try.func53, Try.ntmps53
  go_wp2_with fail
  rw [← HW1.out]
  refine HTO.out.mono ?_
  rintro e w2 ⟨rfl, F', h1, h2, h3⟩
  have hfcl : ∀ i, Fc i → i < w.heap.size := fun i hi => HLT.out i (HFC.out i hi).1
  have hr2 : Blk w2 w.heap.size 68 #[.int .i64 0, .int .i64 0] := HR1.out.kept h2 (fun e => by have := hfcl _ e; omega)
  have hg2 : Blk w2 g 53 #[.pointer (some ⟨b, 0, none⟩)] := HBK.out.kept h2 (fun e => (HFC.out g e).2 rfl)
  have HKF : Hid (Kept F w w2) := Lib.hid ((Kept.below HB1.out).trans h2 (fun i _ hi => (HFC.out i hi).1))
  have r0 := hr2.cell 0
  have r1 := hr2.cell 1
  have q0 := hr2.frozen 0
  have q1 := hr2.frozen 1
  simp only [List.getElem?_toArray, List.getElem?_cons_zero, List.getElem?_cons_succ] at r0 r1
  have HR2 := Lib.hid hr2
  have HG2 := Lib.hid hg2
  have H1 := Lib.hid h1
  have H3 := Lib.hid h3
  have hz2 := h2.size
  clear hfcl hr2 hg2 h1 h2 h3
  cases I with
  | true =>
    have HEND : Hid (∀ z ∈ docsFrom s, z < d) := Lib.hid fun z hz => by
      rcases Int.lt_or_le z d with h4 | h4
      · exact h4
      · have h5 := (HU.out.mem_from d z).2 ⟨hz, h4⟩
        rw [List.isEmpty_iff.1 HI.out.symm] at h5
        cases h5
    go_wp2
    refine bodyPost_ret (results_cell_row rfl _ _ w.heap.size 68 #[.int .i64 0, .int .i64 0] (0, 0) _ rfl ?_ Try.underlying68 rfl runCells) rfl ?_
    · have := (HR2.out.set_ 0 (.int .i64 0)).set_ 1 (.int .i64 0)
      unfold Blk at this
      simpa using this
    · exact ⟨0, 0, rfl, (HKF.out.setCell (.inr (by simp only; omega)) _).setCell (.inr (by simp only; omega)) _, .inl ⟨rfl, HEND.out⟩⟩
  | false =>
    obtain ⟨s1, s2⟩ := (HU.out.from d).head HI.out.symm
    rw [← HD.out] at s1 s2
    have s3 := (HU.out.from d).pos D s1
    have s4 := (HU.out.from d).most D s1
    have HRUN : Hid (RunOf (fromL d (docsFrom s)) D 1) := Lib.hid ⟨by omega, s3, by omega, by omega, s2, fun y h1 h2 => by
      obtain rfl : y = D := by omega
      exact s1⟩
    have HDX : Hid (d ≤ D) := Lib.hid ((HU.out.mem_from d D).1 s1).2
    clear s1 s2
    go_wp2
    refine bodyPost_ret (results_cell_row rfl _ _ w.heap.size 68 #[.int .i64 D, .int .i64 1] (0, 0) _ rfl ?_ Try.underlying68 rfl runCells) rfl ?_
    · have := (HR2.out.set_ 0 (.int .i64 D)).set_ 1 (.int .i64 1)
      unfold Blk at this
      simpa using this
    · obtain ⟨w5, hw5⟩ : ∃ z, z = (w2.setCell ⟨w.heap.size, 0, none⟩ (.int .i64 D)).setCell ⟨w.heap.size, 1, none⟩ (.int .i64 1) := ⟨_, rfl⟩
      have hz5 : w5.heap.size = w2.heap.size := by rw [hw5, size_setCell', size_setCell']
      have hk5 : Kept (fun i => i = w.heap.size) w2 w5 := by
        rw [hw5]
        exact ((Kept.refl (fun i => i = w.heap.size) w2).setCell (.inl rfl) _).setCell (.inl rfl) _
      have hgl := HLT.out g hg
      have hF' : ∀ i, F' i → F i ∧ i ≠ g ∨ w1.heap.size ≤ i := fun i hi => (H3.out i hi).imp (HFC.out i) id
      have hmv : CurMv w5 (fun i => F i ∨ w.heap.size ≤ i ∧ i < w5.heap.size) fv (fromL d (docsFrom s)) := by
        refine ⟨g, b, F', cSkip s d, HFV.out, HG2.out.kept hk5 (by omega), k0_keep H1.out (fun i hi => hk5.block i (k0_lt H1.out i hi) (fun (e : i = w.heap.size) => ?_)) hk5.size, HCW.out.1.skip d, by rw [show (cSkip s d).l = s.l from (cStand_l _).1]; exact HCW.out.2, HSK.out.symm, .inl hg, fun i hi => ?_, fun i hi => ?_⟩
        · rcases hF' i hi with h4 | h4
          · have := HLT.out i h4.1; omega
          · omega
        · have h5 := k0_lt H1.out i hi
          rcases hF' i hi with h4 | h4
          · exact ⟨.inl h4.1, h4.2⟩
          · exact ⟨.inr ⟨by omega, by omega⟩, by omega⟩
        · rcases hi with hi | hi
          · have := HLT.out i hi; omega
          · exact hi.2
      rw [← hw5]
      refine ⟨D, 1, rfl, HKF.out.trans hk5 (fun i hi e => by omega), .inr ⟨HRUN.out, _, _, hmv, HU.out.from d, fun i hi => hi.imp id And.left, fun y hy => ?_⟩⟩
      rw [HU.out.mem_from]
      exact ⟨And.left, fun h => ⟨h, by have := HDX.out; omega⟩⟩
theorem cur_ok : MovesOk CurMv where
  keep := by
    rintro w w' F fv M ⟨g, b, Fc, s, h1, h2, h3, h4, h5, h6, h7, h8, h9⟩ hk hs
    exact ⟨g, b, Fc, s, h1, (hk g h7).trans h2, k0_keep h3 (fun i hi => hk i (h8 i hi).1) hs, h4, h5, h6, h7, h8, fun i hi => Nat.lt_of_lt_of_le (h9 i hi) hs⟩
  lt := by
    rintro w F fv M ⟨g, b, Fc, s, h1, h2, h3, h4, h5, h6, h7, h8, h9⟩
    exact h9
  fn := by
    rintro w F fv M ⟨g, b, Fc, s, h1, h2, h3, h4, h5, rfl, h7, h8, h9⟩ _
    exact ⟨_, _, _, h1, enters_of Try.func53 (by kernel_rfl) rfl, fun d _ => by simpa using of1_any h1 h2 h3 h4 h5 h7 h8 h9 d⟩
theorem setsOkC : SetsOk (S0 CurMv) := setsOk_of cur_ok
theorem curLive : CurLive K0 where
  keep := k0_keep
  lt := k0_lt
  new := k0_new
theorem eqCurNil2 (w : World) (p : Option Addr) : (binOp .eql 53 (.pointer p) (.pointer none)).run Try.prog w = .ok (.bool p.isNone) w := by
  have h : ∀ d : Nat, (Op.equalIn (d + 1) 53 (.pointer p) (.pointer none)).run Try.prog w = .ok p.isNone w := fun d => by
    cases p <;> simp [Op.equalIn, run_underlying Try.underlying53]
  simp only [binOp]
  simp [Op.equal, Op.maxDepth, h 9999]
set_option maxHeartbeats 4000000 in
set_option maxRecDepth 100000 in
theorem seOf_any {w : World} {F : Nat → Prop} {b : Nat} {s : CSt} (hk : K0 w F b s) (hw : CWF s) (hv : ValidP s.l) : Calls Try.prog 26 #[.pointer (some ⟨b, 0, none⟩)] w (SetMade (QD CurMv 1) w F (docsFrom s)) := by
  have hep := eqCurNil2
  obtain ⟨w3, hw3⟩ : ∃ z, z = w.alloc (.cells #[.pointer (some ⟨b, 0, none⟩)] 53) := ⟨_, rfl⟩
  have hb3 : Below w.heap.size w w3 := by rw [hw3]; exact (Below.refl _ w).alloc (Nat.le_refl _) _
  have hz3 : w3.heap.size = w.heap.size + 1 := by rw [hw3]; simp
  have hlt := k0_lt hk
  have hmv : CurMv w3 (fun i => F i ∨ w.heap.size ≤ i ∧ i < w3.heap.size) (.func (.func 53) #[] #[at0 w.heap.size]) (docsFrom s) := by
    refine ⟨w.heap.size, b, F, s, rfl, by rw [hw3]; exact Blk.new _ _ _, k0_keep hk (fun i hi => hb3.block i (hlt i hi)) hb3.size, hw, hv, rfl, .inr ⟨Nat.le_refl _, by omega⟩, fun i hi => ⟨.inl hi, by have := hlt i hi; omega⟩, fun i hi => ?_⟩
    rcases hi with hi | hi
    · have := hlt i hi; omega
    · exact hi.2
  have hbeg := seBegin_any (qd_ok cur_ok 1) (.inl hmv) (docs_up hv)
  unfold at0 at hbeg
  have HBEG := Lib.hid (hbeg.mono fun e w' h => made_out hb3 h)
  have HW3 := Lib.hid hw3
  clear hk hw hv hb3 hlt hmv hbeg hw3
  go_enter Try.func26, Try.ntmps26
  go_wp2_with fail
  rw [← HW3.out]
  refine HBEG.out.mono ?_
  rintro e w4 ⟨b, F', rfl, h1, h2, h3⟩
  have HP := Lib.hid (And.intro h1 (And.intro h2 h3))
  clear h1 h2 h3
  go_wp2
  go_ret
  exact ⟨b, F', rfl, HP.out.1, HP.out.2.1, HP.out.2.2⟩
set_option maxHeartbeats 4000000 in
set_option maxRecDepth 100000 in
theorem seOf_none (w : World) : Calls Try.prog 26 #[.pointer none] w (SetMade (QD CurMv 1) w (fun _ => False) []) := by
  have hep := eqCurNil2
  go_enter Try.func26, Try.ntmps26
  go_wp2
  go_ret
  exact made_none w _ _
theorem ofOk : OfOk (S0 CurMv) K0 where
  of := fun w G F b s hk hw hv _ _ => by
    refine (seOf_any hk hw hv).mono ?_
    rintro e w' ⟨b', F', rfl, h1, h2, h3⟩
    exact ⟨_, F', rfl, ⟨1, h1⟩, h2, h3⟩
  none := fun w G _ => (seOf_none w).mono made_set
end Go.Proofs.Ytkligdaademakaa
