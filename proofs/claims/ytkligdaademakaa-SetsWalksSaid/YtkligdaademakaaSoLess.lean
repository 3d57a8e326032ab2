/- The landed sets: Less's function that moves. -/
import Derived.Test.YtkligdaademakaaSoOr
import Derived.StillTailTactics
namespace Go.Proofs.Ytkligdaademakaa
open Go.RowKit Go.Maps Go.WideMaps Go.Shelf
set_option linter.unusedSimpArgs false

/-- Two sets, each pointer in a block of its own. -/
structure PairK (Q : MvP) (w : World) (F : Nat → Prop) (g h : Nat) (x y : SV) : Prop where
  blk : Blk w g 28 #[.pointer x.p]
  blk2 : Blk w h 28 #[.pointer y.p]
  kids : Kids Q w [x, y]
  inF : ∀ v ∈ [x, y], ∀ b, v.F b → F b ∧ b ≠ g ∧ b ≠ h
  mem : F g
  mem2 : F h
  lt : ∀ i, F i → i < w.heap.size
theorem PairK.keep {Q : MvP} (hQ : MovesOk Q) {w w' : World} {F : Nat → Prop} {g k : Nat} {x y : SV} (h : PairK Q w F g k x y) (hk : ∀ b, F b → w'.heap[b]? = w.heap[b]?) (hs : w.heap.size ≤ w'.heap.size) : PairK Q w' F g k x y where
  blk := (hk g h.mem).trans h.blk
  blk2 := (hk k h.mem2).trans h.blk2
  kids := h.kids.keep hQ (fun x hx b hb => hk b (h.inF x hx b hb).1) hs
  inF := h.inF
  mem := h.mem
  mem2 := h.mem2
  lt := fun i hi => Nat.lt_of_lt_of_le (h.lt i hi) hs
/-- They have moved; besides, the result's block was written. -/
theorem PairK.moved {Q : MvP} (hQ : MovesOk Q) {w w1 w2 w3 : World} {F : Nat → Prop} {g k : Nat} {x y x' y' : SV} {d : Int} (h : PairK Q w F g k x y) (h1 : Below w.heap.size w w1) (hr : w.heap.size < w1.heap.size) (hm : Moved Q (kidsF [x, y]) w1 w2 [x, y] [x', y'] d) (h3 : Kept (fun i => i = w.heap.size) w2 w3) : PairK Q w3 (fun i => F i ∨ w.heap.size ≤ i ∧ i < w3.heap.size) g k x' y' ∧ Kept F w w3 := by
  have hz1 := h1.size
  have hz2 := hm.kept.size
  have hz3 := h3.size
  have hng : ¬ kidsF [x, y] g := fun ⟨x, hx, hf⟩ => (h.inF x hx g hf).2.1 rfl
  have hnk : ¬ kidsF [x, y] k := fun ⟨x, hx, hf⟩ => (h.inF x hx k hf).2.2 rfl
  have hkept : Kept F w w3 := ((Kept.below h1).trans hm.kept (fun i _ ⟨x, hx, hf⟩ => (h.inF x hx i hf).1)).trans h3 (fun i hi e => by omega)
  have hsame : ∀ b, b < w.heap.size → (¬ kidsF [x, y] b) → w3.heap[b]? = w.heap[b]? := fun b hb hn => (h3.block b (by omega) (by omega)).trans ((hm.kept.block b (by omega) hn).trans (h1.block b hb))
  have hyF : ∀ v ∈ [x', y'], ∀ b, v.F b → kidsF [x, y] b ∨ w.heap.size < b := fun y hy b hb => (hm.inF y hy b hb).imp id (fun e => by omega)
  have hxl : ∀ b, kidsF [x, y] b → b < w.heap.size := fun b ⟨x, hx, hf⟩ => h.lt b (h.inF x hx b hf).1
  have hp := hm.near 0 x x' rfl rfl
  have hp2 := hm.near 1 y y' rfl rfl
  refine ⟨⟨?_, ?_, hm.kids.keep hQ (fun y hy b hb => h3.block b ((hm.kids.each y hy).lt b hb) (fun (e : b = w.heap.size) => ?_)) hz3, fun v hv b hb => ?_, .inl h.mem, .inl h.mem2, fun i hi => ?_⟩, hkept⟩
  · rw [hp.p]
    exact (hsame g (h.lt g h.mem) hng).trans h.blk
  · rw [hp2.p]
    exact (hsame k (h.lt k h.mem2) hnk).trans h.blk2
  · rcases hyF y hy b hb with h2 | h2
    · have := hxl b h2; omega
    · omega
  · rcases hyF v hv b hb with ⟨x, hx, hf⟩ | h2
    · have := h.inF x hx b hf
      exact ⟨.inl this.1, this.2⟩
    · have h4 := (hm.kids.each v hv).lt b hb
      have h5 := h.lt g h.mem
      have h6 := h.lt k h.mem2
      exact ⟨.inr ⟨by omega, by omega⟩, by omega, by omega⟩
  · rcases hi with hi | hi
    · have := h.lt i hi; omega
    · exact hi.2
theorem Moved.drew {Q : MvP} {G : Nat → Prop} (hQ : MovesOk Q) {w0 w : World} {X Y : List SV} {d : Int} (h : Moved Q G w0 w X Y d) : Moved Q G w0 w.drew X Y d := ⟨h.kids.keep hQ (fun _ _ _ _ => rfl) (Nat.le_refl _), h.len, h.near, h.kept.drew, h.sub, h.inF⟩
def LessMv (Q : MvP) (w : World) (F : Nat → Prop) (fv : Value) (M : List Int) : Prop :=
  ∃ g h x y, fv = .func (.func 44) #[] #[at0 g, at0 h] ∧ PairK Q w F g h x y ∧ M = lessI x.l y.l
/-- How far Less's loop may go on. -/
def lessMeas (a i : Value) : Nat := match i with
  | .bool true => (9223372036854775808 - intOf a).toNat + 1
  | _ => 0
set_option maxHeartbeats 8000000 in
set_option maxRecDepth 100000 in
theorem less1_any {Q Q' : MvP} (hQ : MovesOk Q) (hS : ∀ {w F fv M}, LessMv Q w F fv M → Q' w F fv M) {w : World} {F : Nat → Prop} {fv : Value} {M : List Int} {g k : Nat} {x y : SV} (hfv : fv = .func (.func 44) #[] #[at0 g, at0 k]) (h : PairK Q w F g k x y) (hM : M = lessI x.l y.l) (d : Int) (hd : fits64 d) :
    Calls Try.prog 44 #[.int .i64 d, at0 g, at0 k] w (MoveOut Q' w F fv M d) := by
  have hUM : Up M := by rw [hM]; exact (h.kids.each x (by simp)).up.lessI
  have hmem : ∀ z, z ∈ M ↔ z ∈ x.l ∧ z ∉ y.l := fun z => by rw [hM, mem_less]
  obtain ⟨w1, hw1⟩ : ∃ z, z = w.alloc (.cells #[.int .i64 0, .int .i64 0] 68) := ⟨_, rfl⟩
  have hb1 : Below w.heap.size w w1 := by rw [hw1]; exact (Below.refl _ w).alloc (Nat.le_refl _) _
  have hz1 : w1.heap.size = w.heap.size + 1 := by rw [hw1]; simp
  have hr1 : Blk w1 w.heap.size 68 #[.int .i64 0, .int .i64 0] := by rw [hw1]; exact Blk.new _ _ _
  have hk1 := h.keep hQ (w' := w1) (fun b hb => hb1.block b (h.lt b hb)) hb1.size
  have y0 := hk1.blk.cell 0
  simp only [List.getElem?_toArray, List.getElem?_cons_zero] at y0
  have hkl : ∀ b, kidsF [x, y] b → b < w.heap.size := fun b ⟨x, hx, hf⟩ => h.lt b (h.inF x hx b hf).1
  have hgl := h.lt g h.mem
  have hkl2 := h.lt k h.mem2
  have hm1 : Moved Q (kidsF [x, y]) w1 w1 [x, y] [x, y] d := Moved.start hk1.kids d
  have hto := seTo_any hQ (hk1.kids.each x (by simp)) d hd
  -- what lies in the two blocks, whatever moved
  have hcells : ∀ (w2 : World) (Y : List SV) (e : Int), Moved Q (kidsF [x, y]) w1 w2 [x, y] Y e → Blk w2 g 28 #[.pointer x.p] ∧ Blk w2 k 28 #[.pointer y.p] ∧ Blk w2 w.heap.size 68 #[.int .i64 0, .int .i64 0] := fun w2 Y e hm => ⟨hk1.blk.kept hm.kept (fun ⟨v, hv, hf⟩ => (h.inF v hv _ hf).2.1 rfl), hk1.blk2.kept hm.kept (fun ⟨v, hv, hf⟩ => (h.inF v hv _ hf).2.2 rfl), hr1.kept hm.kept (fun e => by have := hkl _ e; omega)⟩
  obtain ⟨D, hD⟩ : ∃ z, z = (fromL d x.l).headD 0 := ⟨_, rfl⟩
  obtain ⟨I, hI⟩ : ∃ z, z = (fromL d x.l).isEmpty := ⟨_, rfl⟩
  unfold ToOut at hto
  rw [← hD, ← hI] at hto
  have HUX := Lib.hid (h.kids.each x (by simp)).up
  have H := Lib.hid h
  have HUM := Lib.hid hUM
  have HMEM := Lib.hid hmem
  have HB1 := Lib.hid hb1
  have HKL := Lib.hid hkl
  have HM1 := Lib.hid hm1
  have HW1 := Lib.hid hw1
  have HFV := Lib.hid hfv
  have HTO := Lib.hid hto
  have HD := Lib.hid hD
  have HI := Lib.hid hI
  have HCELLS := Lib.hid hcells
  rw [HW1.out] at y0
  clear h hM hUM hmem hb1 hr1 hk1 hkl hm1 hw1 hfv hto hD hI hcells
  unfold at0
  go_enter Try.func44, Try.ntmps44
  go_wp2_with fail
  rw [← HW1.out]
  refine HTO.out.mono ?_
  rintro e w2 ⟨rfl, F', h1, h2, h3⟩
  have hm2 : Moved Q (kidsF [x, y]) w1 w2 [x, y] [⟨x.p, fromL d x.l, F'⟩, y] d := HM1.out.turn (k := 0) hQ rfl h1 h2 h3 (Int.le_refl d)
  have HM2 := Lib.hid hm2
  clear h1 h2 h3 hm2
  go_wp2
  go_loopw [5, 6] (fun av iv wr => ∃ (x' y' : SV) (e : Int), av = .int .i64 (x'.l.headD 0) ∧ iv = .bool (!x'.l.isEmpty) ∧ d ≤ e ∧ Moved Q (kidsF [x, y]) w1 wr [x, y] [x', y'] e ∧ (∀ z ∈ x'.l, e ≤ z) ∧ ∀ z, z ∈ x.l → z ∉ y.l → d ≤ z → e ≤ z) (fun av iv _ => lessMeas av iv)
  case atStart => exact ⟨⟨x.p, fromL d x.l, F'⟩, y, d, by rw [HD.out], by rw [HI.out], Int.le_refl _, HM2.out, fun z hz => ((HUX.out.mem_from d z).1 hz).2, fun z _ _ h => h⟩
  case round =>
    obtain ⟨x', y', e, rfl, rfl, hde, hmv, hxe, hno⟩ := hrel
    have hcl := HCELLS.out _ _ _ hmv
    have HMV := Lib.hid hmv
    have HNO := Lib.hid hno
    have HXE := Lib.hid hxe
    have hux := (hmv.kids.each x' (by simp)).up
    have HUX' := Lib.hid hux
    have hnx := hmv.near 0 x x' rfl rfl
    have hny := hmv.near 1 y y' rfl rfl
    have HNX := Lib.hid hnx
    have HNY := Lib.hid hny
    obtain ⟨D, hD⟩ : ∃ z, z = x'.l.headD 0 := ⟨_, rfl⟩
    obtain ⟨I, hI⟩ : ∃ z, z = x'.l.isEmpty := ⟨_, rfl⟩
    rw [← hD, ← hI]
    have HD := Lib.hid hD
    have HI := Lib.hid hI
    have c0 := hcl.1.cell 0
    have c1 := hcl.2.1.cell 0
    have r0 := hcl.2.2.cell 0
    have r1 := hcl.2.2.cell 1
    have q0 := hcl.2.2.frozen 0
    have q1 := hcl.2.2.frozen 1
    have HR := Lib.hid hcl.2.2
    simp only [List.getElem?_toArray, List.getElem?_cons_zero, List.getElem?_cons_succ] at c0 c1 r0 r1
    clear hmv hno hxe hux hnx hny hcl hD hI
    cases I with
    | true =>
      have hnil : x'.l = [] := List.isEmpty_iff.1 HI.out.symm
      have HEND : Hid (∀ z ∈ M, z < d) := Lib.hid fun z hz => by
        obtain ⟨h1, h2⟩ := (HMEM.out z).1 hz
        rcases Int.lt_or_le z d with h3 | h3
        · exact h3
        · have h4 := (HNX.out.same z (HNO.out z h1 h2 h3)).2 h1
          rw [hnil] at h4
          cases h4
      clear hnil
      go_wp2
      refine bodyPost_ret (results_cell_row rfl _ _ w.heap.size 68 #[.int .i64 0, .int .i64 0] (0, 0) _ rfl ?_ Try.underlying68 rfl runCells) rfl ?_
      · have := (HR.out.set_ 0 (.int .i64 0)).set_ 1 (.int .i64 0)
        unfold Blk at this
        simpa using this
      · have hkF : Kept F w wr := (Kept.below HB1.out).trans HMV.out.kept (fun i _ ⟨x, hx, hf⟩ => (H.out.inF x hx i hf).1)
        exact ⟨0, 0, rfl, (hkF.setCell (.inr (by simp only; omega)) _).setCell (.inr (by simp only; omega)) _, .inl ⟨rfl, HEND.out⟩⟩
    | false =>
      obtain ⟨s1, s2⟩ := HUX'.out.head HI.out.symm
      rw [← HD.out] at s1 s2
      have s3 := HXE.out D s1
      have s4 := HUX'.out.most D s1
      have s5 := HUX'.out.pos D s1
      obtain ⟨ba, ma, fa, hpa, hsa, hra⟩ := stands_at (HMV.out.kids.each x' (by simp)) s1 s2
      have hto := seTo_any hQ (HMV.out.kids.each y' (by simp)) D ⟨by omega, s4⟩
      obtain ⟨E, hE⟩ : ∃ z, z = (fromL D y'.l).headD 0 := ⟨_, rfl⟩
      obtain ⟨J, hJ⟩ : ∃ z, z = (fromL D y'.l).isEmpty := ⟨_, rfl⟩
      unfold ToOut at hto
      rw [← hE, ← hJ] at hto
      rw [HNX.out.p] at hpa
      rw [HNY.out.p] at hto
      have HTO := Lib.hid hto
      have HE := Lib.hid hE
      have HJ := Lib.hid hJ
      have HSA := Lib.hid hsa
      have HRA := Lib.hid hra
      have HPA := Lib.hid hpa
      have HS1 := Lib.hid s1
      have HS2 := Lib.hid s2
      have HUY := Lib.hid (HMV.out.kids.each y' (by simp)).up
      clear hto hE hJ hsa hra s1 s2
      rw [hpa] at c0
      clear hpa
      go_wp2_with fail
      refine HTO.out.mono ?_
      rintro e' w3 ⟨rfl, G', h1, h2, h3⟩
      rw [← HNY.out.p] at h1
      have hm3 : Moved Q (kidsF [x, y]) w1 w3 [x, y] [x', ⟨y'.p, fromL D y'.l, G'⟩] D := (HMV.out.on s3).turn (k := 1) hQ rfl h1 h2 h3 (Int.le_refl D)
      have hcl := HCELLS.out _ _ _ hm3
      have hsa3 := HSA.out.keep hQ (w' := w3) (fun i hi => h2.block i (HSA.out.lt i hi) (HMV.out.kids.far (i := 0) (k := 1) rfl rfl (by omega) i hi)) h2.size
      have HSA3 := Lib.hid hsa3
      have HM3 := Lib.hid hm3
      have HK3 := Lib.hid h1
      have c0 := hcl.1.cell 0
      have c1 := hcl.2.1.cell 0
      have r0 := hcl.2.2.cell 0
      have r1 := hcl.2.2.cell 1
      have q0 := hcl.2.2.frozen 0
      have q1 := hcl.2.2.frozen 1
      have a0 := hsa3.blk.cell 0
      have a1 := hsa3.blk.cell 1
      have HR3 := Lib.hid hcl.2.2
      rw [HPA.out] at c0
      simp only [List.getElem?_toArray, List.getElem?_cons_zero, List.getElem?_cons_succ] at c0 c1 r0 r1 a0 a1
      have HKF : Hid (Kept F w w3) := Lib.hid ((Kept.below HB1.out).trans hm3.kept (fun i _ ⟨x, hx, hf⟩ => (H.out.inF x hx i hf).1))
      -- what holds of an answer that begins at D
      have hans : ∀ (m : Int) (w5 : World), 0 < m → m ≤ ma → (∀ z, D ≤ z → z < D + m → z ∉ y.l) → Kept (fun i => i = w.heap.size) w3 w5 → MoveOut Q' w F fv M d (.returned (.agg #[.int .i64 D, .int .i64 m])) w5 := fun m w5 hm0 hma hny hk5 => by
        obtain ⟨hpk, hkept⟩ := H.out.moved hQ HB1.out (by omega) hm3 hk5
        have hn0 := hm3.near 0 x x' rfl rfl
        have hn1 := hm3.near 1 y _ rfl rfl
        have q1 := HRA.out.low
        have q2 := HRA.out.fit
        have q3 := HRA.out.wide
        refine ⟨D, m, rfl, hkept, .inr ⟨⟨hm0, q1, by omega, by omega, fun z hz => ?_, fun z h4 h5 => ?_⟩, _, lessI x'.l (fromL D y'.l), hS ⟨g, k, _, _, HFV.out, hpk, rfl⟩, HUX'.out.lessI, fun i hi => hi.imp id And.left, fun z hz => ?_⟩⟩
        · obtain ⟨h4, h5⟩ := (HUM.out.mem_from d z).1 hz
          obtain ⟨h6, h7⟩ := (HMEM.out z).1 h4
          exact HS2.out z ((HNX.out.same z (HNO.out z h6 h7 h5)).2 h6)
        · refine (HUM.out.mem_from d z).2 ⟨(HMEM.out z).2 ⟨(hn0.same z h4).1 (HRA.out.all z h4 (by omega)), hny z h4 h5⟩, by omega⟩
        · rw [mem_less, HMEM.out, hn0.same z (by omega)]
          have := hn1.same z (by omega)
          simp only at this
          rw [this]
      have HANS := Lib.hid hans
      clear h1 h2 h3 hm3 hcl hsa3 hans
      cases J with
      | true =>
        have hnil : fromL D y'.l = [] := List.isEmpty_iff.1 HJ.out.symm
        have HNI : Hid (∀ z, D ≤ z → z < D + ma → z ∉ y.l) := Lib.hid fun z h1 _ h2 => by
          have h3 := (HUY.out.mem_from D z).2 ⟨(HNY.out.same z (by omega)).2 h2, h1⟩
          rw [hnil] at h3
          cases h3
        clear hnil
        go_wp2
        refine bodyPost_ret (results_cell_row rfl _ _ w.heap.size 68 #[.int .i64 D, .int .i64 ma] (0, 0) _ rfl ?_ Try.underlying68 rfl runCells) rfl ?_
        · have := (HR3.out.set_ 0 (.int .i64 D)).set_ 1 (.int .i64 ma)
          unfold Blk at this
          simpa using this
        · exact HANS.out ma _ HRA.out.pos (Int.le_refl _) HNI.out (((Kept.refl (fun i => i = w.heap.size) w3).setCell (.inl rfl) _).setCell (.inl rfl) _)
      | false =>
        obtain ⟨s6, s7⟩ := (HUY.out.from D).head HJ.out.symm
        rw [← HE.out] at s6 s7
        have s8 := (HUY.out.mem_from D E).1 s6
        have s9 := HUY.out.most E s8.1
        have hap := HRA.out.pos
        have haw := HRA.out.wide
        by_cases hlt : D < E
        · have d1 : decide (D < E) = true := decide_eq_true hlt
          have hw1 : IntKind.i64.wrap (E - D) = E - D := IntWalk.i64_in _ (by omega)
          have HNI : Hid (∀ z, D ≤ z → z < E → z ∉ y.l) := Lib.hid fun z h1 h4 h2 => by
            have h3 := s7 z ((HUY.out.mem_from D z).2 ⟨(HNY.out.same z (by omega)).2 h2, h1⟩)
            omega
          clear s6 s7 s8
          by_cases hmm : E - D < ma
          · have d2 : decide (E - D < ma) = true := decide_eq_true hmm
            go_wp2
            refine bodyPost_ret (results_cell_row rfl _ _ w.heap.size 68 #[.int .i64 D, .int .i64 (E - D)] (0, 0) _ rfl ?_ Try.underlying68 rfl runCells) rfl ?_
            · have := (HR3.out.set_ 0 (.int .i64 D)).set_ 1 (.int .i64 (E - D))
              unfold Blk at this
              simpa using this
            · exact HANS.out (E - D) _ (by omega) (by omega) (fun z h1 h2 => HNI.out z h1 (by omega)) (((Kept.refl (fun i => i = w.heap.size) w3).setCell (.inl rfl) _).setCell (.inl rfl) _)
          · have d2 : decide (E - D < ma) = false := decide_eq_false hmm
            go_wp2
            refine bodyPost_ret (results_cell_row rfl _ _ w.heap.size 68 #[.int .i64 D, .int .i64 ma] (0, 0) _ rfl ?_ Try.underlying68 rfl runCells) rfl ?_
            · have := (HR3.out.set_ 0 (.int .i64 D)).set_ 1 (.int .i64 ma)
              unfold Blk at this
              simpa using this
            · exact HANS.out ma _ hap (Int.le_refl _) (fun z h1 h2 => HNI.out z h1 (by omega)) (((Kept.refl (fun i => i = w.heap.size) w3).setCell (.inl rfl) _).setCell (.inl rfl) _)
        · obtain rfl : E = D := by omega
          have d1 : decide (E < E) = false := by simp
          obtain ⟨bb, mb, fb, hpb, hsb, hrb⟩ := stands_at HK3.out s6 s7
          rw [HNY.out.p] at hpb
          rw [hpb] at c1
          have b1 := hsb.blk.cell 1
          simp only [List.getElem?_toArray, List.getElem?_cons_zero, List.getElem?_cons_succ] at b1
          have hmb := hrb.pos
          have hmb2 := hrb.wide
          have hmb3 := hrb.fit
          have HRB := Lib.hid hrb
          have HPASS := Lib.hid (sePass_any hQ (w := w3.drew) (HSA3.out.keep hQ (w' := w3.drew) (fun _ _ => rfl) (Nat.le_refl _)) hap mb (by omega) hmb2)
          have HPB := Lib.hid hpb
          clear s6 s7 s8 hpb hsb hrb
          go_wp2_with fail
          go_still_tail 6, (by kernel_rfl)
          change wpList _ _ _ _ _ w3.drew
          go_wp2_with fail
          refine HPASS.out.mono ?_
          rintro e' w4 ⟨rfl, F2, h1, h2, h3⟩
          have hse : (some ⟨ba, 0, none⟩ : Option Addr) = x'.p := by rw [HNX.out.p, HPA.out]
          rw [hse] at h1
          have hm4 : Moved Q (kidsF [x, y]) w1 w4 [x, y] [⟨x'.p, fromL (E + mb) x'.l, F2⟩, ⟨y'.p, fromL E y'.l, G'⟩] (E + mb) := ((HM3.out.drew hQ).on (by omega)).turn (k := 0) hQ rfl h1 h2 h3 (Int.le_refl _)
          have hcl := HCELLS.out _ _ _ hm4
          have hdoc := seDoc_any h1
          have c0 := hcl.1.cell 0
          simp only [List.getElem?_toArray, List.getElem?_cons_zero] at c0
          rw [HNX.out.p] at hdoc
          have HDOC := Lib.hid hdoc
          have HM4 := Lib.hid hm4
          clear h1 h2 h3 hse hm4 hcl hdoc
          go_wp2_with fail
          refine HDOC.out.mono ?_
          rintro e' w5 ⟨rfl, hw⟩
          rw [hw]
          clear hw
          go_wp2
          go_roundw
          case rel => exact ⟨⟨x'.p, fromL (E + mb) x'.l, F2⟩, ⟨y'.p, fromL E y'.l, G'⟩, E + mb, by simp, rfl, by omega, HM4.out, fun z hz => ((HUX'.out.mem_from _ z).1 hz).2, fun z h1 h2 h3 => by
            have h4 := HNO.out z h1 h2 h3
            have h5 := HS2.out z ((HNX.out.same z h4).2 h1)
            rcases Int.lt_or_le z (E + mb) with h6 | h6
            · exact absurd ((HNY.out.same z h4).1 ((HUY.out.mem_from E z).1 (HRB.out.all z h5 h6)).1) h2
            · exact h6⟩
          case measure =>
            have hu := HUX'.out.from (E + mb)
            cases hc : (fromL (E + mb) x'.l).isEmpty with
            | true => simp [lessMeas]
            | false =>
              obtain ⟨h1, _⟩ := hu.head hc
              have h2 := ((HUX'.out.mem_from _ _).1 h1).2
              have h3 := hu.most _ h1
              rw [List.headD_eq_head?_getD] at h2 h3
              simp only [lessMeas, intOf, Bool.not_false]
              omega
end Go.Proofs.Ytkligdaademakaa
