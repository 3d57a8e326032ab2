/- The landed sets: run.from, Doc, Skip. -/
import Derived.Test.YtkligdaademakaaSoLev
namespace Go.Proofs.Ytkligdaademakaa
open Go.RowKit Go.Maps Go.WideMaps Go.Shelf
set_option linter.unusedSimpArgs false

set_option maxRecDepth 100000 in
theorem runCells : (Try.prog.info? 68).map (·.size) = some 2 := by kernel_rfl
/-- What a run is from d on. -/
def fromR (a m d : Int) : Int × Int := if m ≤ max d a - a then (0, 0) else (a + (max d a - a), m - (max d a - a))
set_option maxHeartbeats 4000000 in
set_option maxRecDepth 100000 in
theorem seFrom_any (w : World) (a m d : Int) (hd : fits64 d) (ha : 0 ≤ a) (hm : 0 ≤ m) (hf : a + m ≤ 9223372036854775808) (ha2 : a ≤ 9223372036854775807) (hm2 : m ≤ 9223372036854775807) :
    Calls Try.prog 34 #[.agg #[.int .i64 a, .int .i64 m], .int .i64 d] w fun e w' => e = .returned (.agg #[.int .i64 (fromR a m d).1, .int .i64 (fromR a m d).2]) ∧ Below w.heap.size w w' := by
  unfold fits64 at hd
  obtain ⟨r, hr⟩ : ∃ r, r = fromR a m d := ⟨_, rfl⟩
  rw [← hr]
  have HR := Lib.hid hr
  clear hr
  go_enter Try.func34, Try.ntmps34
  go_wp2
  all_goals refine bodyPost_ret (results_cell_row rfl _ _ (w.heap.size + 1) 68 #[.int .i64 r.1, .int .i64 r.2] (0, 0) _ rfl ?_ Try.underlying68 rfl runCells) rfl ?_
  all_goals first | exact ⟨rfl, ((Below.refl _ w).alloc (Nat.le_refl _) _).alloc (by simp) _⟩ | skip
  all_goals rw [heap_alloc2_new]
  all_goals have hr := HR.out
  all_goals unfold fromR at hr
  · rw [if_pos (by omega)] at hr; rw [hr]
  · rw [if_pos (by omega)] at hr; rw [hr]
  · rw [if_neg (by omega), show max d a - a = 0 by omega] at hr; rw [hr]; simp
  · rw [if_neg (by omega), show max d a - a = d - a by omega] at hr; rw [hr]
/-- What Doc answers. -/
theorem seDoc_any {Q : MvP} {w : World} {F : Nat → Prop} {p : Option Addr} {l : List Int} (h : SetLv Q w F p l) : Calls Try.prog 14 #[.pointer p] w fun e w' => e = .returned (.tuple #[.int .i64 (l.headD 0), .bool (!l.isEmpty)]) ∧ w' = w := by
  rcases h with ⟨rfl, rfl, _⟩ | ⟨b, a, m, fv, rfl, h⟩
  · go_enter Try.func14, Try.ntmps14
    go_wp2
    go_ret2
    exact ⟨rfl, rfl⟩
  · have c0 := h.blk.cell 0
    have c1 := h.blk.cell 1
    simp only [List.getElem?_toArray, List.getElem?_cons_zero, List.getElem?_cons_succ] at c0 c1
    rcases h.st with ⟨rfl, rfl⟩ | ⟨h1, _⟩
    · clear h
      go_enter Try.func14, Try.ntmps14
      go_wp2
      go_ret2
      exact ⟨rfl, rfl⟩
    · obtain ⟨h2, h3⟩ := h1.head h.up
      rw [h2, h3]
      have d1 : (m == 0) = false := beq_eq_false_iff_ne.2 (by have := h1.pos; omega)
      clear h h1 h2 h3
      go_enter Try.func14, Try.ntmps14
      go_wp2
      go_ret2
      exact ⟨rfl, rfl⟩
set_option maxHeartbeats 4000000 in
set_option maxRecDepth 100000 in
theorem seSkip_any {Q : MvP} (hQ : MovesOk Q) {w : World} {F : Nat → Prop} {p : Option Addr} {l : List Int} (h : SetLv Q w F p l) (d : Int) (hd : fits64 d) : Calls Try.prog 18 #[.pointer p, .int .i64 d] w (SetOut2 Q w F p (fromL d l)) := by
  have HDOC := Lib.hid (seDoc_any h)
  have HS := Lib.hid h
  rcases h with ⟨rfl, rfl, hlt⟩ | ⟨b, a, m, fv, rfl, h⟩
  · clear HDOC
    have HDOC := Lib.hid (seDoc_any (Q := Q) (w := w) (F := F) (p := none) (l := []) (.inl ⟨rfl, rfl, hlt⟩))
    clear hlt
    go_enter Try.func18, Try.ntmps18
    go_wp2_with fail
    refine HDOC.out.mono ?_
    rintro e w1 ⟨rfl, hw⟩
    rw [hw]
    clear hw
    go_wp2
    go_ret
    exact ⟨rfl, F, HS.out, Kept.refl _ _, fun i hi => .inl hi⟩
  · rcases h.st with ⟨rfl, rfl⟩ | ⟨h1, F', M, h2, h3, h4, h5⟩
    · clear h
      go_enter Try.func18, Try.ntmps18
      go_wp2_with fail
      refine HDOC.out.mono ?_
      rintro e w1 ⟨rfl, hw⟩
      rw [hw]
      clear hw
      go_wp2
      go_ret
      exact ⟨rfl, F, HS.out, Kept.refl _ _, fun i hi => .inl hi⟩
    · obtain ⟨q2, q3⟩ := h1.head h.up
      rw [q2, q3] at HDOC
      have H := Lib.hid h
      have H1 := Lib.hid h1
      have HBK := Lib.hid h.blk
      have hlow := h1.low
      have hpos := h1.pos
      have hfit := h1.fit
      have hwide := h1.wide
      have c0 := h.blk.cell 0
      have c1 := h.blk.cell 1
      have c2 := h.blk.cell 2
      have z0 := h.blk.frozen 0
      have z1 := h.blk.frozen 1
      simp only [List.getElem?_toArray, List.getElem?_cons_zero, List.getElem?_cons_succ] at c0 c1 c2
      have HFR := Lib.hid (seFrom_any w a m d hd hlow (by omega) hfit (by omega) (by omega))
      obtain ⟨f, first, cap, rfl, hen, hcl⟩ := hQ.fn h2 h3
      have HU := Lib.hid h.up
      have HLT := Lib.hid h.lt
      have HMEM := Lib.hid h.mem
      have H2 := Lib.hid h2
      have H3 := Lib.hid h3
      have H4 := Lib.hid h4
      have H5 := Lib.hid h5
      have hbl := h.blk.lt
      clear h h1 h2 h3 h4 h5 q2 q3 hcl
      go_enter Try.func18, Try.ntmps18
      go_wp2_with fail
      refine HDOC.out.mono ?_
      rintro e w1 ⟨rfl, hw⟩
      rw [hw]
      clear hw
      by_cases hk : m ≤ max d a - a
      · have hfr : fromR a m d = (0, 0) := by unfold fromR; rw [if_pos hk]
        rw [hfr] at HFR
        have HKK := Lib.hid hk
        clear hk hfr
        go_wp2_with fail
        refine HFR.out.mono ?_
        rintro e w2 ⟨rfl, hb2⟩
        have hz2 := hb2.size
        obtain ⟨w3, hw3⟩ : ∃ w3, w3 = w2.alloc (.cells #[.int .i64 0, .int .i64 0] 68) := ⟨_, rfl⟩
        have hb3 : Below w.heap.size w w3 := by rw [hw3]; exact hb2.alloc hz2 _
        have hg3 : Blk w3 w2.heap.size 68 #[.int .i64 0, .int .i64 0] := by rw [hw3]; exact Blk.new _ _ _
        have hz3 : w3.heap.size = w2.heap.size + 1 := by rw [hw3]; simp
        have HB3 := Lib.hid hb3
        have HW3 := Lib.hid hw3
        have HG3 := Lib.hid hg3
        have hbk3 := HBK.out.below hb3 hbl
        have y2 := hbk3.cell 2
        have g1 := hg3.cell 1
        simp only [List.getElem?_toArray, List.getElem?_cons_zero, List.getElem?_cons_succ] at y2 g1
        have hQ3 : Q w3 F' (.func (.func f) first cap) M := hQ.keep H2.out (fun i hi => hb3.block i (HLT.out i (H4.out i hi).1)) hb3.size
        have HC := Lib.hid (hQ.call hQ3 H3.out hd)
        clear hb2 hb3 hg3 hw3 hbk3 hQ3
        rw [HW3.out] at y2 g1
        go_wp2_with fail
        rw [← HW3.out]
        refine HC.out.mono ?_
        rintro e w4 ⟨a2, m2, rfl, hk4, hcase⟩
        have hng : ¬ F' w2.heap.size := fun e => by have := HLT.out _ (H4.out _ e).1; omega
        have hnb : ¬ F' b := fun e => (H4.out _ e).2 rfl
        have hg4 := HG3.out.kept hk4 hng
        have hbk4 := (HBK.out.below HB3.out hbl).kept hk4 hnb
        have g0 := hg4.cell 0
        have g1 := hg4.cell 1
        have v0 := hg4.frozen 0
        have v1 := hg4.frozen 1
        simp only [List.getElem?_toArray, List.getElem?_cons_zero, List.getElem?_cons_succ] at g0 g1
        obtain ⟨w5, hw5⟩ : ∃ z, z = (w4.setCell ⟨w2.heap.size, 0, none⟩ (.int .i64 a2)).setCell ⟨w2.heap.size, 1, none⟩ (.int .i64 m2) := ⟨_, rfl⟩
        have hbk5 : Blk w5 b 71 #[.int .i64 a, .int .i64 m, .func (.func f) first cap] := by rw [hw5]; exact (hbk4.far (by simp only; omega) _).far (by simp only; omega) _
        have y0 := hbk5.cell 0
        have y1 := hbk5.cell 1
        have x0 := hbk5.frozen 0
        have x1 := hbk5.frozen 1
        simp only [List.getElem?_toArray, List.getElem?_cons_zero, List.getElem?_cons_succ] at y0 y1
        have hk5 : Kept F w w5 := by
          rw [hw5]
          refine ((Kept.trans (F := F) (Kept.below HB3.out) hk4 (fun i _ hi => (H4.out i hi).1)).setCell (.inr ?_) _).setCell (.inr ?_) _
          · simp only; omega
          · simp only; omega
        have HK5 := Lib.hid hk5
        have HBK5 := Lib.hid hbk5
        have hz4 := hk4.size
        have hz5 : w5.heap.size = w4.heap.size := by rw [hw5, size_setCell', size_setCell']
        have hq5 : ∀ (G : Nat → Prop) (N : List Int), Q w4 G (.func (.func f) first cap) N → (∀ i, G i → F' i ∨ w3.heap.size ≤ i) → Q w5 G (.func (.func f) first cap) N := fun G N h hG => hQ.keep h (fun i hi => by
          have hne : i ≠ w2.heap.size := by
            rcases hG i hi with h1 | h1
            · intro e; subst e; exact hng h1
            · omega
          rw [hw5, heap_setCell_other _ _ _ (by simp only; omega), heap_setCell_other _ _ _ (by simp only; omega)]) (by omega)
        have HQ5 := Lib.hid hq5
        have HNB := Lib.hid hnb
        have hdm : a + m ≤ d := by have := HKK.out; omega
        have HFL : Hid (∀ x, x ∈ fromL d l ↔ x ∈ M ∧ d ≤ x) := Lib.hid (fun x => by
          rw [HU.out.mem_from]
          constructor
          · rintro ⟨q1, q2⟩; exact ⟨(H5.out x (by omega)).1 q1, q2⟩
          · rintro ⟨q1, q2⟩; exact ⟨(H5.out x (by omega)).2 q1, q2⟩)
        rw [hw5] at y0 y1 x0 x1
        have HW5 := Lib.hid hw5
        clear hk4 hng hnb hg4 hbk4 hbk5 hk5 hq5 hw5
        rcases hcase with ⟨rfl, hall⟩ | ⟨hrun, G, N, hq, hun, hG, hrest⟩
        · have hnil : fromL d l = [] := List.eq_nil_iff_forall_not_mem.2 fun x hx => by
            obtain ⟨q1, q2⟩ := (HFL.out x).1 hx
            have := hall x q1
            omega
          have HNIL := Lib.hid hnil
          clear hnil hall
          go_wp2
          go_ret
          rw [← HW5.out, HNIL.out]
          refine ⟨rfl, F, .inr ⟨b, a2, 0, .func (.func f) first cap, rfl, SetB.ended HMEM.out (fun i hi => ?_) ?_⟩, (HK5.out.setCell (.inl HMEM.out) _).setCell (.inl HMEM.out) _, fun i hi => .inl hi⟩
          · have := HLT.out i hi
            rw [size_setCell', size_setCell']
            omega
          · simpa using (HBK5.out.set_ 0 (.int .i64 a2)).set_ 1 (.int .i64 0)
        · have hfl : fromL d l = fromL d M := (HU.out.from d).ext (H3.out.from d) fun x => by rw [HFL.out, H3.out.mem_from]
          have hrun2 : RunOf (fromL d l) a2 m2 := by rw [hfl]; exact hrun
          have hbe := (hrun2.head (HU.out.from d)).2
          have d2 : decide (0 < m2) = true := decide_eq_true hrun.pos
          have HRUN := Lib.hid hrun2
          have HBE := Lib.hid hbe
          have hle : d ≤ a2 := ((H3.out.mem_from d a2).1 hrun.mem).2
          have HP := Lib.hid (And.intro (HQ5.out G N hq hG) (And.intro hun (And.intro hG hrest)))
          clear hfl hrun hrun2 hbe hq hun hG hrest
          go_wp2
          go_ret
          rw [← HW5.out]
          obtain ⟨hq, hun, hG, hrest⟩ := HP.out
          refine ⟨by rw [HBE.out]; rfl, fun i => F i ∨ w.heap.size ≤ i ∧ i < w5.heap.size, .inr ⟨b, a2, m2, .func (.func f) first cap, rfl, HU.out.from d, .inl HMEM.out, fun i hi => ?_, ?_, .inr ⟨HRUN.out, G, N, hQ.keep hq (fun i hi => ?_) ?_, hun, fun i hi => ⟨?_, ?_⟩, fun x hx => ?_⟩⟩, (HK5.out.setCell (.inl HMEM.out) _).setCell (.inl HMEM.out) _, fun i hi => hi.imp id And.left⟩
          · rw [size_setCell', size_setCell']
            rcases hi with hi | hi
            · have := HLT.out i hi; omega
            · omega
          · simpa using (HBK5.out.set_ 0 (.int .i64 a2)).set_ 1 (.int .i64 m2)
          · have hne : i ≠ b := by
              rcases hG i hi with h1 | h1
              · intro e; subst e; exact HNB.out h1
              · omega
            rw [heap_setCell_other _ _ _ (by simp only; omega), heap_setCell_other _ _ _ (by simp only; omega)]
          · rw [size_setCell', size_setCell']
            exact Nat.le_refl _
          · rcases hG i hi with h1 | h1
            · exact .inl (H4.out i h1).1
            · have h2 := hQ.lt hq i hi
              right; omega
          · rcases hG i hi with h1 | h1
            · intro e; subst e; exact HNB.out h1
            · omega
          · rw [HFL.out, hrest x hx]
            constructor
            · rintro ⟨q1, _⟩; exact q1
            · intro q1; exact ⟨q1, by have := HRUN.out.pos; omega⟩
      · have hfr : fromR a m d = (a + (max d a - a), m - (max d a - a)) := by unfold fromR; rw [if_neg hk]
        have hon := H1.out.on HU.out (d := d) (by omega)
        obtain ⟨a2, ha2⟩ : ∃ z, z = a + (max d a - a) := ⟨_, rfl⟩
        obtain ⟨m2, hm2⟩ : ∃ z, z = m - (max d a - a) := ⟨_, rfl⟩
        rw [hfr, ← ha2, ← hm2] at HFR
        rw [← ha2, ← hm2] at hon
        have hsum : a2 + m2 = a + m := by omega
        have hda : a ≤ a2 ∧ d ≤ a2 := by omega
        have d1 : (m2 == 0) = false := beq_eq_false_iff_ne.2 (by have := hon.pos; omega)
        have d2 : decide (0 < m2) = true := decide_eq_true hon.pos
        have HON := Lib.hid hon
        have HSUM := Lib.hid hsum
        clear hfr hon ha2 hm2 hsum hk
        go_wp2_with fail
        refine HFR.out.mono ?_
        rintro e w2 ⟨rfl, hb2⟩
        have hz2 := hb2.size
        have hbk2 := (HBK.out.below hb2 hbl).alloc (.cells #[.int .i64 a2, .int .i64 m2] 68)
        have y0 := hbk2.cell 0
        have y1 := hbk2.cell 1
        have x0 := hbk2.frozen 0
        have x1 := hbk2.frozen 1
        simp only [List.getElem?_toArray, List.getElem?_cons_zero, List.getElem?_cons_succ] at y0 y1
        have HB2 := Lib.hid hb2
        clear hb2 hbk2
        have HB3 := Lib.hid (HB2.out.alloc HB2.out.size (.cells #[.int .i64 a2, .int .i64 m2] 68))
        have HBK2 := Lib.hid ((HBK.out.below HB2.out hbl).alloc (.cells #[.int .i64 a2, .int .i64 m2] 68))
        have HNE : Hid ((!(fromL d l).isEmpty) = true) := Lib.hid (by rw [(HON.out.head (HU.out.from d)).2]; rfl)
        go_wp2
        go_ret
        obtain ⟨w3, hw3⟩ : ∃ z, z = w2.alloc (.cells #[.int .i64 a2, .int .i64 m2] 68) := ⟨_, rfl⟩
        rw [← hw3] at HB3 HBK2 ⊢
        have hz3 := HB3.out.size
        refine ⟨by rw [HNE.out]; rfl, F, .inr ⟨b, a2, m2, .func (.func f) first cap, rfl, HU.out.from d, HMEM.out, fun i hi => ?_, ?_, .inr ⟨HON.out, F', M, hQ.keep H2.out (fun i hi => ?_) ?_, H3.out, H4.out, fun x hx => ?_⟩⟩, ((Kept.below HB3.out).setCell (.inl HMEM.out) _).setCell (.inl HMEM.out) _, fun i hi => .inl hi⟩
        · rw [size_setCell', size_setCell']
          have := HLT.out i hi
          omega
        · simpa using (HBK2.out.set_ 0 (.int .i64 a2)).set_ 1 (.int .i64 m2)
        · have h1 := H4.out i hi
          rw [heap_setCell_other _ _ _ (by simp only; exact h1.2), heap_setCell_other _ _ _ (by simp only; exact h1.2)]
          exact HB3.out.block i (HLT.out i h1.1)
        · rw [size_setCell', size_setCell']
          exact hz3
        · have h1 := HSUM.out
          have h2 := HON.out.pos
          rw [HU.out.mem_from, H5.out x (by omega)]
          constructor
          · rintro ⟨q1, _⟩; exact q1
          · intro q1; exact ⟨q1, by omega⟩
end Go.Proofs.Ytkligdaademakaa
