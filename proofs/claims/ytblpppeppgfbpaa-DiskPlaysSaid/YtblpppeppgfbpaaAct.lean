/- What all acts have in common: the power and the fuse first, and only what is done counts. -/
import Derived.Test.YtblpppeppgfbpaaNames
namespace Go.Proofs.Ytblpppeppgfbpaa
open Go.RowKit Go.Maps

/-- The disk's own block is written (not the maps, nor the row of changes). -/
theorem IsDisk.atB {w w' : World} {F : Nat → Prop} {b : Nat} {s : St} {bn bo : Nat} {cv : Value} {cls : List Value} {fv : Nat → Value} (h : IsDisk w F b s bn bo cv cls fv)
    (hb : ∀ i, i ≠ b → w'.heap[i]? = w.heap[i]?) (hs : w.heap.size ≤ w'.heap.size) {a : Nat} {f : Int} {d : Bool}
    (blk : Blk w' b 70 #[.int .i64 s.room, .map (some bn), .map (some bo), cv, .int .i64 a, .int .i64 f, .bool d]) (f1 : -1 ≤ f) (f2 : f ≤ 9223372036854775807) :
    IsDisk w' F b { s with acts := a, fuse := f, down := d } bn bo cv cls fv where
  wf := ⟨h.wf.now_id, h.wf.old_id, h.wf.chs_id, h.wf.fit, h.wf.nnow, h.wf.nold, h.wf.okc, h.wf.eff, h.wf.room, f1, f2⟩
  blk := blk
  now := ownsMap_block h.now (hb _ (h.blk.ne_map h.now).symm)
  old := ownsMap_block h.old (hb _ (h.blk.ne_map h.old).symm)
  nob := h.nob
  row := ownsRow_block h.row fun g hg => hb g (fun e => own_blk_ne h.row h.blk (by decide) (by rw [hg, e]))
  reps := fun j v c h1 h2 => by
    have hr := h.reps j v c h1 h2
    cases c with
    | create k i =>
      obtain ⟨bf, bk, e, k1, k2, f1, f2, hl⟩ := hr
      exact ⟨bf, bk, e, k1.same (hb _ (k1.ne_ h.blk (by decide))), k2.same (hb _ (k2.ne_ h.blk (by decide))), f1, f2, hl⟩
    | rename x y =>
      obtain ⟨bf, bk, e, k1, k2, f1, f2, hl⟩ := hr
      exact ⟨bf, bk, e, k1.same (hb _ (k1.ne_ h.blk (by decide))), k2.same (hb _ (k2.ne_ h.blk (by decide))), f1, f2, hl⟩
    | remove k =>
      obtain ⟨bk, e, k1, f1, hl⟩ := hr
      exact ⟨bk, e, k1.same (hb _ (k1.ne_ h.blk (by decide))), f1, hl⟩
  files := fun i hi => (h.files i hi).frame (hb _ ((h.files i hi).1.ne_ h.blk (by decide))) fun g hg => hb g (fun e => own_blk_ne (h.files i hi).2 h.blk (by decide) (by rw [hg, e]))
  apart := h.apart
  fb := h.fb
  fn := h.fn
  fo := h.fo
  fc := h.fc
  fi := h.fi
  fd := h.fd
  lt := fun i hi => Nat.lt_of_lt_of_le (h.lt i hi) hs

/-- What an act comes to: n is what it answers, s' the disk behind it, T what its own part may do. -/
def ActEnd (s : St) (T : Int → St → Prop) (n : Int) (s' : St) : Prop :=
  ((s.fuse = 0 ∨ s.down = true) ∧ n = 14 ∧ s' = { s with down := true }) ∨
  (s.fuse ≠ 0 ∧ s.down = false ∧ ∃ s1, T n s1 ∧ s1.acts = s.acts ∧ s1.fuse = s.fuse ∧ s1.down = s.down ∧ ((n ≠ 0 ∧ s' = s1) ∨ (n = 0 ∧ s' = { s1 with acts := s1.acts + 1, fuse := if 0 < s1.fuse then s1.fuse - 1 else s1.fuse })))
/-- How a call leaves the disk at b: its answer n, its state s', and where it lies. -/
def Left (w : World) (F : Nat → Prop) (b : Nat) (T : Int → St → Prop) (e : Ending) (w' : World) : Prop :=
  ∃ (n : Int) (s' : St) (F' : Nat → Prop), e = .returned (.int .i64 n) ∧ T n s' ∧ Disk w' F' b s' ∧ Kept F w w' ∧ ∀ i, F' i → F i ∨ w.heap.size ≤ i

set_option maxHeartbeats 1000000 in
theorem act_any (f : Nat) (cap : Array Value) (eg : ∀ args w, (callFunc f args).run Try.prog w = .ok (.enter f args) w) {w : World} {F : Nat → Prop} {b : Nat} {s : St} (hD : Disk w F b s) (ha : s.acts < 1099511627776) (T : Int → St → Prop)
    (hcl : s.fuse ≠ 0 → s.down = false → Calls Try.prog f cap w (Left w F b fun n s' => T n s' ∧ s'.acts = s.acts ∧ s'.fuse = s.fuse ∧ s'.down = s.down)) :
    Calls Try.prog 50 #[at0 b, .func (.func f) #[] cap] w (Left w F b (ActEnd s T)) := by
  obtain ⟨bn, bo, cv, cls, fv, hd⟩ := hD
  have hb := hd.blk
  have hfb := hd.fb
  have c5 := hb.cell 5
  have c6 := hb.cell 6
  have z6 := hb.frozen 6
  simp at c5 c6
  have HD := Lib.hid hd; clear hd
  unfold at0
  by_cases h0 : s.fuse = 0
  · rw [h0] at c5
    have HH := Lib.hid h0; clear h0
    have HB := Lib.hid hb; clear hb
    go_enter Try.func50, Try.ntmps50
    go_wp2
    go_ret
    have hd := HD.out
    refine ⟨14, _, F, rfl, .inl ⟨.inl HH.out, rfl, rfl⟩, ⟨bn, bo, cv, cls, fv, hd.atB (fun i hi => heap_setCell_other _ _ _ hi) (by rw [size_setCell']; exact Nat.le_refl _) (d := true) (by simpa using HB.out.set_ 6 (.bool true)) hd.wf.fuse1 hd.wf.fuse2⟩, (Kept.refl F w).setCell (.inl hfb) _, fun i hi => .inl hi⟩
  have e0 : (s.fuse == 0) = false := by simpa using h0
  by_cases hdn : s.down = true
  · rw [hdn] at c6
    have HH := Lib.hid hdn; clear hdn
    have HB := Lib.hid hb; clear hb
    have H0 := Lib.hid h0; clear h0
    go_enter Try.func50, Try.ntmps50
    go_wp2
    go_ret
    have hd := HD.out
    refine ⟨14, s, F, rfl, .inl ⟨.inr HH.out, rfl, ?_⟩, ⟨bn, bo, cv, cls, fv, hd⟩, Kept.refl F w, fun i hi => .inl hi⟩
    have := HH.out
    cases s; simp_all
  have hdn' : s.down = false := by simpa using hdn
  have HC := Lib.hid (hcl h0 hdn')
  rw [hdn'] at c6
  have H0 := Lib.hid h0
  have HDN := Lib.hid hdn'
  clear hdn hdn' h0 hcl hb
  go_enter Try.func50, Try.ntmps50
  go_wp2_with fail
  refine HC.out.mono ?_
  rintro e w1 ⟨n, s1, F1, rfl, ⟨hT, ea, ef, ed⟩, ⟨bn1, bo1, cv1, cls1, fv1, hd1⟩, hk, hF⟩
  have hb1 := hd1.blk
  have d4 := hb1.cell 4
  have d5 := hb1.cell 5
  have y4 := hb1.frozen 4
  have y5 := hb1.frozen 5
  have hfb1 := hd1.fb
  simp at d4 d5
  have hw1 := hd1.wf.fuse1
  have hw2 := hd1.wf.fuse2
  have hw3 : s1.acts < 1099511627776 := by omega
  have HD1 := Lib.hid hd1
  have HB1 := Lib.hid hb1
  have EA := Lib.hid ea
  have EF := Lib.hid ef
  have ED := Lib.hid ed
  clear hd1 hb1 ea ef ed
  by_cases hn : n = 0
  · subst hn
    by_cases hf : 0 < s1.fuse
    · go_wp2
      go_ret
      have hd := HD1.out
      refine ⟨0, _, F1, rfl, .inr ⟨H0.out, HDN.out, s1, hT, EA.out, EF.out, ED.out, .inr ⟨rfl, rfl⟩⟩, ⟨bn1, bo1, cv1, cls1, fv1, ?_⟩, ((hk.setCell (.inl hfb) _).setCell (.inl hfb) _), hF⟩
      rw [if_pos hf]
      have h1 := hd.atB (w' := (w1.setCell ⟨b, 4, none⟩ (.int .i64 (s1.acts + 1))).setCell ⟨b, 5, none⟩ (.int .i64 (s1.fuse - 1))) (a := s1.acts + 1) (f := s1.fuse - 1) (d := s1.down)
        (fun i hi => (heap_setCell_other _ _ _ hi).trans (heap_setCell_other _ _ _ hi)) (by rw [size_setCell', size_setCell']; exact Nat.le_refl _)
        (by simpa using (HB1.out.set_ 4 (.int .i64 (s1.acts + 1))).set_ 5 (.int .i64 (s1.fuse - 1))) (by omega) (by omega)
      exact h1
    · go_wp2
      go_ret
      have hd := HD1.out
      refine ⟨0, _, F1, rfl, .inr ⟨H0.out, HDN.out, s1, hT, EA.out, EF.out, ED.out, .inr ⟨rfl, rfl⟩⟩, ⟨bn1, bo1, cv1, cls1, fv1, ?_⟩, (hk.setCell (.inl hfb) _), hF⟩
      rw [if_neg (show ¬ 0 < s1.fuse by omega)]
      have h1 := hd.atB (w' := w1.setCell ⟨b, 4, none⟩ (.int .i64 (s1.acts + 1))) (a := s1.acts + 1) (f := s1.fuse) (d := s1.down)
        (fun i hi => heap_setCell_other _ _ _ hi) (by rw [size_setCell']; exact Nat.le_refl _)
        (by simpa using HB1.out.set_ 4 (.int .i64 (s1.acts + 1))) hw1 hw2
      exact h1
  · have en : (n != 0) = true := by simpa using hn
    have HN := Lib.hid hn
    clear hn
    go_wp2
    go_ret
    exact ⟨n, s1, F1, rfl, .inr ⟨H0.out, HDN.out, s1, hT, EA.out, EF.out, ED.out, .inl ⟨HN.out, rfl⟩⟩, ⟨bn1, bo1, cv1, cls1, fv1, HD1.out⟩, hk, hF⟩
end Go.Proofs.Ytblpppeppgfbpaa
