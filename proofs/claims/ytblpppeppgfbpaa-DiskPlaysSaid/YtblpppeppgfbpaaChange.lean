/- A change of the directory: done, and kept for a crash. -/
import Derived.Test.YtblpppeppgfbpaaEffs
namespace Go.Proofs.Ytblpppeppgfbpaa
open Go.RowKit Go.Maps Go.WideMaps

theorem fnInfo : (Try.prog.info? 84).map (fun i => (i.zero, i.size, i.bytes)) = some (some .nilFunc, 1, 8) := by kernel_rfl

set_option maxHeartbeats 2000000 in
set_option maxRecDepth 100000 in
theorem change_any (f : Nat) (cap : Array Value) (eg : ∀ args w, (callFunc f args).run Try.prog w = .ok (.enter f args) w) {w : World} {F : Nat → Prop} {b : Nat} {s : St} {bn bo : Nat} {cv : Value} {cls : List Value} {fv : Nat → Value} (hd : IsDisk w F b s bn bo cv cls fv)
    (hm : s.mid = false) (c : Ch) (hcs : s.chs.length < 1099511627776) (hok : c.ok s.now) (hid : c.idOk s.ids) (hlen : (c.eff s.now).length ≤ 64) (hnow : ∀ p ∈ c.eff s.now, p.2 ∈ s.ids) (hr : chRep w F (.func (.func f) #[] cap) c)
    (heff : Calls Try.prog f (#[.map (some bn)] ++ cap) w fun e w' => e = .returned (.tuple #[]) ∧ dirAt w' bn (c.eff s.now) ∧ w.grownBy w' (some bn)) :
    Calls Try.prog 52 #[at0 b, .func (.func f) #[] cap] w fun e w' => e = .returned (.tuple #[]) ∧ Disk w' (Own F w w') b { s with now := c.eff s.now, chs := s.chs ++ [c] } ∧ Kept F w w' := by
  obtain ⟨i0, hi, hz0, hz1, hz2⟩ := info_parts fnInfo
  have hb := hd.blk
  have c1 := hb.cell 1
  simp at c1
  have hnb : b ≠ bn := hb.ne_map hd.now
  have hnc : cv.ownBlock ≠ some b := own_blk_ne hd.row hb (by decide)
  have hnm : cv.ownBlock ≠ some bn := own_map_ne hd.row hd.now
  have HD := Lib.hid hd
  have HE := Lib.hid heff
  have HX := Lib.hid hnb
  have HNC := Lib.hid hnc
  have HNM := Lib.hid hnm
  have hrow := hd.row
  have hlt := hd.lt
  have hfb := hd.fb
  have hfn := hd.fn
  have hfc := hd.fc
  have HOK := Lib.hid hok
  have HID := Lib.hid hid
  have HLEN := Lib.hid hlen
  have HNOW := Lib.hid hnow
  have HR := Lib.hid hr
  clear hd heff hb hnb hnc hnm hok hid hlen hnow hr
  unfold at0
  go_enter Try.func52, Try.ntmps52
  go_wp2_with fail
  refine (Hid.out HE).mono ?_
  rintro e w1 ⟨rfl, hdir, hg1⟩
  have hb1 := HD.out.blk.grown hg1 (by have := HX.out; simpa using this)
  have d3 := hb1.cell 3
  simp at d3
  have hrow1 := hrow.kept hg1 (.inr HNM.out)
  have HB1 := Lib.hid hb1
  have HDIR := Lib.hid hdir
  clear hdir hb1
  have hs1 := hg1.size
  go_wp2_with (at_builtin; refine wpList_append_own_at _ rfl _ _ 68 rfl 0 84 i0 .nilFunc 1 8 Try.underlying68 hi hz0 hz1 hz2 rfl (by decide) cv s.chs.length cls rfl (hrow1.alloc _) ⟨w1.heap.size, 0, none⟩ 1 1 [.func (.func f) #[] cap] rfl rfl (cell_one_new _ _ _) (by simp [Value.oneCell']) (by unfold maxLen; omega) (by omega) (Nat.zero_le _) ?_; intro v' w2 hown' hg2 hnil hloc; obtain ⟨A, cp, hv⟩ := own_slice hown'; rw [hv]; clear hnil; have HV := Lib.hid hv; clear hv; have HB2 := Lib.hid ((HB1.out.alloc (.cells #[.func (.func f) #[] cap] 84)).grown hg2 (fun e => HNC.out e.symm)); have z3 := HB2.out.frozen 3; have e3 := HB2.out.cell 3; simp at e3)
  go_end0
  have hd := HD.out
  have hv := HV.out
  rw [← hv]
  have hsz : w.heap.size ≤ w2.heap.size := Nat.le_trans hs1 (Nat.le_trans (by simp) hg2.size)
  have hcells : ∀ i, i < w.heap.size → i ≠ bn → cv.ownBlock ≠ some i → i ≠ b → (w2.setCell ⟨b, 3, none⟩ v').heap[i]? = w.heap[i]? := fun i hi h1 h2 h3 => by
    rw [heap_setCell_other _ _ _ h3, hg2.block i (by simp; omega) (fun e => h2 e.symm), Below.heap_alloc _ _ _ (by omega), hg1.block i hi (by simpa using h1)]
  have hkept : Kept F w (w2.setCell ⟨b, 3, none⟩ v') := by
    refine ((((Kept.refl F w).grown hg1 ?_).alloc _).grown hg2 ?_).setCell (.inl hfb) _
    · intro k hk; cases hk; exact .inl hfn
    · intro k hk; exact .inl (hfc k hk)
  have hFlt : ∀ i, Own F w (w2.setCell ⟨b, 3, none⟩ v') i → i < (w2.setCell ⟨b, 3, none⟩ v').heap.size := fun i hi => by
    rcases hi with h | h
    · have := hlt i h; rw [size_setCell']; omega
    · exact h.2
  have hdir2 : dirAt (w2.setCell ⟨b, 3, none⟩ v') bn (c.eff s.now) := by
    refine ownsMap_block HDIR.out ?_
    rw [heap_setCell_other _ _ _ (fun e => HX.out e.symm), hg2.block bn (by simp; have := hlt bn hfn; omega) (fun e => HNM.out e.symm), Below.heap_alloc _ _ _ (by have := hlt bn hfn; omega)]
  have hrow2 : (w2.setCell ⟨b, 3, none⟩ v').ownsRow 0 84 1 v' (s.chs.length + 1) (cls ++ [.func (.func f) #[] cap]) := by
    refine ownsRow_block hown' fun g hg => heap_setCell_other _ _ _ fun e => ?_
    exact own_blk_ne hown' HB2.out (by decide) (by rw [hg, e])
  refine ⟨rfl, ⟨bn, bo, v', cls ++ [.func (.func f) #[] cap], fv, ?_⟩, hkept⟩
  have hcl : cls.length = s.chs.length := by simpa using hd.row.1
  exact {
    wf := ⟨HNOW.out, hd.wf.old_id, fun x hx => by
        rcases List.mem_append.1 hx with h | h
        · exact hd.wf.chs_id x h
        · simp at h; rw [h]; exact HID.out, hd.wf.fit, HLEN.out, hd.wf.nold, okAll_snoc _ _ _ hd.wf.okc (by rw [hd.wf.eff hm]; exact HOK.out), fun _ => by show effAll s.old (s.chs ++ [c]) = _; rw [effAll_snoc, hd.wf.eff hm], hd.wf.room, hd.wf.fuse1, hd.wf.fuse2⟩
    blk := by simpa using HB2.out.set_ 3 v'
    now := hdir2
    old := ownsMap_block hd.old (hcells bo hd.old.lt (fun e => hd.nob e.symm) (own_map_ne hd.row hd.old) (hd.blk.ne_map hd.old).symm)
    nob := hd.nob
    row := by simpa using hrow2
    reps := fun j v x h1 h2 => by
      have key : ∀ v x, chRep w F v x → chRep (w2.setCell ⟨b, 3, none⟩ v') (Own F w (w2.setCell ⟨b, 3, none⟩ v')) v x := fun v x hx => by
        cases x with
        | create k i =>
          obtain ⟨bf, bk, e, k1, k2, f1, f2, hl⟩ := hx
          exact ⟨bf, bk, e, k1.same (hcells _ k1.lt (k1.ne_map hd.now) (own_blk_ne hd.row k1 (by decide)) (k1.ne_ hd.blk (by decide))), k2.same (hcells _ k2.lt (k2.ne_map hd.now) (own_blk_ne hd.row k2 (by decide)) (k2.ne_ hd.blk (by decide))), .inl f1, .inl f2, hl⟩
        | rename p q =>
          obtain ⟨bf, bk, e, k1, k2, f1, f2, hl⟩ := hx
          exact ⟨bf, bk, e, k1.same (hcells _ k1.lt (k1.ne_map hd.now) (own_blk_ne hd.row k1 (by decide)) (k1.ne_ hd.blk (by decide))), k2.same (hcells _ k2.lt (k2.ne_map hd.now) (own_blk_ne hd.row k2 (by decide)) (k2.ne_ hd.blk (by decide))), .inl f1, .inl f2, hl⟩
        | remove k =>
          obtain ⟨bk, e, k1, f1, hl⟩ := hx
          exact ⟨bk, e, k1.same (hcells _ k1.lt (k1.ne_map hd.now) (own_blk_ne hd.row k1 (by decide)) (k1.ne_ hd.blk (by decide))), .inl f1, hl⟩
      rcases Nat.lt_or_ge j cls.length with hj | hj
      · rw [List.getElem?_append_left hj] at h1
        have h2' : s.chs[j]? = some x := by rw [← h2]; exact (List.getElem?_append_left (by omega)).symm
        exact key v x (hd.reps j v x h1 h2')
      · have hj' : j = cls.length := by
          have := (List.getElem?_eq_some_iff.1 h1).1
          simp at this
          omega
        subst hj'
        simp at h1
        have h2' : (s.chs ++ [c])[s.chs.length]? = some x := by rw [← hcl]; exact h2
        simp at h2'
        subst h1 h2'
        exact key _ _ HR.out
    files := fun i hi => (hd.files i hi).frame (hcells i (hd.files i hi).1.lt ((hd.files i hi).1.ne_map hd.now) (own_blk_ne hd.row (hd.files i hi).1 (by decide)) ((hd.files i hi).1.ne_ hd.blk (by decide)))
      fun g hg => hcells g ((hd.files i hi).2.lt g hg).2 (fun e => own_map_ne (hd.files i hi).2 hd.now (by rw [hg, e])) (fun e => own_row_ne (hd.files i hi).2 hd.row (by decide) g hg e) (fun e => own_blk_ne (hd.files i hi).2 hd.blk (by decide) (by rw [hg, e]))
    apart := hd.apart
    fb := .inl hd.fb
    fn := .inl hd.fn
    fo := .inl hd.fo
    fc := fun g hg => by
      rcases hloc with h | h
      · exact .inl (hfc g (by rw [← h]; exact hg))
      · rw [h] at hg
        have e1 : g = w1.heap.size + 1 := by simpa using hg.symm
        have := (hown'.lt g (by rw [h]; exact hg)).2
        exact .inr ⟨by omega, by rw [size_setCell']; exact this⟩
    fi := fun i hi => .inl (hd.fi i hi)
    fd := fun i hi g hg => .inl (hd.fd i hi g hg)
    lt := hFlt }
end Go.Proofs.Ytblpppeppgfbpaa
