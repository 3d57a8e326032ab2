/- A directory's names, in order: slices.Sorted over maps.Keys. What all acts have in common: the power and the fuse first, and only what is done counts. What a change does to a directory: the three closures' bodies; and a change done and kept. A change of the directory: done, and kept for a crash. Create. A file's block turns; settle; Sync's, SyncDir's, Remove's own parts. Used: how many bytes the directory's files have. append onto a row of the call's own, from whatever source: nil, empty or not. Remove's own part; Create, Append, Sync, Remove, SyncDir as they are called; Fuse, New, Read. Sync, Remove, SyncDir, Append as they are called; Fuse, New, Read. Crash: what it leaves of a file, of the directory, and of the disk. -/
import Derived.Test.YtmhiekbpmoikfaaGreatDoorZp3
import Derived.Test.YtmhiekbpmoikfaaGreatDoorIter
import Derived.OwnWalkIn
import Derived.TacticsInMore
import Derived.Deep.QuietTactic
import Derived.BigQuiet
import Derived.Maps.RangeWalk
import Derived.RegionTactic
import Derived.Deep.RegionHeld3
import Derived.Deep.RegionLaw
namespace Go.Proofs.YtmhiekbpmoikfaaGreatDoor
open Go.RowKit Go.Maps Go.Sort

theorem dir_sorted {w : World} {b : Nat} {d : Dir} (h : dirAt w b d) : d.Pairwise (fun p q => p.1 < q.1) := by
  obtain ⟨es, he, hp, _⟩ := h.canon strLaw
  have e : es = d.map ent := by injection he with he; exact he.symm
  rw [e, List.pairwise_map] at hp
  exact hp.imp fun {p q} hpq => (before_lt _ _).1 hpq
theorem keys_sorted {d : Dir} (h : d.Pairwise (fun p q => p.1 < q.1)) : (d.map (·.1)).mergeSort leB = d.map (·.1) := by
  refine List.mergeSort_of_pairwise ?_
  rw [List.pairwise_map]
  exact h.imp fun {p q} hpq => by simpa [leB] using List.le_of_lt hpq

set_option maxHeartbeats 1000000 in
theorem names_any {w : World} {b : Nat} {d : Dir} (h : dirAt w b d) (hl : d.length ≤ 300) :
    Calls Tryz.prog 102 #[.map (some b)] w fun e w' => ∃ v, e = .returned v ∧ w'.ownsRow w.heap.size 9 1 v d.length (d.map fun p => encStr p.1) ∧ Below w.heap.size w w' := by
  have hS := Lib.hid (keys_sorted (dir_sorted h))
  have hmax : Maps.size (toD d) ≤ maxLen := by rw [toD_size]; unfold maxLen; omega
  have hbytes : Maps.size (toD d) * 16 ≤ 140737488355328 := by rw [toD_size]; omega
  refine (callsIn_wide (n := 6)).1 ?_
  have hfK : Fence.wide.fn 139 := trivial
  have hfS : Fence.wide.fn 138 := trivial
  refine callsIn_of_wp Tryz.func102 rfl trivial ?_ rfl
  simp only [Tryz.ntmps102, List.size_toArray, List.length_cons, List.length_nil, Nat.reduceAdd, Nat.reduceSub, Array.replicate_succ, Array.replicate_zero, List.push_toArray, List.append_toArray, List.nil_append, List.cons_append]
  gi_wp2_with (first
    | (gi_at_call 139; refine (Tryz.maps_Keys_139 _ _).mono ?_; rintro e w' ⟨rfl, rfl⟩)
    | (gi_at_call 138; refine (Tryz.slices_Sorted_keys_138_139 b 300 (toD d) ptrElem w h hmax hbytes).mono ?_; rintro e w' ⟨v, ss, rfl, hP, hrow, hnil, hb⟩))
  go_ret
  have hk : ss.mergeSort leB = d.map (·.1) := by rw [mergeSort_of_perm hP, toD_keys, hS.out]
  have hlen : ss.length = d.length := by rw [hP.length_eq, toD_keys]; simp
  refine ⟨v, rfl, ?_, ((Below.refl _ w).alloc (Nat.le_refl _) _).trans (hb.mono (by simp))⟩
  have hrow' : w'.ownsRow (w.alloc (.cells #[.map (some b)] 116)).heap.size 9 1 v ss.length ((ss.mergeSort leB).map encStr) := hrow
  rw [hk, hlen, List.map_map] at hrow'
  refine ⟨hrow'.1, ?_⟩
  rcases hrow'.2 with h1 | ⟨g, cap, cur, e, h1, h2⟩
  · exact .inl h1
  · exact .inr ⟨g, cap, cur, e, by simp at h1; omega, h2⟩

set_option maxHeartbeats 400000 in
theorem Names_any {w : World} {F : Nat → Prop} {b : Nat} {s : St} (hD : Disk w F b s) :
    Calls Tryz.prog 49 #[at0 b] w fun e w' => ∃ v, e = .returned v ∧ w'.ownsRow w.heap.size 9 1 v s.now.length (s.now.map fun p => encStr p.1) ∧ Below w.heap.size w w' := by
  obtain ⟨bn, bo, cv, cls, fv, hd⟩ := hD
  have hc := hd.blk.cell 1
  simp at hc
  have hn := names_any hd.now (by have := hd.wf.nnow; omega)
  unfold at0
  have HN := Lib.hid hn; clear hn
  go_enter Tryz.func49, Tryz.ntmps49
  go_wp2_with (go_at_call 102; refine (Hid.out HN).mono ?_; rintro e w' ⟨v, rfl, hrow, hb⟩)
  go_ret
  exact ⟨v, rfl, hrow, hb⟩
end Go.Proofs.YtmhiekbpmoikfaaGreatDoor
namespace Go.Proofs.YtmhiekbpmoikfaaGreatDoor
open Go.RowKit Go.Maps

/-- The disk's own block is written (not the maps, nor the row of changes). -/
theorem IsDisk.atB {w w' : World} {F : Nat → Prop} {b : Nat} {s : St} {bn bo : Nat} {cv : Value} {cls : List Value} {fv : Nat → Value} (h : IsDisk w F b s bn bo cv cls fv)
    (hb : ∀ i, i ≠ b → w'.heap[i]? = w.heap[i]?) (hs : w.heap.size ≤ w'.heap.size) {a : Nat} {f : Int} {d : Bool}
    (blk : Blk w' b 119 #[.int .i64 s.room, .map (some bn), .map (some bo), cv, .int .i64 a, .int .i64 f, .bool d]) (f1 : -1 ≤ f) (f2 : f ≤ 9223372036854775807) :
    IsDisk w' F b { s with acts := a, fuse := f, down := d } bn bo cv cls fv where
  wf := ⟨h.wf.now_id, h.wf.old_id, h.wf.chs_id, h.wf.fit, h.wf.nnow, h.wf.nold, h.wf.okc, h.wf.eff, h.wf.room, f1, f2⟩
  blk := blk
  now := ownsMap_block h.now (hb _ (h.blk.ne_map h.now).symm)
  old := ownsMap_block h.old (hb _ (h.blk.ne_map h.old).symm)
  nob := h.nob
  row := ownsRow_block h.row fun g hg => hb g (fun e => own_blk_ne h.row h.blk (by decide) (by rw [hg, e]))
  reps := fun j v c h1 h2 => by
    have hr := h.reps j v c h1 h2
    cases c with
    | create k i =>
      obtain ⟨bf, bk, e, k1, k2, f1, f2, hl⟩ := hr
      exact ⟨bf, bk, e, k1.same (hb _ (k1.ne_ h.blk (by decide))), k2.same (hb _ (k2.ne_ h.blk (by decide))), f1, f2, hl⟩
    | rename x y =>
      obtain ⟨bf, bk, e, k1, k2, f1, f2, hl⟩ := hr
      exact ⟨bf, bk, e, k1.same (hb _ (k1.ne_ h.blk (by decide))), k2.same (hb _ (k2.ne_ h.blk (by decide))), f1, f2, hl⟩
    | remove k =>
      obtain ⟨bk, e, k1, f1, hl⟩ := hr
      exact ⟨bk, e, k1.same (hb _ (k1.ne_ h.blk (by decide))), f1, hl⟩
  files := fun i hi => (h.files i hi).frame (hb _ ((h.files i hi).1.ne_ h.blk (by decide))) fun g hg => hb g (fun e => own_blk_ne (h.files i hi).2 h.blk (by decide) (by rw [hg, e]))
  apart := h.apart
  fb := h.fb
  fn := h.fn
  fo := h.fo
  fc := h.fc
  fi := h.fi
  fd := h.fd
  lt := fun i hi => Nat.lt_of_lt_of_le (h.lt i hi) hs

/-- What an act comes to: n is what it answers, s' the disk behind it, T what its own part may do. -/
def ActEnd (s : St) (T : Int → St → Prop) (n : Int) (s' : St) : Prop :=
  ((s.fuse = 0 ∨ s.down = true) ∧ n = 14 ∧ s' = { s with down := true }) ∨
  (s.fuse ≠ 0 ∧ s.down = false ∧ ∃ s1, T n s1 ∧ s1.acts = s.acts ∧ s1.fuse = s.fuse ∧ s1.down = s.down ∧ ((n ≠ 0 ∧ s' = s1) ∨ (n = 0 ∧ s' = { s1 with acts := s1.acts + 1, fuse := if 0 < s1.fuse then s1.fuse - 1 else s1.fuse })))
/-- How a call leaves the disk at b: its answer n, its state s', and where it lies. -/
def Left (w : World) (F : Nat → Prop) (b : Nat) (T : Int → St → Prop) (e : Ending) (w' : World) : Prop :=
  ∃ (n : Int) (s' : St) (F' : Nat → Prop), e = .returned (.int .i64 n) ∧ T n s' ∧ Disk w' F' b s' ∧ Kept F w w' ∧ ∀ i, F' i → F i ∨ w.heap.size ≤ i

set_option maxHeartbeats 1000000 in
theorem act_any (f : Nat) (cap : Array Value) (eg : ∀ args w, (callFunc f args).run Tryz.prog w = .ok (.enter f args) w) {w : World} {F : Nat → Prop} {b : Nat} {s : St} (hD : Disk w F b s) (ha : s.acts < 1099511627776) (T : Int → St → Prop)
    (hcl : s.fuse ≠ 0 → s.down = false → Calls Tryz.prog f cap w (Left w F b fun n s' => T n s' ∧ s'.acts = s.acts ∧ s'.fuse = s.fuse ∧ s'.down = s.down)) :
    Calls Tryz.prog 106 #[at0 b, .func (.func f) #[] cap] w (Left w F b (ActEnd s T)) := by
  obtain ⟨bn, bo, cv, cls, fv, hd⟩ := hD
  have hb := hd.blk
  have hfb := hd.fb
  have c5 := hb.cell 5
  have c6 := hb.cell 6
  have z6 := hb.frozen 6
  simp at c5 c6
  have HD := Lib.hid hd; clear hd
  unfold at0
  by_cases h0 : s.fuse = 0
  · rw [h0] at c5
    have HH := Lib.hid h0; clear h0
    have HB := Lib.hid hb; clear hb
    go_enter Tryz.func106, Tryz.ntmps106
    go_wp2
    go_ret
    have hd := HD.out
    refine ⟨14, _, F, rfl, .inl ⟨.inl HH.out, rfl, rfl⟩, ⟨bn, bo, cv, cls, fv, hd.atB (fun i hi => heap_setCell_other _ _ _ hi) (by rw [size_setCell']; exact Nat.le_refl _) (d := true) (by simpa using HB.out.set_ 6 (.bool true)) hd.wf.fuse1 hd.wf.fuse2⟩, (Kept.refl F w).setCell (.inl hfb) _, fun i hi => .inl hi⟩
  have e0 : (s.fuse == 0) = false := by simpa using h0
  by_cases hdn : s.down = true
  · rw [hdn] at c6
    have HH := Lib.hid hdn; clear hdn
    have HB := Lib.hid hb; clear hb
    have H0 := Lib.hid h0; clear h0
    go_enter Tryz.func106, Tryz.ntmps106
    go_wp2
    go_ret
    have hd := HD.out
    refine ⟨14, s, F, rfl, .inl ⟨.inr HH.out, rfl, ?_⟩, ⟨bn, bo, cv, cls, fv, hd⟩, Kept.refl F w, fun i hi => .inl hi⟩
    have := HH.out
    cases s; simp_all
  have hdn' : s.down = false := by simpa using hdn
  have HC := Lib.hid (hcl h0 hdn')
  rw [hdn'] at c6
  have H0 := Lib.hid h0
  have HDN := Lib.hid hdn'
  clear hdn hdn' h0 hcl hb
  go_enter Tryz.func106, Tryz.ntmps106
  go_wp2_with fail
  refine HC.out.mono ?_
  rintro e w1 ⟨n, s1, F1, rfl, ⟨hT, ea, ef, ed⟩, ⟨bn1, bo1, cv1, cls1, fv1, hd1⟩, hk, hF⟩
  have hb1 := hd1.blk
  have d4 := hb1.cell 4
  have d5 := hb1.cell 5
  have y4 := hb1.frozen 4
  have y5 := hb1.frozen 5
  have hfb1 := hd1.fb
  simp at d4 d5
  have hw1 := hd1.wf.fuse1
  have hw2 := hd1.wf.fuse2
  have hw3 : s1.acts < 1099511627776 := by omega
  have HD1 := Lib.hid hd1
  have HB1 := Lib.hid hb1
  have EA := Lib.hid ea
  have EF := Lib.hid ef
  have ED := Lib.hid ed
  clear hd1 hb1 ea ef ed
  by_cases hn : n = 0
  · subst hn
    by_cases hf : 0 < s1.fuse
    · go_wp2
      go_ret
      have hd := HD1.out
      refine ⟨0, _, F1, rfl, .inr ⟨H0.out, HDN.out, s1, hT, EA.out, EF.out, ED.out, .inr ⟨rfl, rfl⟩⟩, ⟨bn1, bo1, cv1, cls1, fv1, ?_⟩, ((hk.setCell (.inl hfb) _).setCell (.inl hfb) _), hF⟩
      rw [if_pos hf]
      have h1 := hd.atB (w' := (w1.setCell ⟨b, 4, none⟩ (.int .i64 (s1.acts + 1))).setCell ⟨b, 5, none⟩ (.int .i64 (s1.fuse - 1))) (a := s1.acts + 1) (f := s1.fuse - 1) (d := s1.down)
        (fun i hi => (heap_setCell_other _ _ _ hi).trans (heap_setCell_other _ _ _ hi)) (by rw [size_setCell', size_setCell']; exact Nat.le_refl _)
        (by simpa using (HB1.out.set_ 4 (.int .i64 (s1.acts + 1))).set_ 5 (.int .i64 (s1.fuse - 1))) (by omega) (by omega)
      exact h1
    · go_wp2
      go_ret
      have hd := HD1.out
      refine ⟨0, _, F1, rfl, .inr ⟨H0.out, HDN.out, s1, hT, EA.out, EF.out, ED.out, .inr ⟨rfl, rfl⟩⟩, ⟨bn1, bo1, cv1, cls1, fv1, ?_⟩, (hk.setCell (.inl hfb) _), hF⟩
      rw [if_neg (show ¬ 0 < s1.fuse by omega)]
      have h1 := hd.atB (w' := w1.setCell ⟨b, 4, none⟩ (.int .i64 (s1.acts + 1))) (a := s1.acts + 1) (f := s1.fuse) (d := s1.down)
        (fun i hi => heap_setCell_other _ _ _ hi) (by rw [size_setCell']; exact Nat.le_refl _)
        (by simpa using HB1.out.set_ 4 (.int .i64 (s1.acts + 1))) hw1 hw2
      exact h1
  · have en : (n != 0) = true := by simpa using hn
    have HN := Lib.hid hn
    clear hn
    go_wp2
    go_ret
    exact ⟨n, s1, F1, rfl, .inr ⟨H0.out, HDN.out, s1, hT, EA.out, EF.out, ED.out, .inl ⟨HN.out, rfl⟩⟩, ⟨bn1, bo1, cv1, cls1, fv1, HD1.out⟩, hk, hF⟩
end Go.Proofs.YtmhiekbpmoikfaaGreatDoor
namespace Go.Proofs.YtmhiekbpmoikfaaGreatDoor
open Go.RowKit Go.Maps Go.WideMaps

theorem dirAt_fix {w : World} {b n : Nat} {d : Dir} (h : w.ownsMap Tryz.prog 9 ptrElem b n (toD d)) (hl : d.length ≤ 300) : dirAt w b d := by
  have := ownsMap_tight h
  rw [toD_size] at this
  exact this.mono hl

theorem keyLit {k : Nm} (hk : k.length ≤ 281474976710656) : keyOf Tryz.prog 9 (encStr k) = some (.string k) := by
  have := keyOf_string_mk Tryz.underlying9 (s := ⟨k.toArray⟩) (show k.toArray.size ≤ maxLen by unfold maxLen; simp; omega)
  simpa [encStr] using this

set_option maxHeartbeats 400000 in
theorem create_eff {w : World} {b bf bk i : Nat} {d : Dir} {k : Nm} (h : dirAt w b d) (hl : d.length ≤ 200) (hf : Blk w bf 112 #[at0 i]) (hk : Blk w bk 9 #[encStr k]) (hkl : k.length ≤ 281474976710656) :
    Calls Tryz.prog 109 #[.map (some b), at0 bf, at0 bk] w fun e w' => e = .returned (.tuple #[]) ∧ dirAt w' b (dput d k i) ∧ w.grownBy w' (some b) := by
  have cf := hf.cell 0
  have ck := hk.cell 0
  have hkey := keyLit hkl
  simp [at0] at cf
  simp [encStr] at ck hkey
  unfold at0
  go_enter Tryz.func109, Tryz.ntmps109
  go_wp2_with (at_mapUpdate; refine wpList_mapUpdate_own _ rfl _ _ _ 116 rfl 9 112 strLaw Tryz.underlying116 ptrElem b 300 (toD d) rfl h (by unfold maxLen; omega) _ _ (.string k) rfl rfl hkey (idLit i) [] rfl ?_; intro w1 hown1 hgrow1)
  go_end0
  rw [toD_put] at hown1
  exact ⟨rfl, dirAt_fix hown1 (by have := length_dput d k i; omega), hgrow1⟩

set_option maxHeartbeats 1000000 in
set_option maxRecDepth 100000 in
theorem remove_eff {w : World} {b bk : Nat} {d : Dir} {k : Nm} (h : dirAt w b d) (hl : d.length ≤ 300) (hk : Blk w bk 9 #[encStr k]) (hkl : k.length ≤ 281474976710656) :
    Calls Tryz.prog 136 #[.map (some b), at0 bk] w fun e w' => e = .returned (.tuple #[]) ∧ dirAt w' b (ddel d k) ∧ w.grownBy w' (some b) := by
  have ck := hk.cell 0
  have hkey := keyLit hkl
  simp [encStr] at ck hkey
  unfold at0
  go_enter Tryz.func136, Tryz.ntmps136
  go_wp2_with (at_delete; refine wpList_delete_own _ rfl _ _ 116 9 rfl 112 strLaw Tryz.underlying116 ptrElem b 300 (toD d) rfl h _ (.string k) rfl hkey ?_; intro w1 hown1 hturn1)
  go_end0
  rw [toD_del] at hown1
  exact ⟨rfl, dirAt_fix hown1 (by have := length_ddel d k; omega), hturn1.grown⟩

set_option maxHeartbeats 1000000 in
set_option maxRecDepth 100000 in
theorem rename_eff {w : World} {b ba bb i : Nat} {d : Dir} {x y : Nm} (h : dirAt w b d) (hl : d.length ≤ 200) (hi : dget d x = some i) (ha : Blk w ba 9 #[encStr x]) (hb : Blk w bb 9 #[encStr y]) (hx : x.length ≤ 281474976710656) (hy : y.length ≤ 281474976710656) :
    Calls Tryz.prog 130 #[.map (some b), at0 ba, at0 bb] w fun e w' => e = .returned (.tuple #[]) ∧ dirAt w' b (ddel (dput d y i) x) ∧ w.grownBy w' (some b) := by
  have ca := ha.cell 0
  have cb := hb.cell 0
  have hkx := keyLit hx
  have hky := keyLit hy
  have hlk := look_at h (nm := ⟨x.toArray⟩) (by show x.toArray.size ≤ maxLen; unfold maxLen; simp; omega)
  simp only [hi, ptrOf, at0] at hlk
  simp [encStr] at ca cb hkx hky
  have nba : b ≠ ba := (ha.ne_map h).symm
  have cm : ∀ w1 : World, w.grownBy w1 (some b) → w1.cell? ⟨ba, 0, none⟩ = some (.string ⟨x.toArray⟩) := fun w1 hg => by
    have := (ha.grown hg (by simp; omega)).cell 0
    simpa [encStr] using this
  have CM := Lib.hid cm; clear cm
  unfold at0
  go_enter Tryz.func130, Tryz.ntmps130
  go_wp2_with (first
    | (at_mapUpdate; refine wpList_mapUpdate_own _ rfl _ _ _ 116 rfl 9 112 strLaw Tryz.underlying116 ptrElem b 300 (toD d) rfl h (by unfold maxLen; omega) _ _ (.string y) rfl rfl hky (idLit i) [] rfl ?_; intro w1 hown1 hgrow1; have c2 := CM.out w1 hgrow1)
    | (at_delete; refine wpList_delete_own _ rfl _ _ 116 9 rfl 112 strLaw Tryz.underlying116 ptrElem b 301 ((toD d).put (.string y) (idLit i)) rfl hown1 _ (.string x) rfl hkx ?_; intro w2 hown2 hturn2))
  go_end0
  rw [toD_put, toD_del] at hown2
  exact ⟨rfl, dirAt_fix hown2 (by have := length_ddel (dput d y i) x; have := length_dput d y i; omega), World.grownBy.trans hgrow1 hturn2.grown⟩
end Go.Proofs.YtmhiekbpmoikfaaGreatDoor
namespace Go.Proofs.YtmhiekbpmoikfaaGreatDoor
open Go.RowKit Go.Maps Go.WideMaps

theorem fnInfo : (Tryz.prog.info? 140).map (fun i => (i.zero, i.size, i.bytes)) = some (some .nilFunc, 1, 8) := by kernel_rfl

set_option maxHeartbeats 2000000 in
set_option maxRecDepth 100000 in
theorem change_any (f : Nat) (cap : Array Value) (eg : ∀ args w, (callFunc f args).run Tryz.prog w = .ok (.enter f args) w) {w : World} {F : Nat → Prop} {b : Nat} {s : St} {bn bo : Nat} {cv : Value} {cls : List Value} {fv : Nat → Value} (hd : IsDisk w F b s bn bo cv cls fv)
    (hm : s.mid = false) (c : Ch) (hcs : s.chs.length < 1099511627776) (hok : c.ok s.now) (hid : c.idOk s.ids) (hlen : (c.eff s.now).length ≤ 64) (hnow : ∀ p ∈ c.eff s.now, p.2 ∈ s.ids) (hr : chRep w F (.func (.func f) #[] cap) c)
    (heff : Calls Tryz.prog f (#[.map (some bn)] ++ cap) w fun e w' => e = .returned (.tuple #[]) ∧ dirAt w' bn (c.eff s.now) ∧ w.grownBy w' (some bn)) :
    Calls Tryz.prog 108 #[at0 b, .func (.func f) #[] cap] w fun e w' => e = .returned (.tuple #[]) ∧ Disk w' (Own F w w') b { s with now := c.eff s.now, chs := s.chs ++ [c] } ∧ Kept F w w' := by
  obtain ⟨i0, hi, hz0, hz1, hz2⟩ := info_parts fnInfo
  have hb := hd.blk
  have c1 := hb.cell 1
  simp at c1
  have hnb : b ≠ bn := hb.ne_map hd.now
  have hnc : cv.ownBlock ≠ some b := own_blk_ne hd.row hb (by decide)
  have hnm : cv.ownBlock ≠ some bn := own_map_ne hd.row hd.now
  have HD := Lib.hid hd
  have HE := Lib.hid heff
  have HX := Lib.hid hnb
  have HNC := Lib.hid hnc
  have HNM := Lib.hid hnm
  have hrow := hd.row
  have hlt := hd.lt
  have hfb := hd.fb
  have hfn := hd.fn
  have hfc := hd.fc
  have HOK := Lib.hid hok
  have HID := Lib.hid hid
  have HLEN := Lib.hid hlen
  have HNOW := Lib.hid hnow
  have HR := Lib.hid hr
  clear hd heff hb hnb hnc hnm hok hid hlen hnow hr
  unfold at0
  go_enter Tryz.func108, Tryz.ntmps108
  go_wp2_with fail
  refine (Hid.out HE).mono ?_
  rintro e w1 ⟨rfl, hdir, hg1⟩
  have hb1 := HD.out.blk.grown hg1 (by have := HX.out; simpa using this)
  have d3 := hb1.cell 3
  simp at d3
  have hrow1 := hrow.kept hg1 (.inr HNM.out)
  have HB1 := Lib.hid hb1
  have HDIR := Lib.hid hdir
  clear hdir hb1
  have hs1 := hg1.size
  go_wp2_with (at_builtin; refine wpList_append_own_at _ rfl _ _ 117 rfl 0 140 i0 .nilFunc 1 8 Tryz.underlying117 hi hz0 hz1 hz2 rfl (by decide) cv s.chs.length cls rfl (hrow1.alloc _) ⟨w1.heap.size, 0, none⟩ 1 1 [.func (.func f) #[] cap] rfl rfl (cell_one_new _ _ _) (by simp [Value.oneCell']) (by unfold maxLen; omega) (by omega) (Nat.zero_le _) ?_; intro v' w2 hown' hg2 hnil hloc; obtain ⟨A, cp, hv⟩ := own_slice hown'; rw [hv]; clear hnil; have HV := Lib.hid hv; clear hv; have HB2 := Lib.hid ((HB1.out.alloc (.cells #[.func (.func f) #[] cap] 140)).grown hg2 (fun e => HNC.out e.symm)); have z3 := HB2.out.frozen 3; have e3 := HB2.out.cell 3; simp at e3)
  go_end0
  have hd := HD.out
  have hv := HV.out
  rw [← hv]
  have hsz : w.heap.size ≤ w2.heap.size := Nat.le_trans hs1 (Nat.le_trans (by simp) hg2.size)
  have hcells : ∀ i, i < w.heap.size → i ≠ bn → cv.ownBlock ≠ some i → i ≠ b → (w2.setCell ⟨b, 3, none⟩ v').heap[i]? = w.heap[i]? := fun i hi h1 h2 h3 => by
    rw [heap_setCell_other _ _ _ h3, hg2.block i (by simp; omega) (fun e => h2 e.symm), Below.heap_alloc _ _ _ (by omega), hg1.block i hi (by simpa using h1)]
  have hkept : Kept F w (w2.setCell ⟨b, 3, none⟩ v') := by
    refine ((((Kept.refl F w).grown hg1 ?_).alloc _).grown hg2 ?_).setCell (.inl hfb) _
    · intro k hk; cases hk; exact .inl hfn
    · intro k hk; exact .inl (hfc k hk)
  have hFlt : ∀ i, Own F w (w2.setCell ⟨b, 3, none⟩ v') i → i < (w2.setCell ⟨b, 3, none⟩ v').heap.size := fun i hi => by
    rcases hi with h | h
    · have := hlt i h; rw [size_setCell']; omega
    · exact h.2
  have hdir2 : dirAt (w2.setCell ⟨b, 3, none⟩ v') bn (c.eff s.now) := by
    refine ownsMap_block HDIR.out ?_
    rw [heap_setCell_other _ _ _ (fun e => HX.out e.symm), hg2.block bn (by simp; have := hlt bn hfn; omega) (fun e => HNM.out e.symm), Below.heap_alloc _ _ _ (by have := hlt bn hfn; omega)]
  have hrow2 : (w2.setCell ⟨b, 3, none⟩ v').ownsRow 0 140 1 v' (s.chs.length + 1) (cls ++ [.func (.func f) #[] cap]) := by
    refine ownsRow_block hown' fun g hg => heap_setCell_other _ _ _ fun e => ?_
    exact own_blk_ne hown' HB2.out (by decide) (by rw [hg, e])
  refine ⟨rfl, ⟨bn, bo, v', cls ++ [.func (.func f) #[] cap], fv, ?_⟩, hkept⟩
  have hcl : cls.length = s.chs.length := by simpa using hd.row.1
  exact {
    wf := ⟨HNOW.out, hd.wf.old_id, fun x hx => by
        rcases List.mem_append.1 hx with h | h
        · exact hd.wf.chs_id x h
        · simp at h; rw [h]; exact HID.out, hd.wf.fit, HLEN.out, hd.wf.nold, okAll_snoc _ _ _ hd.wf.okc (by rw [hd.wf.eff hm]; exact HOK.out), fun _ => by show effAll s.old (s.chs ++ [c]) = _; rw [effAll_snoc, hd.wf.eff hm], hd.wf.room, hd.wf.fuse1, hd.wf.fuse2⟩
    blk := by simpa using HB2.out.set_ 3 v'
    now := hdir2
    old := ownsMap_block hd.old (hcells bo hd.old.lt (fun e => hd.nob e.symm) (own_map_ne hd.row hd.old) (hd.blk.ne_map hd.old).symm)
    nob := hd.nob
    row := by simpa using hrow2
    reps := fun j v x h1 h2 => by
      have key : ∀ v x, chRep w F v x → chRep (w2.setCell ⟨b, 3, none⟩ v') (Own F w (w2.setCell ⟨b, 3, none⟩ v')) v x := fun v x hx => by
        cases x with
        | create k i =>
          obtain ⟨bf, bk, e, k1, k2, f1, f2, hl⟩ := hx
          exact ⟨bf, bk, e, k1.same (hcells _ k1.lt (k1.ne_map hd.now) (own_blk_ne hd.row k1 (by decide)) (k1.ne_ hd.blk (by decide))), k2.same (hcells _ k2.lt (k2.ne_map hd.now) (own_blk_ne hd.row k2 (by decide)) (k2.ne_ hd.blk (by decide))), .inl f1, .inl f2, hl⟩
        | rename p q =>
          obtain ⟨bf, bk, e, k1, k2, f1, f2, hl⟩ := hx
          exact ⟨bf, bk, e, k1.same (hcells _ k1.lt (k1.ne_map hd.now) (own_blk_ne hd.row k1 (by decide)) (k1.ne_ hd.blk (by decide))), k2.same (hcells _ k2.lt (k2.ne_map hd.now) (own_blk_ne hd.row k2 (by decide)) (k2.ne_ hd.blk (by decide))), .inl f1, .inl f2, hl⟩
        | remove k =>
          obtain ⟨bk, e, k1, f1, hl⟩ := hx
          exact ⟨bk, e, k1.same (hcells _ k1.lt (k1.ne_map hd.now) (own_blk_ne hd.row k1 (by decide)) (k1.ne_ hd.blk (by decide))), .inl f1, hl⟩
      rcases Nat.lt_or_ge j cls.length with hj | hj
      · rw [List.getElem?_append_left hj] at h1
        have h2' : s.chs[j]? = some x := by rw [← h2]; exact (List.getElem?_append_left (by omega)).symm
        exact key v x (hd.reps j v x h1 h2')
      · have hj' : j = cls.length := by
          have := (List.getElem?_eq_some_iff.1 h1).1
          simp at this
          omega
        subst hj'
        simp at h1
        have h2' : (s.chs ++ [c])[s.chs.length]? = some x := by rw [← hcl]; exact h2
        simp at h2'
        subst h1 h2'
        exact key _ _ HR.out
    files := fun i hi => (hd.files i hi).frame (hcells i (hd.files i hi).1.lt ((hd.files i hi).1.ne_map hd.now) (own_blk_ne hd.row (hd.files i hi).1 (by decide)) ((hd.files i hi).1.ne_ hd.blk (by decide)))
      fun g hg => hcells g ((hd.files i hi).2.lt g hg).2 (fun e => own_map_ne (hd.files i hi).2 hd.now (by rw [hg, e])) (fun e => own_row_ne (hd.files i hi).2 hd.row (by decide) g hg e) (fun e => own_blk_ne (hd.files i hi).2 hd.blk (by decide) (by rw [hg, e]))
    apart := hd.apart
    fb := .inl hd.fb
    fn := .inl hd.fn
    fo := .inl hd.fo
    fc := fun g hg => by
      rcases hloc with h | h
      · exact .inl (hfc g (by rw [← h]; exact hg))
      · rw [h] at hg
        have e1 : g = w1.heap.size + 1 := by simpa using hg.symm
        have := (hown'.lt g (by rw [h]; exact hg)).2
        exact .inr ⟨by omega, by rw [size_setCell']; exact this⟩
    fi := fun i hi => .inl (hd.fi i hi)
    fd := fun i hi g hg => .inl (hd.fd i hi g hg)
    lt := hFlt }
end Go.Proofs.YtmhiekbpmoikfaaGreatDoor
namespace Go.Proofs.YtmhiekbpmoikfaaGreatDoor
open Go.RowKit Go.Maps Go.WideMaps

def upd {α : Type} (f : Nat → α) (i : Nat) (v : α) : Nat → α := fun j => if j = i then v else f j
theorem upd_same {α : Type} (f : Nat → α) (i : Nat) (v : α) : upd f i v i = v := by simp [upd]
theorem upd_other {α : Type} (f : Nat → α) {i j : Nat} (v : α) (h : j ≠ i) : upd f i v j = f j := by simp [upd, h]

theorem calls_at {P : Program} {f : FuncId} {args : Array Value} {w : World} {Q : Ending → World → Prop} (h : ∀ W, W = w → Calls P f args W Q) : Calls P f args w Q := h w rfl

/-- A new file, of no bytes. -/
def St.addFile (s : St) (i : Nat) : St := { s with ids := i :: s.ids, dat := upd s.dat i [], syn := upd s.syn i 0 }
theorem IsDisk.addFile {w : World} {F : Nat → Prop} {b : Nat} {s : St} {bn bo : Nat} {cv : Value} {cls : List Value} {fv : Nat → Value} (h : IsDisk w F b s bn bo cv cls fv) {i : Nat} (hi : i ∉ s.ids) (hF : F i)
    (hf : Blk w i 114 #[.slice none 0 0, .int .i64 0]) : IsDisk w F b (s.addFile i) bn bo cv cls (upd fv i (.slice none 0 0)) where
  wf := ⟨fun p hp => List.mem_cons_of_mem _ (h.wf.now_id p hp), fun p hp => List.mem_cons_of_mem _ (h.wf.old_id p hp), fun c hc => by
      have := h.wf.chs_id c hc
      cases c with
      | create k j => exact List.mem_cons_of_mem _ this
      | rename a b => trivial
      | remove k => trivial, fun j hj => by
      rcases List.mem_cons.1 hj with e | e
      · subst e; simp [St.addFile, upd_same]
      · have hne : j ≠ i := fun e2 => hi (e2 ▸ e)
        simpa [St.addFile, upd_other _ _ hne] using h.wf.fit j e, h.wf.nnow, h.wf.nold, h.wf.okc, h.wf.eff, h.wf.room, h.wf.fuse1, h.wf.fuse2⟩
  blk := h.blk
  now := h.now
  old := h.old
  nob := h.nob
  row := h.row
  reps := h.reps
  files := fun j hj => by
    rcases List.mem_cons.1 hj with e | e
    · subst e
      simp only [St.addFile, upd_same]
      exact ⟨hf, World.ownsRow_nil _ _ _ _⟩
    · have hne : j ≠ i := fun e2 => hi (e2 ▸ e)
      simpa [St.addFile, upd_other _ _ hne] using h.files j e
  apart := fun j hj k hk hjk g hg => by
    by_cases e1 : j = i
    · subst e1; simp [upd_same, Value.ownBlock] at hg
    · by_cases e2 : k = i
      · subst e2; simp [upd_same, Value.ownBlock]
      · rw [upd_other _ _ e1] at hg
        rw [upd_other _ _ e2]
        exact h.apart j ((List.mem_cons.1 hj).resolve_left e1) k ((List.mem_cons.1 hk).resolve_left e2) hjk g hg
  fb := h.fb
  fn := h.fn
  fo := h.fo
  fc := h.fc
  fi := fun j hj => by
    rcases List.mem_cons.1 hj with e | e
    · subst e; exact hF
    · exact h.fi j e
  fd := fun j hj g hg => by
    by_cases e1 : j = i
    · subst e1; simp [upd_same, Value.ownBlock] at hg
    · rw [upd_other _ _ e1] at hg
      exact h.fd j ((List.mem_cons.1 hj).resolve_left e1) g hg
  lt := h.lt

theorem ok_size {k : ByteArray} (h : okName k.data.toList = true) : k.size ≤ 281474976710656 := by
  have hsz : k.data.toList.length = k.size := by simp
  simp only [okName, Bool.and_eq_true, decide_eq_true_eq] at h
  omega

/-- What Create's own part comes to. -/
def TCreate (s : St) (k : Nm) (n : Int) (s' : St) : Prop :=
  (okName k = false ∧ n = 1 ∧ s' = s) ∨
  (okName k = true ∧ (dget s.now k).isSome = true ∧ n = 13 ∧ s' = s) ∨
  (okName k = true ∧ dget s.now k = none ∧ 64 ≤ s.now.length ∧ n = 2 ∧ s' = s) ∨
  (okName k = true ∧ dget s.now k = none ∧ s.now.length < 64 ∧ n = 0 ∧ ∃ i, i ∉ s.ids ∧ s' = { (s.addFile i) with now := dput s.now k i, chs := s.chs ++ [.create k i] })

set_option maxHeartbeats 2000000 in
set_option maxRecDepth 100000 in
theorem create1_any {w : World} {F : Nat → Prop} {b : Nat} {s : St} (hD : Disk w F b s) (hm : s.mid = false) (hcs : s.chs.length < 1099511627776) (k : ByteArray) (hkm : k.size ≤ maxLen) {bk bd : Nat} (h1 : Blk w bk 9 #[.string k]) (h2 : Blk w bd 42 #[at0 b]) :
    Calls Tryz.prog 107 #[at0 bk, at0 bd] w (Left w F b fun n s' => TCreate s k.data.toList n s' ∧ s'.acts = s.acts ∧ s'.fuse = s.fuse ∧ s'.down = s.down) := by
  have ck := h1.cell 0
  have cd := h2.cell 0
  simp [at0] at ck cd
  have hstay : ∀ n : Int, (∀ s', s' = s → TCreate s k.data.toList n s') → Left w F b (fun n s' => TCreate s k.data.toList n s' ∧ s'.acts = s.acts ∧ s'.fuse = s.fuse ∧ s'.down = s.down) (.returned (.int .i64 n)) w :=
    fun n hT => ⟨n, s, F, rfl, ⟨hT s rfl, rfl, rfl, rfl⟩, hD, Kept.refl F w, fun _ hi => .inl hi⟩
  have HS := Lib.hid hstay; clear hstay
  have hhas := has_any hD k hkm
  have HH := Lib.hid hhas; clear hhas
  have HD := Lib.hid hD
  obtain ⟨bn, bo, cv, cls, fv, hd⟩ := hD
  have hlen := hd.now.len (t := 116) Tryz.underlying116 3
  rw [toD_size] at hlen
  have c1 := hd.blk.cell 1
  simp at c1
  have HI := Lib.hid hd
  clear hd
  unfold at0
  cases hok : okName k.data.toList
  · have HOK := Lib.hid hok; clear hok
    go_enter Tryz.func107, Tryz.ntmps107
    go_wp2_with (go_at_call 71; refine (validName_any _ _ hkm).mono ?_; rintro e w' ⟨rfl, rfl⟩; rw [HOK.out])
    go_ret
    exact HS.out 1 (fun s' e => .inl ⟨HOK.out, rfl, e⟩)
  have hk := ok_size hok
  have HOK := Lib.hid hok; clear hok
  cases hg : dget s.now k.data.toList with
  | some i =>
    have HG := Lib.hid hg; clear hg
    go_enter Tryz.func107, Tryz.ntmps107
    go_wp2_with (first | (go_at_call 71; refine (validName_any _ _ hkm).mono ?_; rintro e w' ⟨rfl, rfl⟩; rw [HOK.out]) | (go_at_call 72; refine (Hid.out HH).mono ?_; rintro e w' ⟨rfl, rfl⟩; rw [HG.out]))
    go_ret
    exact HS.out 13 (fun s' e => .inr (.inl ⟨HOK.out, by rw [HG.out]; rfl, rfl, e⟩))
  | none =>
    have HG := Lib.hid hg; clear hg
    by_cases h64 : 64 ≤ s.now.length
    · go_enter Tryz.func107, Tryz.ntmps107
      go_wp2_with (first | (go_at_call 71; refine (validName_any _ _ hkm).mono ?_; rintro e w' ⟨rfl, rfl⟩; rw [HOK.out]) | (go_at_call 72; refine (Hid.out HH).mono ?_; rintro e w' ⟨rfl, rfl⟩; rw [HG.out]))
      go_ret
      exact HS.out 2 (fun s' e => .inr (.inr (.inl ⟨HOK.out, HG.out, h64, rfl, e⟩)))
    · go_enter Tryz.func107, Tryz.ntmps107
      go_wp2_with (first | (go_at_call 71; refine (validName_any _ _ hkm).mono ?_; rintro e w' ⟨rfl, rfl⟩; rw [HOK.out]) | (go_at_call 72; refine (Hid.out HH).mono ?_; rintro e w' ⟨rfl, rfl⟩; rw [HG.out]) | (go_at_call 74; refine (ownName_any _ _ hk).mono ?_; rintro e w1 ⟨rfl, hb⟩; have hsz := hb.size; have hbd : bd < w1.heap.size := Nat.lt_of_lt_of_le h2.lt hsz; have e2 : ∀ o1 o2 o3, (((w1.alloc o1).alloc o2).alloc o3).cell? ⟨bd, 0, none⟩ = some (.pointer (some ⟨b, 0, none⟩)) := (fun o1 o2 o3 => (((((h2.below hb h2.lt).alloc o1).alloc o2).alloc o3).cell 0).trans (by simp [at0])); clear cd))
      refine calls_at ?_
      intro W hW
      have hWk : Kept F w W := by rw [hW]; exact (((Kept.below hb).alloc _).alloc _).alloc _
      have hWs : w1.heap.size + 3 ≤ W.heap.size := by rw [hW]; simp
      have hb1 : Blk W w1.heap.size 114 #[.slice none 0 0, .int .i64 0] := by rw [hW]; exact ((Blk.new _ _ _).alloc _).alloc _
      have hb2 : Blk W (w1.heap.size + 1) 9 #[.string k] := by
        rw [hW]; have := (Blk.new (w1.alloc (.cells #[.slice none 0 0, .int .i64 0] 114)) 9 #[.string k]).alloc (.cells #[at0 w1.heap.size] 112); simpa [at0] using this
      have hb3 : Blk W (w1.heap.size + 1 + 1) 112 #[at0 w1.heap.size] := by
        rw [hW]; have := Blk.new ((w1.alloc (.cells #[.slice none 0 0, .int .i64 0] 114)).alloc (.cells #[.string k] 9)) 112 #[at0 w1.heap.size]; simpa [at0] using this
      have hd := HI.out
      have hWb : ∀ j, F j → W.heap[j]? = w.heap[j]? := fun j hj => by
        have hj' := hd.lt j hj
        rw [hW, Below.heap_alloc _ _ _ (by simp; omega), Below.heap_alloc _ _ _ (by simp; omega), Below.heap_alloc _ _ _ (by omega), hb.block j hj']
      clear hW
      have hd1 := (hd.frame hWb hWk.size).more (F' := Own F w W) (fun j hj => .inl hj) (fun j hj => by
        rcases hj with h | h
        · have := hd.lt j h; have := hWk.size; omega
        · exact h.2)
      have hi : w1.heap.size ∉ s.ids := fun h => by have := hd.lt _ (hd.fi _ h); omega
      have hd2 := hd1.addFile hi (.inr ⟨hsz, by omega⟩) hb1
      have hkl : k.data.toList.length ≤ 281474976710656 := by simpa using hk
      have hes : encStr k.data.toList = .string k := by simp [encStr]
      have hch := change_any 109 #[at0 (w1.heap.size + 1 + 1), at0 (w1.heap.size + 1)] (enters_of Tryz.func109 (by kernel_rfl) rfl) hd2 hm (.create k.data.toList w1.heap.size) hcs (by have := length_dput s.now k.data.toList w1.heap.size; show (dput s.now _ _).length ≤ 64; omega) (List.mem_cons_self) (by have := length_dput s.now k.data.toList w1.heap.size; show (dput s.now _ _).length ≤ 64; omega)
        (fun p hp => by
          rcases mem_dput.1 hp with e | e
          · rw [e]; exact List.mem_cons_self
          · exact List.mem_cons_of_mem _ (hd.wf.now_id p e.1))
        ⟨_, _, rfl, hb3, by rw [hes]; exact hb2, .inr ⟨by omega, by omega⟩, .inr ⟨by omega, by omega⟩, hkl⟩
        (create_eff hd2.now (by show s.now.length ≤ 200; omega) hb3 (by rw [hes]; exact hb2) hkl)
      refine hch.mono ?_
      rintro e w2 ⟨rfl, hD2, hk2⟩
      go_wp2
      go_ret
      refine ⟨0, _, _, rfl, ⟨.inr (.inr (.inr ⟨HOK.out, HG.out, by omega, rfl, w1.heap.size, hi, rfl⟩)), rfl, rfl, rfl⟩, hD2, hWk.trans hk2 ?_, ?_⟩
      · intro i hi' h
        rcases h with h | h
        · exact h
        · omega
      · intro i h
        rcases h with (h | h) | h
        · exact .inl h
        · exact .inr h.1
        · have := hWk.size; exact .inr (by omega)
end Go.Proofs.YtmhiekbpmoikfaaGreatDoor
namespace Go.Proofs.YtmhiekbpmoikfaaGreatDoor
open Go.RowKit Go.Maps Go.WideMaps

/-- One file's block, and its row of bytes, turn. -/
theorem IsDisk.file {w w' : World} {F F' : Nat → Prop} {b : Nat} {s : St} {bn bo : Nat} {cv : Value} {cls : List Value} {fv : Nat → Value} (h : IsDisk w F b s bn bo cv cls fv) {i : Nat} (hi : i ∈ s.ids)
    (hF : ∀ j, F j → F' j) (hl : ∀ j, F' j → j < w'.heap.size) (hsame : ∀ j, j < w.heap.size → j ≠ i → (fv i).ownBlock ≠ some j → w'.heap[j]? = w.heap[j]?) {v' : Value} {d' : Nm} {n' : Nat} (hf : fileAt w' i v' d' n')
    (hfit : n' ≤ d'.length ∧ d'.length ≤ 262144) (hap : ∀ g, v'.ownBlock = some g → (fv i).ownBlock = some g ∨ w.heap.size ≤ g) (hFg : ∀ g, v'.ownBlock = some g → F' g) :
    IsDisk w' F' b { s with dat := upd s.dat i d', syn := upd s.syn i n' } bn bo cv cls (upd fv i v') := by
  have hfi := h.files i hi
  have hB : ∀ {g t cs}, Blk w g t cs → t ≠ 114 → t ≠ 5 → w'.heap[g]? = w.heap[g]? := fun {g t cs} hg h1 h2 =>
    hsame g hg.lt (hg.ne_ hfi.1 h1) (own_blk_ne hfi.2 hg (fun e => h2 e.symm))
  have hM : ∀ {m d}, dirAt w m d → w'.heap[m]? = w.heap[m]? := fun {m d} hm => hsame m hm.lt (hfi.1.ne_map hm).symm (own_map_ne hfi.2 hm)
  exact {
    wf := ⟨h.wf.now_id, h.wf.old_id, h.wf.chs_id, fun j hj => by
      by_cases e : j = i
      · subst e; simpa [upd_same] using hfit
      · simpa [upd_other _ _ e] using h.wf.fit j hj, h.wf.nnow, h.wf.nold, h.wf.okc, h.wf.eff, h.wf.room, h.wf.fuse1, h.wf.fuse2⟩
    blk := h.blk.same (hB h.blk (by decide) (by decide))
    now := ownsMap_block h.now (hM h.now)
    old := ownsMap_block h.old (hM h.old)
    nob := h.nob
    row := ownsRow_block h.row fun g hg => hsame g (h.row.lt g hg).2 (fun e => own_blk_ne h.row hfi.1 (by decide) (by rw [hg, e])) (own_row_ne h.row hfi.2 (by decide) g hg)
    reps := fun j v c h1 h2 => by
      have hr := h.reps j v c h1 h2
      cases c with
      | create k x =>
        obtain ⟨bf, bk, e, k1, k2, f1, f2, hl⟩ := hr
        exact ⟨bf, bk, e, k1.same (hB k1 (by decide) (by decide)), k2.same (hB k2 (by decide) (by decide)), hF _ f1, hF _ f2, hl⟩
      | rename x y =>
        obtain ⟨bf, bk, e, k1, k2, f1, f2, hl⟩ := hr
        exact ⟨bf, bk, e, k1.same (hB k1 (by decide) (by decide)), k2.same (hB k2 (by decide) (by decide)), hF _ f1, hF _ f2, hl⟩
      | remove k =>
        obtain ⟨bk, e, k1, f1, hl⟩ := hr
        exact ⟨bk, e, k1.same (hB k1 (by decide) (by decide)), hF _ f1, hl⟩
    files := fun j hj => by
      by_cases e : j = i
      · subst e; simpa [upd_same] using hf
      · simp only [upd_other _ _ e]
        have hj1 := h.files j hj
        refine hj1.frame (hsame j hj1.1.lt e (own_blk_ne hfi.2 hj1.1 (by decide))) fun g hg => hsame g (hj1.2.lt g hg).2 (fun e2 => own_blk_ne hj1.2 hfi.1 (by decide) (by rw [hg, e2])) (h.apart j hj i hi e g hg)
    apart := fun j hj k hk hjk g hg => by
      by_cases e1 : j = i
      · have e2 : k ≠ i := fun e2 => hjk (e1.trans e2.symm)
        subst e1
        rw [upd_same] at hg
        rw [upd_other _ _ e2]
        rcases hap g hg with h1 | h1
        · exact h.apart j hj k hk hjk g h1
        · intro h2
          have := ((h.files k hk).2.lt g h2).2
          omega
      · rw [upd_other _ _ e1] at hg
        by_cases e2 : k = i
        · subst e2
          rw [upd_same]
          intro h2
          rcases hap g h2 with h1 | h1
          · exact h.apart j hj k hk hjk g hg h1
          · have := ((h.files j hj).2.lt g hg).2
            omega
        · rw [upd_other _ _ e2]
          exact h.apart j hj k hk hjk g hg
    fb := hF _ h.fb
    fn := hF _ h.fn
    fo := hF _ h.fo
    fc := fun g hg => hF _ (h.fc g hg)
    fi := fun j hj => hF _ (h.fi j hj)
    fd := fun j hj g hg => by
      by_cases e1 : j = i
      · subst e1; rw [upd_same] at hg; exact hFg g hg
      · rw [upd_other _ _ e1] at hg; exact hF _ (h.fd j hj g hg)
    lt := hl }

theorem Left.back {w W : World} {F : Nat → Prop} {b : Nat} {T : Int → St → Prop} {e : Ending} {w' : World} (h : Left W F b T e w') (hk : Kept F w W) : Left w F b T e w' := by
  obtain ⟨n, s', F', he, hT, hD, hk', hF⟩ := h
  exact ⟨n, s', F', he, hT, hD, hk.trans hk' (fun _ _ h => h), fun i hi => (hF i hi).imp id (fun h => Nat.le_trans hk.size h)⟩

set_option maxHeartbeats 2000000 in
set_option maxRecDepth 100000 in
theorem settle_any {w : World} {F : Nat → Prop} {b : Nat} {s : St} (hD : Disk w F b s) :
    Calls Tryz.prog 75 #[at0 b] w fun e w' => e = .returned (.tuple #[]) ∧ Disk w' (Own F w w') b { s with old := s.now, chs := [], mid := false } ∧ Kept F w w' := by
  obtain ⟨bn, bo, cv, cls, fv, hd⟩ := hD
  have hb := hd.blk
  have c1 := hb.cell 1
  simp at c1
  have hcl := dirClone_any bn s.now w hd.now
  have HC := Lib.hid hcl
  have HD := Lib.hid hd
  clear hcl hd
  unfold at0
  go_enter Tryz.func75, Tryz.ntmps75
  go_wp2_with (go_at_call 127; refine (Hid.out HC).mono ?_; rintro e w1 ⟨rfl, hdir, hsz, hbl⟩; have HDIR := Lib.hid hdir; clear hdir; have HSZ := Lib.hid hsz; clear hsz; have HB1 := Lib.hid (HD.out.blk.below hbl HD.out.blk.lt); have d2 := HB1.out.cell 2; have d3 := HB1.out.cell 3; have z2 := HB1.out.frozen 2; have z3 := HB1.out.frozen 3; simp at d2 d3)
  go_end0
  have hd := HD.out
  have hbs := HB1.out
  have hlt := hd.blk.lt
  have hsz := HSZ.out
  have hnew := HDIR.out
  have hcells : ∀ i, i < w.heap.size → i ≠ b → ((w1.setCell ⟨b, 2, none⟩ (.map (some w.heap.size))).setCell ⟨b, 3, none⟩ (.slice none 0 0)).heap[i]? = w.heap[i]? := fun i hi h3 => by
    rw [heap_setCell_other _ _ _ h3, heap_setCell_other _ _ _ h3, hbl.block i hi]
  have hw' : ((w1.setCell ⟨b, 2, none⟩ (.map (some w.heap.size))).setCell ⟨b, 3, none⟩ (.slice none 0 0)).heap.size = w.heap.size + 1 := by rw [size_setCell', size_setCell', hsz]
  refine ⟨rfl, ⟨bn, w.heap.size, .slice none 0 0, [], fv, ?_⟩, (((Kept.below hbl).setCell (.inl hd.fb) _).setCell (.inl hd.fb) _)⟩
  exact {
    wf := ⟨hd.wf.now_id, hd.wf.now_id, by simp, hd.wf.fit, hd.wf.nnow, hd.wf.nnow, trivial, fun _ => rfl, hd.wf.room, hd.wf.fuse1, hd.wf.fuse2⟩
    blk := by simpa using (hbs.set_ 2 (.map (some w.heap.size))).set_ 3 (.slice none 0 0)
    now := ownsMap_block hd.now (hcells bn hd.now.lt (hd.blk.ne_map hd.now).symm)
    old := ownsMap_block hnew (by rw [heap_setCell_other _ _ _ (show w.heap.size ≠ b by omega), heap_setCell_other _ _ _ (show w.heap.size ≠ b by omega)])
    nob := by have := hd.now.lt; omega
    row := World.ownsRow_nil _ _ _ _
    reps := fun j v c h1 _ => by simp at h1
    files := fun i hi => (hd.files i hi).frame (hcells i (hd.files i hi).1.lt ((hd.files i hi).1.ne_ hd.blk (by decide))) fun g hg => hcells g ((hd.files i hi).2.lt g hg).2 (fun e => own_blk_ne (hd.files i hi).2 hd.blk (by decide) (by rw [hg, e]))
    apart := hd.apart
    fb := .inl hd.fb
    fn := .inl hd.fn
    fo := .inr ⟨Nat.le_refl _, by rw [hw']; omega⟩
    fc := fun g hg => by simp [Value.ownBlock] at hg
    fi := fun i hi => .inl (hd.fi i hi)
    fd := fun i hi g hg => .inl (hd.fd i hi g hg)
    lt := fun i hi => by
      rcases hi with h | h
      · have := hd.lt i h; rw [hw']; omega
      · exact h.2 }

def TSyncDir (s : St) (n : Int) (s' : St) : Prop := n = 0 ∧ s' = { s with old := s.now, chs := [], mid := false }

set_option maxHeartbeats 1000000 in
theorem syncDir1_any {w : World} {F : Nat → Prop} {b : Nat} {s : St} (hD : Disk w F b s) {bd : Nat} (h2 : Blk w bd 42 #[at0 b]) :
    Calls Tryz.prog 113 #[at0 bd] w (Left w F b fun n s' => TSyncDir s n s' ∧ s'.acts = s.acts ∧ s'.fuse = s.fuse ∧ s'.down = s.down) := by
  have cd := h2.cell 0
  simp [at0] at cd
  have hs := settle_any hD
  have HS := Lib.hid hs
  clear hs
  unfold at0
  go_enter Tryz.func113, Tryz.ntmps113
  go_wp2_with (go_at_call 75; refine (Hid.out HS).mono ?_; rintro e w1 ⟨rfl, hD1, hk1⟩)
  go_ret
  exact ⟨0, _, _, rfl, ⟨⟨rfl, rfl⟩, rfl, rfl, rfl⟩, hD1, hk1, Own.sub⟩

def TSync (s : St) (k : Nm) (n : Int) (s' : St) : Prop :=
  (dget s.now k = none ∧ n = 12 ∧ s' = s) ∨ (∃ i, dget s.now k = some i ∧ i ∈ s.ids ∧ n = 0 ∧ s' = { s with dat := upd s.dat i (s.dat i), syn := upd s.syn i (s.dat i).length })

set_option maxHeartbeats 2000000 in
set_option maxRecDepth 100000 in
theorem sync1_any {w : World} {F : Nat → Prop} {b : Nat} {s : St} (hD : Disk w F b s) (k : ByteArray) (hk : k.size ≤ maxLen) {bk bd : Nat} (h1 : Blk w bk 9 #[.string k]) (h2 : Blk w bd 42 #[at0 b]) :
    Calls Tryz.prog 112 #[at0 bd, at0 bk] w (Left w F b fun n s' => TSync s k.data.toList n s' ∧ s'.acts = s.acts ∧ s'.fuse = s.fuse ∧ s'.down = s.down) := by
  have ck := h1.cell 0
  have cd := h2.cell 0
  simp [at0] at ck cd
  have HD := Lib.hid hD
  obtain ⟨bn, bo, cv, cls, fv, hd⟩ := hD
  have c1 := hd.blk.cell 1
  simp at c1
  have hlk : ∀ n, (Instr.lookup 116 (.map (some bn)) (.string k) true).run Tryz.prog (w.drewN n) = .ok (.tuple #[ptrOf (dget s.now k.data.toList), .bool (dget s.now k.data.toList).isSome]) (w.drewN n) := fun n => look_ok (w := w.drewN n) hd.now hk
  have HI := Lib.hid hd
  clear hd
  cases hg : dget s.now k.data.toList with
  | none =>
    rw [hg] at hlk
    simp only [ptrOf, Option.isSome_none] at hlk
    have HG := Lib.hid hg; clear hg
    unfold at0
    go_enter Tryz.func112, Tryz.ntmps112
    go_wp2
    go_quiet (fail)
    go_wp2
    go_ret
    exact ⟨12, s, F, rfl, ⟨.inl ⟨HG.out, rfl, rfl⟩, rfl, rfl, rfl⟩, HD.out.drewN _, (Kept.refl F w).drewN _, fun _ hi => .inl hi⟩
  | some i =>
    rw [hg] at hlk
    simp only [ptrOf, Option.isSome_some, at0] at hlk
    have hi : i ∈ s.ids := HI.out.wf.now_id _ (dget_mem hg)
    have hf := HI.out.files i hi
    obtain ⟨A, cp, hv⟩ := own_slice hf.2
    have f0 := hf.1.cell 0
    have f1 := hf.1.cell 1
    have z1 := hf.1.frozen 1
    rw [hv] at f0
    simp at f0 f1
    have HV := Lib.hid hv; clear hv
    have HF := Lib.hid hf; clear hf
    have HG := Lib.hid hg; clear hg
    unfold at0
    go_enter Tryz.func112, Tryz.ntmps112
    go_wp2
    go_quiet (fail)
    go_wp2
    go_ret
    have hd := HI.out
    have hf := HF.out
    have hne : (fv i).ownBlock ≠ some i := own_blk_ne hf.2 hf.1 (by decide)
    have hdN : IsDisk (w.drewN nq) F b s bn bo cv cls fv := hd.frame (fun _ _ => rfl) (Nat.le_refl _)
    refine ⟨0, _, F, rfl, ⟨.inr ⟨i, HG.out, hi, rfl, rfl⟩, rfl, rfl, rfl⟩, ⟨bn, bo, cv, cls, _, hdN.file (v' := fv i) hi (fun _ h => h) (fun j hj => by rw [size_setCell']; exact hd.lt j hj) (fun j _ h1 _ => by exact heap_setCell_other _ _ _ h1) ?_ ?_ (fun g hg => .inl hg) (fun g hg => hd.fd i hi g hg)⟩, ((Kept.refl F w).drewN _).setCell (.inl (hd.fi i hi)) _, fun _ hi => .inl hi⟩
    · refine ⟨by simpa using (hf.1.drewN _).set_ 1 (.int .i64 (s.dat i).length), ownsRow_block (w := w) hf.2 fun g hg => heap_setCell_other _ _ _ fun e => hne (by rw [hg, e])⟩
    · have := hd.wf.fit i hi
      exact ⟨Nat.le_refl _, this.2⟩
end Go.Proofs.YtmhiekbpmoikfaaGreatDoor
namespace Go.Proofs.YtmhiekbpmoikfaaGreatDoor
open Go.RowKit Go.Maps Go.WideMaps

def lenSum (dat : Nat → Nm) (d : Dir) : Nat := (d.map fun p => (dat p.2).length).sum
/-- The sum over those entries that f tells. -/
def partSum (dat : Nat → Nm) (f : Nm → Bool) (d : Dir) : Nat := lenSum dat (d.filter fun p => f p.1)
theorem partSum_none (dat : Nat → Nm) (f : Nm → Bool) (d : Dir) (h : ∀ p ∈ d, f p.1 = false) : partSum dat f d = 0 := by
  have : d.filter (fun p => f p.1) = [] := by
    rw [List.filter_eq_nil_iff]
    intro p hp
    simp [h p hp]
  simp [partSum, this, lenSum]
theorem partSum_all (dat : Nat → Nm) (f : Nm → Bool) (d : Dir) (h : ∀ p ∈ d, f p.1 = true) : partSum dat f d = lenSum dat d := by
  have : d.filter (fun p => f p.1) = d := List.filter_eq_self.2 fun p hp => h p hp
  simp [partSum, this]
theorem partSum_step (dat : Nat → Nm) (f g : Nm → Bool) (x : Nm) (i : Nat) : ∀ (d : Dir), d.Pairwise (fun p q => p.1 ≠ q.1) → (x, i) ∈ d → f x = false → g x = true → (∀ k, k ≠ x → g k = f k) → partSum dat g d = partSum dat f d + (dat i).length
  | [], _, h, _, _, _ => by simp at h
  | p :: r, hp, h, hf, hg, hk => by
    obtain ⟨h1, h2⟩ := List.pairwise_cons.1 hp
    rcases List.mem_cons.1 h with e | e
    · subst e
      have e1 : r.filter (fun p => g p.1) = r.filter (fun p => f p.1) := List.filter_congr fun q hq => hk _ (fun e => h1 q hq e.symm)
      simp [partSum, hf, hg, e1, lenSum]
      omega
    · have hne : p.1 ≠ x := fun e2 => h1 (x, i) e (by rw [e2])
      have ih := partSum_step dat f g x i r h2 e hf hg hk
      simp only [partSum, lenSum] at ih ⊢
      rw [List.filter_cons, List.filter_cons, hk _ hne]
      cases f p.1
      · simpa using ih
      · simp only [if_true, List.map_cons, List.sum_cons]; omega
theorem lenSum_le (dat : Nat → Nm) (M : Nat) : ∀ (d : Dir), (∀ p ∈ d, (dat p.2).length ≤ M) → lenSum dat d ≤ d.length * M
  | [], _ => by simp [lenSum]
  | p :: r, h => by
    have ih := lenSum_le dat M r (fun q hq => h q (by simp [hq]))
    have := h p (by simp)
    simp only [lenSum, List.map_cons, List.sum_cons, List.length_cons, Nat.add_mul] at ih ⊢
    omega
theorem partSum_le (dat : Nat → Nm) (f : Nm → Bool) : ∀ (d : Dir), partSum dat f d ≤ lenSum dat d
  | [] => by simp [partSum, lenSum]
  | p :: r => by
    have ih := partSum_le dat f r
    simp only [partSum, lenSum, List.filter_cons] at ih ⊢
    cases f p.1
    · simp only [Bool.false_eq_true, if_false, List.map_cons, List.sum_cons]; omega
    · simp only [if_true, List.map_cons, List.sum_cons]; omega

theorem used_le {s : St} (h : WF s) : lenSum s.dat s.now ≤ 16777216 := by
  have h1 := lenSum_le s.dat 262144 s.now (fun p hp => (h.fit _ (h.now_id p hp)).2)
  have h2 := h.nnow
  have h3 : s.now.length * 262144 ≤ 64 * 262144 := Nat.mul_le_mul_right _ h2
  omega

theorem ptr_inv {v : Value} {y : DataW Unit × List MemPlace} (h : ptrElem v = some y) : ∃ c : Option Nat, v = ptrOf c := by
  unfold ptrElem at h
  split at h
  · exact ⟨some _, rfl⟩
  · exact ⟨none, rfl⟩
  · cases h

theorem pairs_ne {d : Dir} (h : d.Pairwise (fun p q => p.1 < q.1)) : d.Pairwise (fun p q => p.1 ≠ q.1) :=
  h.imp fun {p q} hpq e => by rw [e] at hpq; exact List.lt_irrefl _ hpq

set_option maxHeartbeats 2000000 in
set_option maxRecDepth 100000 in
theorem used_any {w : World} {F : Nat → Prop} {b : Nat} {s : St} (hD : Disk w F b s) :
    Calls Tryz.prog 111 #[at0 b] w fun e w' => e = .returned (.int .i64 (lenSum s.dat s.now)) ∧ Below w.heap.size w w' := by
  obtain ⟨bn, bo, cv, cls, fv, hd⟩ := hD
  have c1 := hd.blk.cell 1
  simp at c1
  have hsum := used_le hd.wf
  have hpw := Lib.hid (pairs_ne (dir_sorted hd.now))
  have hnow := hd.now
  have HI := Lib.hid hd
  have hbn := hd.now.lt
  clear hd
  unfold at0
  go_enter Tryz.func111, Tryz.ntmps111
  go_wp2_with (first
    | (at_range; refine wpList_range_own _ rfl _ 116 rfl 9 112 strLaw Tryz.underlying116 ptrElem bn 300 (toD s.now) rfl hnow ?_; intro w0 hrg0 hg0 hs0; have HS0 := Lib.hid hs0; clear hs0)
    | go_in)
  go_frame
  go_loopw [3] (fun v wr => ∃ (left : Lit → Bool) (cnt : Nat), v = .int .i64 (partSum s.dat (fun k => !left (.string k)) s.now) ∧ wr.ranges Tryz.prog 9 ptrElem bn w.heap.size 300 (toD s.now) left cnt ∧ Below w.heap.size w wr)
    (fun _ wr => wr.rangeLeft bn w.heap.size)
  case atStart =>
    refine ⟨_, _, ?_, hrg0, (Below.refl _ _).grown hg0 (Nat.le_refl _) (by simp)⟩
    rw [partSum_none]
    · rfl
    · intro p hp
      rw [toD_has]
      have : (dget s.now p.1).isSome = true := by
        unfold dget
        simp only [Option.isSome_map, List.find?_isSome]
        exact ⟨p, hp, by simp⟩
      rw [this]; rfl
  case round =>
    obtain ⟨left, cnt, rfl, hrg, hbl⟩ := hrel
    have hps := partSum_le s.dat (fun k => !left (.string k)) s.now
    go_wp2_with (first
      | (at_next; refine wpList_next_ranges _ rfl _ rfl 9 strLaw ptrElem encStr ptrOf (fun key kl hk => by obtain ⟨x, hx, _⟩ := Maps.keyOf_str Tryz.underlying9 hk; exact ⟨x, hx⟩) (fun v y h => ptr_inv h) bn w.heap.size 300 (toD s.now) left cnt rfl hrg ?_ ?_)
      | go_in)
    · intro _ hl0
      go_wp2
      go_ret
      refine ⟨?_, hbl⟩
      rw [← partSum_all s.dat (fun k => !left (.string k)) s.now (fun p _ => by simp [hl0])]
      rfl
    · intro x c kl yd yp w1 cnt1 hkey hlk hv hat hrg1 hlt hg1 hs1 hen
      clear hs1
      obtain ⟨x', ex, rfl, _⟩ := Maps.keyOf_str Tryz.underlying9 hkey
      obtain rfl : x = x' := encStr_inj ex
      clear ex
      have hget : ∃ i, dget s.now x = some i ∧ yd = idLit i := by
        have h1 := hat (.lit (.bool true))
        have h2 := hat (.lit (.bool false))
        rw [toD_at] at h1 h2
        cases hg : dget s.now x with
        | none =>
          rw [hg] at h1 h2
          simp only at h1 h2
          rw [← h2] at h1
          simp [DataW.lit.injEq] at h1
        | some i =>
          rw [hg] at h1
          exact ⟨i, rfl, h1.symm⟩
      obtain ⟨i, hgi, rfl⟩ := hget
      have hc : ptrOf c = at0 i := ptrElem_inv hv
      rw [hc] at hen ⊢
      have hmem := dget_mem hgi
      have hi : i ∈ s.ids := HI.out.wf.now_id _ hmem
      have hf := HI.out.files i hi
      have hfit := HI.out.wf.fit i hi
      obtain ⟨A, cp, hsl⟩ := own_slice hf.2
      have hbl1 : Below w.heap.size w w1 := hbl.grown hg1 hbl.size (fun k hk => by cases hk; exact Nat.le_refl _)
      have f0 := (hf.1.below hbl1 hf.1.lt).cell 0
      rw [hsl] at f0
      simp at f0
      have hst := partSum_step s.dat (fun k => !left (.string k)) (fun k => !(left (.string k) && !(Lit.string k).sameKey (.string x))) x i s.now hpw.out hmem (by simp [hlk]) (by simp [Lit.sameKey]) (fun k hk => by
        have : (Lit.string k).sameKey (.string x) = false := by simpa [Lit.sameKey] using hk
        simp [this])
      have hle := partSum_le s.dat (fun k => !(left (.string k) && !(Lit.string k).sameKey (.string x))) s.now
      have HST := Lib.hid hst
      have hst' : partSum s.dat (fun k => !left (.string k)) s.now + (s.dat i).length ≤ 16777216 := by omega
      have HF := Lib.hid hf
      have HC := Lib.hid hc
      have HSL := Lib.hid hsl
      clear hst hle hf hc hsl hgi hat hv hkey
      simp only [encStr, at0] at hen ⊢
      go_wp2
      go_roundw
      case rel => exact ⟨_, cnt1, by rw [HST.out]; go_num, hrg1, hbl1⟩
      case measure => rw [hrg1.left_eq, hrg.left_eq]; exact hlt
end Go.Proofs.YtmhiekbpmoikfaaGreatDoor
namespace Go.Proofs.YtmhiekbpmoikfaaGreatDoor
open Go.RowKit Go.Maps Go.WideMaps

/-- What Append's own part comes to. -/
def TAppend (s : St) (k bs : Nm) (n : Int) (s' : St) : Prop :=
  (dget s.now k = none ∧ n = 12 ∧ s' = s) ∨
  (∃ i, dget s.now k = some i ∧ i ∈ s.ids ∧ 262144 < bs.length + (s.dat i).length ∧ n = 2 ∧ s' = s) ∨
  (∃ i, dget s.now k = some i ∧ i ∈ s.ids ∧ bs.length + (s.dat i).length ≤ 262144 ∧ s.room < lenSum s.dat s.now + bs.length ∧ n = 11 ∧ s' = s) ∨
  (∃ i, dget s.now k = some i ∧ i ∈ s.ids ∧ bs.length + (s.dat i).length ≤ 262144 ∧ lenSum s.dat s.now + bs.length ≤ s.room ∧ n = 0 ∧ s' = { s with dat := upd s.dat i (s.dat i ++ bs), syn := upd s.syn i (s.syn i) })

theorem append_end {w w1 w2 w3 : World} {F : Nat → Prop} {b : Nat} {s : St} {bn bo : Nat} {cv : Value} {cls : List Value} {fv : Nat → Value} (hd : IsDisk w F b s bn bo cv cls fv) {i : Nat} (hi : i ∈ s.ids) {k bs : Nm} (hg : dget s.now k = some i)
    (hl : bs.length + (s.dat i).length ≤ 262144) (hr : lenSum s.dat s.now + bs.length ≤ s.room) (hB : Below w.heap.size w w1) (hw2 : w2.heap = w1.heap) {v v' : Value} (hv : v = fv i) (hg2 : w2.grownBy w3 v.ownBlock)
    (hown : w3.ownsRow 0 5 1 v' ((s.dat i).length + bs.length) ((s.dat i).map byteV ++ bs.map byteV)) (hloc : v'.ownBlock = v.ownBlock ∨ v'.ownBlock = some w2.heap.size) (hb4 : Blk w3 i 114 #[v, .int .i64 (s.syn i)]) (hos : w2.os = w1.os) (hta : w2.tape = w1.tape) (hou : w2.output = w1.output) :
    Left w F b (fun n s' => TAppend s k bs n s' ∧ s'.acts = s.acts ∧ s'.fuse = s.fuse ∧ s'.down = s.down) (.returned (.int .i64 0)) (w3.setCell ⟨i, 0, none⟩ v') := by
  subst hv
  have hfi := hd.files i hi
  have hs1 : w.heap.size ≤ w2.heap.size := by rw [hw2]; exact hB.size
  have hno : (fv i).ownBlock ≠ some i := own_blk_ne hfi.2 hfi.1 (by decide)
  have hk2 : Kept F w w2 := ⟨hos.trans hB.os, hta.trans hB.tape, hou.trans hB.output, hs1, fun j hj _ => by rw [hw2]; exact hB.block j hj⟩
  have hk3 : Kept F w (w3.setCell ⟨i, 0, none⟩ v') := (hk2.grown hg2 (fun g hg => .inl (hd.fd i hi g hg))).setCell (.inl (hd.fi i hi)) _
  have hno' : v'.ownBlock ≠ some i := own_blk_ne hown hb4 (by decide)
  refine ⟨0, _, Own F w (w3.setCell ⟨i, 0, none⟩ v'), rfl, ⟨.inr (.inr (.inr ⟨i, hg, hi, hl, hr, rfl, rfl⟩)), rfl, rfl, rfl⟩, ⟨bn, bo, cv, cls, _, hd.file (v' := v') hi (fun _ h => .inl h) ?_ ?_ ?_ ?_ ?_ ?_⟩, hk3, Own.sub⟩
  · intro j hj
    rcases hj with h | h
    · exact Nat.lt_of_lt_of_le (hd.lt j h) hk3.size
    · exact h.2
  · intro j hj h1 h2
    rw [heap_setCell_other _ _ _ h1, hg2.block j (by omega) (fun e => h2 e.symm), hw2, hB.block j hj]
  · refine ⟨by simpa using hb4.set_ 0 v', ?_⟩
    have : w3.ownsRow 0 5 1 v' (s.dat i ++ bs).length ((s.dat i ++ bs).map byteV) := by simpa using hown
    exact ownsRow_block this fun g hg => heap_setCell_other _ _ _ fun e => hno' (by rw [hg, e])
  · have := hd.wf.fit i hi
    simp
    omega
  · intro g hg
    rcases hloc with h | h
    · exact .inl (by rw [← h]; exact hg)
    · rw [h] at hg
      have : g = w2.heap.size := by simpa using hg.symm
      exact .inr (by omega)
  · intro g hg
    rcases hloc with h | h
    · exact .inl (hd.fd i hi g (by rw [← h]; exact hg))
    · have h1 := (hown.lt g hg).2
      rw [h] at hg
      have : g = w2.heap.size := by simpa using hg.symm
      exact .inr ⟨by omega, by rw [size_setCell']; exact h1⟩

set_option maxHeartbeats 4000000 in
set_option maxRecDepth 100000 in
theorem append1_any {w : World} {F : Nat → Prop} {b : Nat} {s : St} (hD : Disk w F b s) (k : ByteArray) (hk : k.size ≤ maxLen) (A : Option Addr) (n c : Nat) (bs : Nm) (hsrc : Src w A n (bs.map byteV)) (hn : n ≤ 140737488355328) (hA : ∀ ad, A = some ad → 0 < n → ad.block < w.heap.size ∧ ¬ F ad.block)
    {bk bd bb : Nat} (h1 : Blk w bk 9 #[.string k]) (h2 : Blk w bd 42 #[at0 b]) (h3 : Blk w bb 25 #[.slice A n c]) :
    Calls Tryz.prog 110 #[at0 bd, at0 bk, at0 bb] w (Left w F b fun n s' => TAppend s k.data.toList bs n s' ∧ s'.acts = s.acts ∧ s'.fuse = s.fuse ∧ s'.down = s.down) := by
  have hbn : bs.length = n := by have := hsrc.len; simpa using this
  have ck := h1.cell 0
  have cd := h2.cell 0
  have cb := h3.cell 0
  simp [at0] at ck cd cb
  have HD := Lib.hid hD
  obtain ⟨bn, bo, cv, cls, fv, hd⟩ := hD
  have c1 := hd.blk.cell 1
  have c0 := hd.blk.cell 0
  simp at c1 c0
  have hlk : ∀ n, (Instr.lookup 116 (.map (some bn)) (.string k) true).run Tryz.prog (w.drewN n) = .ok (.tuple #[ptrOf (dget s.now k.data.toList), .bool (dget s.now k.data.toList).isSome]) (w.drewN n) := fun n => look_ok (w := w.drewN n) hd.now hk
  have HI := Lib.hid hd
  clear hd
  have HBN := Lib.hid hbn; clear hbn
  cases hg : dget s.now k.data.toList with
  | none =>
    rw [hg] at hlk
    simp only [ptrOf, Option.isSome_none] at hlk
    have HG := Lib.hid hg; clear hg
    unfold at0
    go_enter Tryz.func110, Tryz.ntmps110
    go_wp2
    go_quiet (fail)
    go_wp2
    go_ret
    exact ⟨12, s, F, rfl, ⟨.inl ⟨HG.out, rfl, rfl⟩, rfl, rfl, rfl⟩, HD.out.drewN _, (Kept.refl F w).drewN _, fun _ hi => .inl hi⟩
  | some i =>
    rw [hg] at hlk
    simp only [ptrOf, Option.isSome_some, at0] at hlk
    have hi : i ∈ s.ids := HI.out.wf.now_id _ (dget_mem hg)
    have hf := HI.out.files i hi
    have hfit := (HI.out.wf.fit i hi).2
    obtain ⟨A', cp, hv⟩ := own_slice hf.2
    have f0 := hf.1.cell 0
    rw [hv] at f0
    simp at f0
    have HV := Lib.hid hv; clear hv
    have HF := Lib.hid hf; clear hf
    have HG := Lib.hid hg; clear hg
    by_cases hbig : 262144 < n + (s.dat i).length
    · unfold at0
      go_enter Tryz.func110, Tryz.ntmps110
      go_wp2
      go_quiet (fail)
      go_wp2
      go_quiet (fail)
      go_wp2
      go_ret
      exact ⟨2, s, F, rfl, ⟨.inr (.inl ⟨i, HG.out, hi, by rw [HBN.out]; exact hbig, rfl, rfl⟩), rfl, rfl, rfl⟩, (HD.out.drewN _).drewN _, ((Kept.refl F w).drewN _).drewN _, fun _ hi => .inl hi⟩
    · unfold at0
      go_enter Tryz.func110, Tryz.ntmps110
      go_wp2
      go_quiet (fail)
      go_wp2
      go_quiet (fail)
      go_wp2
      refine wp_at ?_
      intro W hW
      have hbz : Below w.heap.size w W := by rw [hW]; exact below_drewN2 _ _ _
      have hby : Below w.heap.size w W.drew := hbz.drew
      have e1 : W.cell? ⟨bd, 0, none⟩ = some (.pointer (some ⟨b, 0, none⟩)) := by rw [hW]; exact cd
      have e2 : W.cell? ⟨b, 0, none⟩ = some (.int .i64 s.room) := by rw [hW]; exact c0
      have e3 : W.cell? ⟨bb, 0, none⟩ = some (.slice A n c) := by rw [hW]; exact cb
      clear hW
      have hroom := HI.out.wf.room
      have hused := used_le HI.out.wf
      have hwr : IntKind.i64.wrap ((s.room : Int) - (n : Int)) = (s.room : Int) - (n : Int) := IntWalk.i64_in _ (by omega)
      go_region_held3 (fun w' => w'.cell? ⟨bd, 0, none⟩ = some (.pointer (some ⟨b, 0, none⟩)) ∧ w'.cell? ⟨b, 0, none⟩ = some (.int .i64 s.room) ∧ w'.cell? ⟨bb, 0, none⟩ = some (.slice A n c) ∧ Below w.heap.size w w')
        (first | go_keep | exact ⟨e1, e2, e3, hby⟩ | exact ⟨below_cells hb (by assumption), below_cells hb (by assumption), below_cells hb (by assumption), Below.trans (by assumption) (hb.mono (Below.size (by assumption)))⟩)
        (first | (go_at_call 111; refine (used_any (HD.out.kept (Kept.below (F := fun _ => False) (by assumption)) (fun _ _ => id))).mono ?_; rintro e w' ⟨rfl, hb⟩))
      rename_i hHeld
      obtain ⟨-, -, g3, hB2⟩ := hHeld
      have HWR := Lib.hid hwr
      clear hwr e1 e2 e3 hby hbz cd c0 cb c1 ck hlk
      by_cases hfull : s.room < lenSum s.dat s.now + n
      · have hf1 : (s.room : Int) - (n : Int) < (lenSum s.dat s.now : Int) := by omega
        go_wp2
        go_ret
        exact ⟨11, s, F, rfl, ⟨.inr (.inr (.inl ⟨i, HG.out, hi, by rw [HBN.out]; omega, by rw [HBN.out]; omega, rfl, rfl⟩)), rfl, rfl, rfl⟩, HD.out.kept (Kept.below (F := fun _ => False) hB2) (fun _ _ => id), Kept.below hB2, fun _ hi => .inl hi⟩
      · have hf1 : ¬ (s.room : Int) - (n : Int) < (lenSum s.dat s.now : Int) := by omega
        obtain ⟨i0, hi0, hz0, hz1, hz2⟩ := info_parts byteInfo
        have hfi := HF.out
        have hB3 : Blk w' i 114 #[.slice A' (s.dat i).length cp, .int .i64 (s.syn i)] := by rw [← HV.out]; exact hfi.1.below hB2 hfi.1.lt
        have hrowW : w'.ownsRow 0 5 1 (.slice A' (s.dat i).length cp) (s.dat i).length ((s.dat i).map byteV) := by
          rw [← HV.out]; exact ownsRow_block hfi.2 fun g hg => hB2.block g (hfi.2.lt g hg).2
        have hsrcW : Src w' A n (bs.map byteV) := hsrc.keep fun ad e h0 => hB2.block _ (hA ad e h0).1
        have k0 := hB3.cell 0
        simp at k0
        have hno : (Value.slice A' (s.dat i).length cp).ownBlock ≠ some i := own_blk_ne hrowW hB3 (by decide)
        have hrowD : w'.drew.ownsRow 0 5 1 (.slice A' (s.dat i).length cp) (s.dat i).length ((s.dat i).map byteV) := hrowW
        have hsrcD : Src w'.drew A n (bs.map byteV) := ⟨hsrcW.1, hsrcW.2, hsrcW.3⟩
        have hB3d : Blk w'.drew i 114 #[.slice A' (s.dat i).length cp, .int .i64 (s.syn i)] := hB3
        have HB3 := Lib.hid hB3d
        have HNO := Lib.hid hno
        clear hB3 hB3d hno f0 hfi hrowW hsrcW
        have h1c : ∀ u ∈ bs.map byteV, u.oneCell' = true := by
          intro u hu
          obtain ⟨x, _, rfl⟩ := List.mem_map.1 hu
          rfl
        have H1C := Lib.hid h1c
        clear h1c
        go_wp2
        go_region_law (refine step_append_src _ rfl (.tmp 43) (.tmp 44) 25 rfl 0 5 i0 (.int .u8 0) 1 Tryz.underlying25 hi0 hz0 hz1 hz2 rfl (.slice A' (s.dat i).length cp) (s.dat i).length ((s.dat i).map byteV) rfl hrowD A n c (bs.map byteV) rfl hsrcD H1C.out (by unfold maxLen; omega) (by omega) (Nat.zero_le _) ?_; intro v' w3 hown' hg2 hloc; obtain ⟨A3, cp3, hv3⟩ := own_slice hown'; rw [hv3]; have HV3 := Lib.hid hv3; clear hv3; have HB4 := Lib.hid (HB3.out.grown hg2 (fun e => HNO.out e.symm)); have z4 := HB4.out.frozen 0; have e4 := HB4.out.cell 0; simp at e4)
        all_goals
          go_wp2
          go_ret
          rw [← HV3.out]
          have hn2 := HBN.out
          refine append_end HI.out hi HG.out (by omega) (by omega) hB2 (w2 := w'.drew) rfl (v := .slice A' (s.dat i).length cp) HV.out.symm hg2 (by rw [hn2]; exact hown') hloc HB4.out rfl rfl rfl
end Go.Proofs.YtmhiekbpmoikfaaGreatDoor
namespace Go.Proofs.YtmhiekbpmoikfaaGreatDoor
open Go.RowKit Go.Maps Go.WideMaps

def TRemove (s : St) (k : Nm) (n : Int) (s' : St) : Prop :=
  (dget s.now k = none ∧ n = 12 ∧ s' = s) ∨ ((dget s.now k).isSome = true ∧ n = 0 ∧ s' = { s with now := ddel s.now k, chs := s.chs ++ [.remove k] })

set_option maxHeartbeats 2000000 in
set_option maxRecDepth 100000 in
theorem remove1_any {w : World} {F : Nat → Prop} {b : Nat} {s : St} (hD : Disk w F b s) (hm : s.mid = false) (hcs : s.chs.length < 1099511627776) (k : ByteArray) (hkm : k.size ≤ maxLen) (hk0 : (dget s.now k.data.toList).isSome = true → k.size ≤ 281474976710656) {bk bd : Nat} (h1 : Blk w bk 9 #[.string k]) (h2 : Blk w bd 42 #[at0 b]) :
    Calls Tryz.prog 135 #[at0 bd, at0 bk] w (Left w F b fun n s' => TRemove s k.data.toList n s' ∧ s'.acts = s.acts ∧ s'.fuse = s.fuse ∧ s'.down = s.down) := by
  have ck := h1.cell 0
  have cd := h2.cell 0
  simp [at0] at ck cd
  have hhas := has_any hD k hkm
  have HH := Lib.hid hhas; clear hhas
  have HD := Lib.hid hD
  obtain ⟨bn, bo, cv, cls, fv, hd⟩ := hD
  have HI := Lib.hid hd
  clear hd
  unfold at0
  cases hg : dget s.now k.data.toList with
  | none =>
    have HG := Lib.hid hg; clear hg
    go_enter Tryz.func135, Tryz.ntmps135
    go_wp2_with (go_at_call 72; refine (Hid.out HH).mono ?_; rintro e w' ⟨rfl, rfl⟩; rw [HG.out])
    go_ret
    exact ⟨12, s, F, rfl, ⟨.inl ⟨HG.out, rfl, rfl⟩, rfl, rfl, rfl⟩, HD.out, Kept.refl F w, fun _ hi => .inl hi⟩
  | some i =>
    have hk := hk0 (by rw [hg]; rfl)
    clear hk0
    have HG := Lib.hid hg; clear hg
    go_enter Tryz.func135, Tryz.ntmps135
    go_wp2_with (first | (go_at_call 72; refine (Hid.out HH).mono ?_; rintro e w' ⟨rfl, rfl⟩; rw [HG.out]) | (go_at_call 74; refine (ownName_any _ _ hk).mono ?_; rintro e w1 ⟨rfl, hb⟩; have hsz := hb.size; have hbd : bd < w1.heap.size := Nat.lt_of_lt_of_le h2.lt hsz; have e2 : ∀ o1, (w1.alloc o1).cell? ⟨bd, 0, none⟩ = some (.pointer (some ⟨b, 0, none⟩)) := (fun o1 => (((h2.below hb h2.lt).alloc o1).cell 0).trans (by simp [at0])); clear cd))
    refine calls_at ?_
    intro W hW
    have hWk : Kept F w W := by rw [hW]; exact (Kept.below hb).alloc _
    have hWs : w1.heap.size + 1 ≤ W.heap.size := by rw [hW]; simp
    have hb1 : Blk W w1.heap.size 9 #[.string k] := by rw [hW]; exact Blk.new _ _ _
    have hd := HI.out
    have hWb : ∀ j, F j → W.heap[j]? = w.heap[j]? := fun j hj => by
      have hj' := hd.lt j hj
      rw [hW, Below.heap_alloc _ _ _ (by omega), hb.block j hj']
    clear hW
    have hd1 := (hd.frame hWb hWk.size).more (F' := Own F w W) (fun j hj => .inl hj) (fun j hj => by
      rcases hj with h | h
      · have := hd.lt j h; have := hWk.size; omega
      · exact h.2)
    have hkl : k.data.toList.length ≤ 281474976710656 := by simpa using hk
    have hes : encStr k.data.toList = .string k := by simp [encStr]
    have hln := length_ddel s.now k.data.toList
    have hn64 := hd.wf.nnow
    have hch := change_any 136 #[at0 w1.heap.size] (enters_of Tryz.func136 (by kernel_rfl) rfl) hd1 hm (.remove k.data.toList) hcs (by show (ddel s.now _).length ≤ 64; omega) trivial (by show (ddel s.now _).length ≤ 64; omega)
      (fun p hp => hd.wf.now_id p (mem_ddel.1 hp).1)
      ⟨_, rfl, by rw [hes]; exact hb1, .inr ⟨by omega, by omega⟩, hkl⟩
      (remove_eff hd1.now (by omega) (by rw [hes]; exact hb1) hkl)
    refine hch.mono ?_
    rintro e w2 ⟨rfl, hD2, hk2⟩
    go_wp2
    go_ret
    refine ⟨0, _, _, rfl, ⟨.inr ⟨by rw [HG.out]; rfl, rfl, rfl⟩, rfl, rfl, rfl⟩, hD2, hWk.trans hk2 ?_, ?_⟩
    · intro i hi' h
      rcases h with h | h
      · exact h
      · omega
    · intro i h
      rcases h with (h | h) | h
      · exact .inl h
      · exact .inr h.1
      · have := hWk.size; exact .inr (by omega)

theorem two_boxes {w : World} {o1 o2 : Obj} {F : Nat → Prop} : Kept F w ((w.alloc o1).alloc o2) := ((Kept.refl F w).alloc _).alloc _

set_option maxHeartbeats 1000000 in
theorem Create_any {w : World} {F : Nat → Prop} {b : Nat} {s : St} (hD : Disk w F b s) (hm : s.mid = false) (ha : s.acts < 1099511627776) (hcs : s.chs.length < 1099511627776) (k : ByteArray) (hk : k.size ≤ maxLen) :
    Calls Tryz.prog 45 #[at0 b, .string k] w (Left w F b (ActEnd s (TCreate s k.data.toList))) := by
  have hD' := (hD.alloc (.cells #[at0 b] 42)).alloc (.cells #[.string k] 9)
  have b1 : Blk ((w.alloc (.cells #[at0 b] 42)).alloc (.cells #[.string k] 9)) w.heap.size 42 #[at0 b] := (Blk.new _ _ _).alloc _
  have b2 : Blk ((w.alloc (.cells #[at0 b] 42)).alloc (.cells #[.string k] 9)) (w.heap.size + 1) 9 #[.string k] := by simpa using Blk.new (w.alloc (.cells #[at0 b] 42)) 9 #[.string k]
  have hc := act_any 107 #[at0 (w.heap.size + 1), at0 w.heap.size] (enters_of Tryz.func107 (by kernel_rfl) rfl) hD' ha (TCreate s k.data.toList) (fun _ _ => create1_any hD' hm hcs k hk b2 b1)
  have HC := Lib.hid (hc.mono fun e w' (h : Left _ _ _ _ e w') => h.back two_boxes)
  clear hc b1 b2 hD'
  unfold at0
  go_enter Tryz.func45, Tryz.ntmps45
  go_wp2_with (go_at_call 106; refine (Hid.out HC).mono ?_; rintro e w' ⟨n, s', F', rfl, hrest⟩)
  go_ret
  exact ⟨n, s', F', rfl, hrest⟩
end Go.Proofs.YtmhiekbpmoikfaaGreatDoor
namespace Go.Proofs.YtmhiekbpmoikfaaGreatDoor
open Go.RowKit Go.Maps Go.WideMaps

set_option maxHeartbeats 1000000 in
theorem Sync_any {w : World} {F : Nat → Prop} {b : Nat} {s : St} (hD : Disk w F b s) (ha : s.acts < 1099511627776) (k : ByteArray) (hk : k.size ≤ maxLen) :
    Calls Tryz.prog 47 #[at0 b, .string k] w (Left w F b (ActEnd s (TSync s k.data.toList))) := by
  have hD' := (hD.alloc (.cells #[at0 b] 42)).alloc (.cells #[.string k] 9)
  have b1 : Blk ((w.alloc (.cells #[at0 b] 42)).alloc (.cells #[.string k] 9)) w.heap.size 42 #[at0 b] := (Blk.new _ _ _).alloc _
  have b2 : Blk ((w.alloc (.cells #[at0 b] 42)).alloc (.cells #[.string k] 9)) (w.heap.size + 1) 9 #[.string k] := by simpa using Blk.new (w.alloc (.cells #[at0 b] 42)) 9 #[.string k]
  have hc := act_any 112 #[at0 w.heap.size, at0 (w.heap.size + 1)] (enters_of Tryz.func112 (by kernel_rfl) rfl) hD' ha (TSync s k.data.toList) (fun _ _ => sync1_any hD' k hk b2 b1)
  have HC := Lib.hid (hc.mono fun e w' (h : Left _ _ _ _ e w') => h.back two_boxes)
  clear hc b1 b2 hD'
  unfold at0
  go_enter Tryz.func47, Tryz.ntmps47
  go_wp2_with (go_at_call 106; refine (Hid.out HC).mono ?_; rintro e w' ⟨n, s', F', rfl, hrest⟩)
  go_ret
  exact ⟨n, s', F', rfl, hrest⟩

set_option maxHeartbeats 1000000 in
theorem Remove_any {w : World} {F : Nat → Prop} {b : Nat} {s : St} (hD : Disk w F b s) (hm : s.mid = false) (ha : s.acts < 1099511627776) (hcs : s.chs.length < 1099511627776) (k : ByteArray) (hk : k.size ≤ maxLen) (hk0 : (dget s.now k.data.toList).isSome = true → k.size ≤ 281474976710656) :
    Calls Tryz.prog 89 #[at0 b, .string k] w (Left w F b (ActEnd s (TRemove s k.data.toList))) := by
  have hD' := (hD.alloc (.cells #[at0 b] 42)).alloc (.cells #[.string k] 9)
  have b1 : Blk ((w.alloc (.cells #[at0 b] 42)).alloc (.cells #[.string k] 9)) w.heap.size 42 #[at0 b] := (Blk.new _ _ _).alloc _
  have b2 : Blk ((w.alloc (.cells #[at0 b] 42)).alloc (.cells #[.string k] 9)) (w.heap.size + 1) 9 #[.string k] := by simpa using Blk.new (w.alloc (.cells #[at0 b] 42)) 9 #[.string k]
  have hc := act_any 135 #[at0 w.heap.size, at0 (w.heap.size + 1)] (enters_of Tryz.func135 (by kernel_rfl) rfl) hD' ha (TRemove s k.data.toList) (fun _ _ => remove1_any hD' hm hcs k hk hk0 b2 b1)
  have HC := Lib.hid (hc.mono fun e w' (h : Left _ _ _ _ e w') => h.back two_boxes)
  clear hc b1 b2 hD'
  unfold at0
  go_enter Tryz.func89, Tryz.ntmps89
  go_wp2_with (go_at_call 106; refine (Hid.out HC).mono ?_; rintro e w' ⟨n, s', F', rfl, hrest⟩)
  go_ret
  exact ⟨n, s', F', rfl, hrest⟩

set_option maxHeartbeats 1000000 in
theorem SyncDir_any {w : World} {F : Nat → Prop} {b : Nat} {s : St} (hD : Disk w F b s) (ha : s.acts < 1099511627776) :
    Calls Tryz.prog 51 #[at0 b] w (Left w F b (ActEnd s (TSyncDir s))) := by
  have hD' := hD.alloc (.cells #[at0 b] 42)
  have b1 : Blk (w.alloc (.cells #[at0 b] 42)) w.heap.size 42 #[at0 b] := Blk.new _ _ _
  have hc := act_any 113 #[at0 w.heap.size] (enters_of Tryz.func113 (by kernel_rfl) rfl) hD' ha (TSyncDir s) (fun _ _ => syncDir1_any hD' b1)
  have HC := Lib.hid (hc.mono fun e w' (h : Left _ _ _ _ e w') => h.back ((Kept.refl F w).alloc _))
  clear hc b1 hD'
  unfold at0
  go_enter Tryz.func51, Tryz.ntmps51
  go_wp2_with (go_at_call 106; refine (Hid.out HC).mono ?_; rintro e w' ⟨n, s', F', rfl, hrest⟩)
  go_ret
  exact ⟨n, s', F', rfl, hrest⟩

set_option maxHeartbeats 1000000 in
theorem Append_any {w : World} {F : Nat → Prop} {b : Nat} {s : St} (hD : Disk w F b s) (ha : s.acts < 1099511627776) (k : ByteArray) (hk : k.size ≤ maxLen) (A : Option Addr) (n c : Nat) (bs : Nm) (hsrc : Src w A n (bs.map byteV)) (hn : n ≤ 140737488355328) (hA : ∀ ad, A = some ad → 0 < n → ad.block < w.heap.size ∧ ¬ F ad.block) :
    Calls Tryz.prog 46 #[at0 b, .string k, .slice A n c] w (Left w F b (ActEnd s (TAppend s k.data.toList bs))) := by
  have hD' := ((hD.alloc (.cells #[at0 b] 42)).alloc (.cells #[.string k] 9)).alloc (.cells #[.slice A n c] 25)
  have b1 : Blk (((w.alloc (.cells #[at0 b] 42)).alloc (.cells #[.string k] 9)).alloc (.cells #[.slice A n c] 25)) w.heap.size 42 #[at0 b] := ((Blk.new _ _ _).alloc _).alloc _
  have b2 : Blk (((w.alloc (.cells #[at0 b] 42)).alloc (.cells #[.string k] 9)).alloc (.cells #[.slice A n c] 25)) (w.heap.size + 1) 9 #[.string k] := by simpa using (Blk.new (w.alloc (.cells #[at0 b] 42)) 9 #[.string k]).alloc (.cells #[.slice A n c] 25)
  have b3 : Blk (((w.alloc (.cells #[at0 b] 42)).alloc (.cells #[.string k] 9)).alloc (.cells #[.slice A n c] 25)) (w.heap.size + 1 + 1) 25 #[.slice A n c] := by simpa using Blk.new ((w.alloc (.cells #[at0 b] 42)).alloc (.cells #[.string k] 9)) 25 #[.slice A n c]
  have hs' : Src (((w.alloc (.cells #[at0 b] 42)).alloc (.cells #[.string k] 9)).alloc (.cells #[.slice A n c] 25)) A n (bs.map byteV) := hsrc.keep fun ad e h0 => by
    have := (hA ad e h0).1
    rw [Below.heap_alloc _ _ _ (by simp; omega), Below.heap_alloc _ _ _ (by simp; omega), Below.heap_alloc _ _ _ this]
  have hc := act_any 110 #[at0 w.heap.size, at0 (w.heap.size + 1), at0 (w.heap.size + 1 + 1)] (enters_of Tryz.func110 (by kernel_rfl) rfl) hD' ha (TAppend s k.data.toList bs) (fun _ _ => append1_any hD' k hk A n c bs hs' hn (fun ad e h0 => ⟨by have := (hA ad e h0).1; simp; omega, (hA ad e h0).2⟩) b2 b1 b3)
  have HC := Lib.hid (hc.mono fun e w' (h : Left _ _ _ _ e w') => h.back (two_boxes.alloc _))
  clear hc b1 b2 b3 hD' hs'
  unfold at0
  go_enter Tryz.func46, Tryz.ntmps46
  go_wp2_with (go_at_call 106; refine (Hid.out HC).mono ?_; rintro e w' ⟨n, s', F', rfl, hrest⟩)
  go_ret
  exact ⟨n, s', F', rfl, hrest⟩

set_option maxHeartbeats 1000000 in
theorem Fuse_any {w : World} {F : Nat → Prop} {b : Nat} {s : St} (hD : Disk w F b s) (n : Int) (hn : n ≤ 9223372036854775807) :
    Calls Tryz.prog 36 #[at0 b, .int .i64 n] w fun e w' => e = .returned (.tuple #[]) ∧ Disk w' F b { s with fuse := max n (-1) } ∧ Kept F w w' := by
  obtain ⟨bn, bo, cv, cls, fv, hd⟩ := hD
  have hb := hd.blk
  have c5 := hb.cell 5
  have z5 := hb.frozen 5
  simp at c5
  have HD := Lib.hid hd
  clear hd hb
  unfold at0
  go_enter Tryz.func36, Tryz.ntmps36
  go_wp2
  go_end0
  have hd := HD.out
  have h1 := hd.atB (w' := w.setCell ⟨b, 5, none⟩ (.int .i64 (max n (-1)))) (a := s.acts) (f := max n (-1)) (d := s.down) (fun i hi => heap_setCell_other _ _ _ hi) (by rw [size_setCell']; exact Nat.le_refl _)
    (by simpa using hd.blk.set_ 5 (.int .i64 (max n (-1)))) (by omega) (by omega)
  exact ⟨rfl, ⟨bn, bo, cv, cls, fv, h1⟩, (Kept.refl F w).setCell (.inl hd.fb) _⟩

/-- A disk without files. -/
def St.new (room : Nat) : St := { room := room, now := [], old := [], chs := [], acts := 0, fuse := -1, down := false, ids := [], dat := fun _ => [], syn := fun _ => 0 }

set_option maxHeartbeats 1000000 in
theorem New_any (w : World) (n : Int) (hn : n ≤ 9223372036854775807) :
    Calls Tryz.prog 43 #[.int .i64 n] w fun e w' => e = .returned (at0 (w.heap.size + 2)) ∧ Disk w' (fun i => w.heap.size ≤ i ∧ i < w.heap.size + 3) (w.heap.size + 2) (St.new n.toNat) ∧ Below w.heap.size w w' := by
  have hmm := @run_makeMap Tryz.prog
  unfold at0
  go_enter Tryz.func43, Tryz.ntmps43
  go_wp2
  go_ret
  have hsz : (((w.alloc (.map #[] 0)).alloc (.map #[] 0)).alloc (.cells #[.int .i64 (max n 0), .map (some w.heap.size), .map (some (w.heap.size + 1)), .slice none 0 0, .int .i64 0, .int .i64 (-1), .bool false] 119)).heap.size = w.heap.size + 3 := by simp
  refine ⟨rfl, ⟨w.heap.size, w.heap.size + 1, .slice none 0 0, [], fun _ => .slice none 0 0, ?_⟩, (((Below.refl _ w).alloc (Nat.le_refl _) _).alloc (by simp) _).alloc (by simp; omega) _⟩
  have m1 : dirAt (((w.alloc (.map #[] 0)).alloc (.map #[] 0)).alloc (.cells #[.int .i64 (max n 0), .map (some w.heap.size), .map (some (w.heap.size + 1)), .slice none 0 0, .int .i64 0, .int .i64 (-1), .bool false] 119)) w.heap.size [] := by
    have h := (World.ownsMap_made w Tryz.prog 9 ptrElem).mono (n' := 300) (by omega)
    exact (h.alloc _).alloc _
  have m2 : dirAt (((w.alloc (.map #[] 0)).alloc (.map #[] 0)).alloc (.cells #[.int .i64 (max n 0), .map (some w.heap.size), .map (some (w.heap.size + 1)), .slice none 0 0, .int .i64 0, .int .i64 (-1), .bool false] 119)) (w.heap.size + 1) [] := by
    have h := (World.ownsMap_made (w.alloc (.map #[] 0)) Tryz.prog 9 ptrElem).mono (n' := 300) (by omega)
    have h2 := h.alloc (.cells #[.int .i64 (max n 0), .map (some w.heap.size), .map (some (w.heap.size + 1)), .slice none 0 0, .int .i64 0, .int .i64 (-1), .bool false] 119)
    have e : (w.alloc (.map #[] 0)).heap.size = w.heap.size + 1 := by simp
    rw [e] at h2
    exact h2
  exact {
    wf := ⟨by simp [St.new], by simp [St.new], by simp [St.new], by simp [St.new], by simp [St.new], by simp [St.new], trivial, fun _ => rfl, by simp [St.new]; omega, by simp [St.new], by simp [St.new]⟩
    blk := by
      have h := Blk.new ((w.alloc (.map #[] 0)).alloc (.map #[] 0)) 119 #[.int .i64 (max n 0), .map (some w.heap.size), .map (some (w.heap.size + 1)), .slice none 0 0, .int .i64 0, .int .i64 (-1), .bool false]
      have e : ((n.toNat : Nat) : Int) = max n 0 := by omega
      simp only [St.new, e]
      simpa using h
    now := m1
    old := m2
    nob := by omega
    row := World.ownsRow_nil _ _ _ _
    reps := fun j v c h1 _ => by simp at h1
    files := fun i hi => by simp [St.new] at hi
    apart := fun i hi => by simp [St.new] at hi
    fb := ⟨by omega, by omega⟩
    fn := ⟨by omega, by omega⟩
    fo := ⟨by omega, by omega⟩
    fc := fun g hg => by simp [Value.ownBlock] at hg
    fi := fun i hi => by simp [St.new] at hi
    fd := fun i hi => by simp [St.new] at hi
    lt := fun i hi => by rw [hsz]; exact hi.2 }

/-- What Read answers. -/
def readOf (s : St) (k : Nm) : Nm × Int :=
  if s.down then ([], 14) else match dget s.now k with
    | none => ([], 12)
    | some i => (s.dat i, 0)

/-- bytes.Clone of a file's bytes. -/
theorem cloneFile_any {w : World} {i : Nat} {v : Value} {d : Nm} {n : Nat} (h : fileAt w i v d n) (hl : d.length ≤ 262144) :
    Calls Tryz.prog 73 #[v] w fun e w' => ∃ v', e = .returned v' ∧ w'.ownsRow w.heap.size 5 1 v' d.length (d.map byteV) ∧ Below w.heap.size w w' := by
  rcases h.2.2 with ⟨rfl, h0⟩ | ⟨g, cap, cur, rfl, _⟩
  · refine (bytesClone_nil _ _ w).mono fun e w' ⟨he, hw⟩ => ⟨_, he, ?_, by rw [← hw]; exact Below.refl _ _⟩
    have hd : d = [] := List.eq_nil_of_length_eq_zero h0
    subst hd
    exact World.ownsRow_nil _ _ _ _
  · exact bytesClone_at ⟨g, 0, none⟩ d.length cap (d.map byteV) w (by simp) (by omega) (u8_one d) (h.2.cells rfl)

set_option maxHeartbeats 1000000 in
set_option maxRecDepth 100000 in
theorem Read_any {w : World} {F : Nat → Prop} {b : Nat} {s : St} (hD : Disk w F b s) (k : ByteArray) (hk : k.size ≤ maxLen) :
    Calls Tryz.prog 52 #[at0 b, .string k] w fun e w' => ∃ v, e = .returned (.tuple #[v, .int .i64 (readOf s k.data.toList).2]) ∧ w'.ownsRow w.heap.size 5 1 v (readOf s k.data.toList).1.length ((readOf s k.data.toList).1.map byteV) ∧ Below w.heap.size w w' := by
  obtain ⟨bn, bo, cv, cls, fv, hd⟩ := hD
  have c1 := hd.blk.cell 1
  have c6 := hd.blk.cell 6
  simp at c1 c6
  have hlk := look_ok hd.now hk
  have HI := Lib.hid hd
  clear hd
  unfold at0
  by_cases hdn : s.down = true
  · rw [hdn] at c6
    have hr : readOf s k.data.toList = ([], 14) := by simp [readOf, hdn]
    have HR := Lib.hid hr
    clear hr hdn
    go_enter Tryz.func52, Tryz.ntmps52
    go_wp2
    go_ret2
    rw [HR.out]
    exact ⟨_, rfl, World.ownsRow_nil _ _ _ _, Below.refl _ _⟩
  have hdn' : s.down = false := by simpa using hdn
  rw [hdn'] at c6
  clear hdn
  cases hg : dget s.now k.data.toList with
  | none =>
    rw [hg] at hlk
    simp only [ptrOf, Option.isSome_none] at hlk
    have hr : readOf s k.data.toList = ([], 12) := by simp [readOf, hdn', hg]
    have HR := Lib.hid hr
    clear hr hdn' hg
    go_enter Tryz.func52, Tryz.ntmps52
    go_wp2
    go_ret2
    rw [HR.out]
    exact ⟨_, rfl, World.ownsRow_nil _ _ _ _, Below.refl _ _⟩
  | some i =>
    rw [hg] at hlk
    simp only [ptrOf, Option.isSome_some, at0] at hlk
    have hr : readOf s k.data.toList = (s.dat i, 0) := by simp [readOf, hdn', hg]
    have hi : i ∈ s.ids := HI.out.wf.now_id _ (dget_mem hg)
    have hf := HI.out.files i hi
    have hc := cloneFile_any hf (HI.out.wf.fit i hi).2
    have f0 := hf.1.cell 0
    simp at f0
    have HC := Lib.hid hc
    have HR := Lib.hid hr
    clear hr hdn' hg hc hf
    go_enter Tryz.func52, Tryz.ntmps52
    go_wp2_with (go_at_call 73; refine (Hid.out HC).mono ?_; rintro e w' ⟨v', rfl, hrow, hb⟩)
    go_ret2
    rw [HR.out]
    exact ⟨_, rfl, hrow, hb⟩
end Go.Proofs.YtmhiekbpmoikfaaGreatDoor
namespace Go.Proofs.YtmhiekbpmoikfaaGreatDoor
open Go.RowKit Go.Maps Go.WideMaps

def i64v (n : Int) : Value := .int .i64 n
def cutOf (cs : List Int) (i : Nat) : Int := cs.getD i 0

set_option maxHeartbeats 1000000 in
theorem cutAt_any {w : World} (A : Option Addr) (n c : Nat) (cs : List Int) (hs : Src w A n (cs.map i64v)) (i : Nat) (hi : i ≤ 9223372036854775807) :
    Calls Tryz.prog 104 #[.slice A n c, .int .i64 i] w fun e w' => e = .returned (.int .i64 (cutOf cs i)) ∧ w = w' := by
  have hl : cs.length = n := by have := hs.len; simpa using this
  by_cases h : n ≤ i
  · have hc : cutOf cs i = 0 := by unfold cutOf; rw [List.getD_eq_getElem?_getD, List.getElem?_eq_none (by omega)]; rfl
    have HC := Lib.hid hc
    clear hc hl
    go_enter Tryz.func104, Tryz.ntmps104
    go_wp2
    go_ret
    rw [HC.out]
    exact ⟨rfl, rfl⟩
  · cases A with
    | none => have := hs.nil rfl; omega
    | some ad =>
      have hc : cs[i]? = some (cutOf cs i) := by unfold cutOf; rw [List.getD_eq_getElem?_getD, List.getElem?_eq_getElem (by omega)]; rfl
      have hcell := hs.cells ad rfl i (i64v (cutOf cs i)) (by rw [List.getElem?_map, hc]; rfl)
      unfold i64v at hcell
      have HC := Lib.hid hc
      clear hc hl
      obtain ⟨blk, off, sp⟩ := ad
      go_enter Tryz.func104, Tryz.ntmps104
      go_wp2
      go_ret
      exact ⟨rfl, rfl⟩

theorem part_int (n m : Int) (w : World) (h0 : 0 ≤ m) (hm : m ≤ 1099511627776) (hn : n ≤ 9223372036854775807) :
    Calls Tryz.prog 101 #[.int .i64 n, .int .i64 m] w fun e w' => e = .returned (.int .i64 (partN n m.toNat)) ∧ w = w' := by
  obtain ⟨k, rfl⟩ := Int.eq_ofNat_of_zero_le h0
  simpa using part_any n k w (by omega) hn
theorem quiet_left {P : Program} {f : FuncId} {args : Array Value} {w : World} {n : Nat} {v : Value}
    (h : Calls P f args (w.drewN n) fun e w' => e = .returned v ∧ w.drewN n = w') : Calls P f args (w.drewN n) fun e w'' => e = .returned v ∧ ∃ m, w'' = w.drewN m :=
  h.mono fun _ _ ⟨he, hm⟩ => ⟨he, n, hm.symm⟩

/-- How much of a file a crash leaves. -/
def keepLen (s : St) (i : Nat) (cut : Int) : Nat := s.syn i + partN cut ((s.dat i).length - s.syn i)
def St.cutFile (s : St) (i : Nat) (cut : Int) : St := { s with dat := upd s.dat i ((s.dat i).take (keepLen s i cut)), syn := upd s.syn i (keepLen s i cut) }
theorem keepLen_le {s : St} (h : WF s) {i : Nat} (hi : i ∈ s.ids) (cut : Int) : keepLen s i cut ≤ (s.dat i).length := by
  have h1 := (h.fit i hi).1
  have h2 := partN_le cut ((s.dat i).length - s.syn i)
  unfold keepLen
  omega

theorem cap_ge {w : World} {base : Nat} {e : TypeId} {n m c : Nat} {A : Option Addr} {xs : List Value} (h : w.ownsRow base e 1 (.slice A n c) m xs) : n = m ∧ n ≤ c ∧ c ≤ maxLen := by
  rcases h.2 with ⟨h1, h2⟩ | ⟨g, cap, cur, h1, _, _, h2, h3, _⟩
  · injection h1 with h1 h3 h4
    subst h3 h4 h2
    exact ⟨rfl, Nat.le_refl _, Nat.zero_le _⟩
  · injection h1 with h1 h4 h5
    subst h4 h5
    exact ⟨rfl, h2, h3⟩

/-- bytes.Clone of the first bytes of a file's. -/
theorem cloneTake_any {w : World} {A : Option Addr} {cp : Nat} {d : Nm} (h : w.ownsRow 0 5 1 (.slice A d.length cp) d.length (d.map byteV)) (hl : d.length ≤ 262144) (m : Nat) (hm : m ≤ d.length) :
    Calls Tryz.prog 73 #[.slice A m cp] w fun e w' => ∃ v', e = .returned v' ∧ w'.ownsRow w.heap.size 5 1 v' m ((d.take m).map byteV) ∧ Below w.heap.size w w' := by
  rcases h.2 with ⟨h1, h0⟩ | ⟨g, cap, cur, h1, _⟩
  · injection h1 with h1 h3 h4
    subst h1 h4
    have hm0 : m = 0 := by omega
    subst hm0
    refine (bytesClone_nil _ _ w).mono fun e w' ⟨he, hw⟩ => ⟨_, he, ?_, by rw [← hw]; exact Below.refl _ _⟩
    exact World.ownsRow_nil _ _ _ _
  · injection h1 with h1 h3 h4
    subst h1 h4
    refine bytesClone_at ⟨g, 0, none⟩ m cp ((d.take m).map byteV) w (by simp; omega) (by omega) (u8_one _) ?_
    intro j u hj
    refine h.cells rfl j u ?_
    rw [List.map_take, List.getElem?_take] at hj
    split at hj
    · exact hj
    · cases hj

set_option maxHeartbeats 2000000 in
set_option maxRecDepth 100000 in
theorem fcrash_any {w : World} {F : Nat → Prop} {b : Nat} {s : St} (hD : Disk w F b s) {i : Nat} (hi : i ∈ s.ids) (cut : Int) (hcut : cut ≤ 9223372036854775807) :
    Calls Tryz.prog 103 #[at0 i, .int .i64 cut] w fun e w' => e = .returned (.tuple #[]) ∧ Disk w' (Own F w w') b (s.cutFile i cut) ∧ Kept F w w' := by
  obtain ⟨bn, bo, cv, cls, fv, hd⟩ := hD
  have hf := hd.files i hi
  obtain ⟨hfit1, hfit2⟩ := hd.wf.fit i hi
  have hk := keepLen_le hd.wf hi cut
  have f1 := hf.1.cell 1
  have f0 := hf.1.cell 0
  obtain ⟨A, cp, hv⟩ := own_slice hf.2
  rw [hv] at f0
  simp at f0 f1
  have hrow := hf.2
  rw [hv] at hrow
  obtain ⟨_, hcp1, hcp2⟩ := cap_ge hrow
  have hp := partN_le cut ((s.dat i).length - s.syn i)
  have z0 := hf.1.frozen 0
  have z1 := hf.1.frozen 1
  have HV := Lib.hid hv
  have HF := Lib.hid hf
  have HI := Lib.hid hd
  have HR := Lib.hid hrow
  unfold maxLen at hcp2
  clear hd hv hf hrow
  unfold at0
  go_enter Tryz.func103, Tryz.ntmps103
  go_wp2
  go_quiet ((go_at_call 101; exact quiet_left (part_int _ _ _ (by omega) (by omega) hcut)))
  go_wp2_with fail
  refine (cloneTake_any (w := w.drewN nq) (d := s.dat i) HR.out hfit2 (s.syn i + partN cut ((s.dat i).length - s.syn i)) hk).mono ?_
  rintro e w1 ⟨v', rfl, hown', hbl⟩
  have hB1 : Blk w1 i 114 #[fv i, .int .i64 (s.syn i)] := (HF.out.1.drewN nq).below hbl HF.out.1.lt
  have k0 := hB1.cell 0
  have k1 := hB1.cell 1
  have y0 := hB1.frozen 0
  have y1 := hB1.frozen 1
  simp at k0 k1
  obtain ⟨A3, cp3, hv3⟩ := own_slice hown'
  rw [hv3]
  have HV3 := Lib.hid hv3
  have HB1 := Lib.hid hB1
  clear hv3 hB1
  go_wp2
  go_end0
  rw [← HV3.out]
  have hd := HI.out
  have hf := HF.out
  have hB1 := HB1.out
  have hno' : v'.ownBlock ≠ some i := own_blk_ne hown' hB1 (by decide)
  have hbl' : Below w.heap.size w w1 := ⟨hbl.os, hbl.tape, hbl.output, hbl.size, hbl.block⟩
  have hkeep : Kept F w ((w1.setCell ⟨i, 0, none⟩ v').setCell ⟨i, 1, none⟩ (.int .i64 ((s.syn i : Int) + (partN cut ((s.dat i).length - s.syn i) : Int)))) :=
    (((Kept.below (a := w) (w := w1) hbl').setCell (.inl (hd.fi i hi)) _).setCell (.inl (hd.fi i hi)) _)
  refine ⟨rfl, ⟨bn, bo, cv, cls, _, hd.file (v' := v') (d' := (s.dat i).take (keepLen s i cut)) (n' := keepLen s i cut) hi (fun _ h => .inl h) ?_ ?_ ?_ ?_ ?_ ?_⟩, hkeep⟩
  · intro j hj
    rcases hj with h | h
    · exact Nat.lt_of_lt_of_le (hd.lt j h) hkeep.size
    · exact h.2
  · intro j hj h1 _
    rw [heap_setCell_other _ _ _ h1, heap_setCell_other _ _ _ h1]
    exact hbl.block j hj
  · have hl : ((s.dat i).take (keepLen s i cut)).length = keepLen s i cut := by simp; omega
    refine ⟨?_, ?_⟩
    · have := (hB1.set_ 0 v').set_ 1 (.int .i64 ((s.syn i : Int) + (partN cut ((s.dat i).length - s.syn i) : Int)))
      simpa [keepLen] using this
    · rw [hl]
      have h2 : w1.ownsRow 0 5 1 v' (keepLen s i cut) (((s.dat i).take (keepLen s i cut)).map byteV) := by
        refine ⟨hown'.1, ?_⟩
        rcases hown'.2 with h1 | ⟨g, cap, cur, e, h1, h2⟩
        · exact .inl h1
        · exact .inr ⟨g, cap, cur, e, Nat.zero_le _, h2⟩
      exact ownsRow_block h2 fun g hg => by
        have hne : g ≠ i := fun e => hno' (by rw [hg, e])
        rw [heap_setCell_other _ _ _ hne, heap_setCell_other _ _ _ hne]
  · simp
    omega
  · intro g hg
    exact .inr (hown'.lt g hg).1
  · intro g hg
    exact .inr ⟨(hown'.lt g hg).1, by rw [size_setCell', size_setCell']; exact (hown'.lt g hg).2⟩

/-- A change's closure, called on a directory. -/
theorem eff_any {w W : World} {F : Nat → Prop} {v : Value} {c : Ch} (hr : chRep w F v c) (hW : ∀ i t cs, Blk w i t cs → t ≠ 119 → W.heap[i]? = w.heap[i]?) {bn : Nat} {d : Dir} (hdir : dirAt W bn d) (hok : c.ok d) (hl : d.length ≤ 200) :
    ∃ (f : Nat) (cap : Array Value), v = .func (.func f) #[] cap ∧ (∀ args w, (callFunc f args).run Tryz.prog w = .ok (.enter f args) w) ∧
      Calls Tryz.prog f (#[.map (some bn)] ++ cap) W fun e w' => e = .returned (.tuple #[]) ∧ dirAt w' bn (c.eff d) ∧ W.grownBy w' (some bn) := by
  cases c with
  | create k i =>
    obtain ⟨bf, bk, e, k1, k2, _, _, hkl⟩ := hr
    exact ⟨_, _, e, enters_of Tryz.func109 (by kernel_rfl) rfl, create_eff hdir hl (k1.same (hW _ _ _ k1 (by decide))) (k2.same (hW _ _ _ k2 (by decide))) hkl⟩
  | rename x y =>
    obtain ⟨bf, bk, e, k1, k2, _, _, hx, hy⟩ := hr
    obtain ⟨hs, _⟩ := hok
    obtain ⟨i, hi⟩ := Option.isSome_iff_exists.1 hs
    have h := rename_eff hdir hl hi (k1.same (hW _ _ _ k1 (by decide))) (k2.same (hW _ _ _ k2 (by decide))) hx hy
    refine ⟨_, _, e, enters_of Tryz.func130 (by kernel_rfl) rfl, ?_⟩
    have e2 : Ch.eff (.rename x y) d = ddel (dput d y i) x := by simp [Ch.eff, hi]
    rw [e2]
    exact h
  | remove k =>
    obtain ⟨bk, e, k1, _, hkl⟩ := hr
    exact ⟨_, _, e, enters_of Tryz.func136 (by kernel_rfl) rfl, remove_eff hdir (by omega) (k1.same (hW _ _ _ k1 (by decide))) hkl⟩

theorem effAll_take_succ (d : Dir) (l : List Ch) (j : Nat) (c : Ch) (h : l[j]? = some c) : effAll d (l.take (j + 1)) = c.eff (effAll d (l.take j)) := by
  have hj := (List.getElem?_eq_some_iff.1 h).1
  rw [List.take_succ_eq_append_getElem hj, effAll_snoc]
  have := (List.getElem?_eq_some_iff.1 h).2
  rw [this]

theorem replay_end {w W : World} {F : Nat → Prop} {b : Nat} {s : St} {bn bo : Nat} {cv : Value} {cls : List Value} {fv : Nat → Value} (hd : IsDisk w F b s bn bo cv cls fv) (n : Nat)
    (hk : Kept F w W) (hsame : ∀ i, i < w.heap.size → i ≠ b → W.heap[i]? = w.heap[i]?) (hblk : Blk W b 119 #[.int .i64 s.room, .map (some w.heap.size), .map (some bo), cv, .int .i64 s.acts, .int .i64 s.fuse, .bool s.down])
    (hdir : dirAt W w.heap.size (effAll s.old (s.chs.take n))) : Disk W (Own F w W) b { s with now := effAll s.old (s.chs.take n), mid := true } := by
  have hlt := hdir.lt
  have hF : ∀ i, Own F w W i → i < W.heap.size := fun i hi => by
    rcases hi with h | h
    · exact Nat.lt_of_lt_of_le (hd.lt i h) hk.size
    · exact h.2
  refine ⟨w.heap.size, bo, cv, cls, fv, ?_⟩
  exact {
    wf := ⟨idOk_all s.chs s.old n hd.wf.okc hd.wf.chs_id hd.wf.old_id, hd.wf.old_id, hd.wf.chs_id, hd.wf.fit, okAll_len s.chs s.old n hd.wf.okc hd.wf.nold, hd.wf.nold, hd.wf.okc, (fun h => by cases h), hd.wf.room, hd.wf.fuse1, hd.wf.fuse2⟩
    blk := hblk
    now := hdir
    old := ownsMap_block hd.old (hsame bo hd.old.lt (hd.blk.ne_map hd.old).symm)
    nob := by have := hd.old.lt; omega
    row := ownsRow_block hd.row fun g hg => hsame g (hd.row.lt g hg).2 (fun e => own_blk_ne hd.row hd.blk (by decide) (by rw [hg, e]))
    reps := fun j v c h1 h2 => by
      have hr := hd.reps j v c h1 h2
      cases c with
      | create k x =>
        obtain ⟨bf, bk, e, k1, k2, f1, f2, hl⟩ := hr
        exact ⟨bf, bk, e, k1.same (hsame _ k1.lt (k1.ne_ hd.blk (by decide))), k2.same (hsame _ k2.lt (k2.ne_ hd.blk (by decide))), .inl f1, .inl f2, hl⟩
      | rename x y =>
        obtain ⟨bf, bk, e, k1, k2, f1, f2, hl⟩ := hr
        exact ⟨bf, bk, e, k1.same (hsame _ k1.lt (k1.ne_ hd.blk (by decide))), k2.same (hsame _ k2.lt (k2.ne_ hd.blk (by decide))), .inl f1, .inl f2, hl⟩
      | remove k =>
        obtain ⟨bk, e, k1, f1, hl⟩ := hr
        exact ⟨bk, e, k1.same (hsame _ k1.lt (k1.ne_ hd.blk (by decide))), .inl f1, hl⟩
    files := fun i hi => (hd.files i hi).frame (hsame i (hd.files i hi).1.lt ((hd.files i hi).1.ne_ hd.blk (by decide))) fun g hg => hsame g ((hd.files i hi).2.lt g hg).2 (fun e => own_blk_ne (hd.files i hi).2 hd.blk (by decide) (by rw [hg, e]))
    apart := hd.apart
    fb := .inl hd.fb
    fn := .inr ⟨Nat.le_refl _, hlt⟩
    fo := .inl hd.fo
    fc := fun g hg => .inl (hd.fc g hg)
    fi := fun i hi => .inl (hd.fi i hi)
    fd := fun i hi g hg => .inl (hd.fd i hi g hg)
    lt := hF }

set_option maxHeartbeats 4000000 in
set_option maxRecDepth 100000 in
theorem replay_any {w : World} {F : Nat → Prop} {b : Nat} {s : St} (hD : Disk w F b s) (n : Nat) (hn : n ≤ s.chs.length) (hcs : s.chs.length < 1099511627776) :
    Calls Tryz.prog 100 #[at0 b, .int .i64 n] w fun e w' => e = .returned (.tuple #[]) ∧ Disk w' (Own F w w') b { s with now := effAll s.old (s.chs.take n), mid := true } ∧ Kept F w w' := by
  obtain ⟨bn, bo, cv, cls, fv, hd⟩ := hD
  have hb := hd.blk
  have c2 := hb.cell 2
  simp at c2
  have hcl := dirClone_any bo s.old w hd.old
  have HC := Lib.hid hcl
  have HD := Lib.hid hd
  have hrow := hd.row
  clear hcl hd hb
  rcases hrow.2 with ⟨rfl, h0⟩ | ⟨g, cap, cur, rfl, _, hg0, hcap1, hcap2, _⟩
  · have hn0 : n = 0 := by omega
    subst hn0
    unfold at0
    go_enter Tryz.func100, Tryz.ntmps100
    go_wp2_with (go_at_call 127; refine (Hid.out HC).mono ?_; rintro e w1 ⟨rfl, hdir, hsz, hbl⟩; have HDIR := Lib.hid hdir; clear hdir; have HSZ := Lib.hid hsz; clear hsz; have HB1 := Lib.hid (HD.out.blk.below hbl HD.out.blk.lt); have d1 := HB1.out.cell 1; have d3 := HB1.out.cell 3; have z1 := HB1.out.frozen 1; simp at d1 d3)
    refine wp_loop_rounds 1 ?_
    rw [rounds_succ]
    go_wp2
    go_end0
    have hd := HD.out
    have hlt := hd.blk.lt
    have hkk : Kept F w (w1.setCell ⟨b, 1, none⟩ (.map (some w.heap.size))) := (Kept.below hbl).setCell (.inl hd.fb) _
    refine ⟨rfl, replay_end hd 0 hkk (fun i hi h => by rw [heap_setCell_other _ _ _ h]; exact hbl.block i hi) (by simpa using HB1.out.set_ 1 (.map (some w.heap.size))) ?_, hkk⟩
    exact ownsMap_block HDIR.out (heap_setCell_other _ _ _ (by show w.heap.size ≠ b; omega))
  · have hgb : some g ≠ some b := fun e => own_blk_ne hrow HD.out.blk (by decide) (by simpa [Value.ownBlock] using e)
    have hgb' : g ≠ b := fun e => hgb (by rw [e])
    clear hgb
    unfold at0
    go_enter Tryz.func100, Tryz.ntmps100
    go_wp2_with (go_at_call 127; refine (Hid.out HC).mono ?_; rintro e w1 ⟨rfl, hdir, hsz, hbl⟩; have HDIR := Lib.hid hdir; clear hdir; have HSZ := Lib.hid hsz; clear hsz; have HB1 := Lib.hid (HD.out.blk.below hbl HD.out.blk.lt); have d1 := HB1.out.cell 1; have d3 := HB1.out.cell 3; have z1 := HB1.out.frozen 1; simp at d1 d3)
    have hblt := HD.out.blk.lt
    go_loopw [21] (fun i wr => ∃ j : Nat, j ≤ n ∧ i = .int .i64 j ∧ dirAt wr w.heap.size (effAll s.old (s.chs.take j)) ∧ (w1.setCell ⟨b, 1, none⟩ (.map (some w.heap.size))).grownBy wr (some w.heap.size))
      (fun i _ => n - (intOf i).toNat)
    case atStart =>
      refine ⟨0, Nat.zero_le _, rfl, ?_, World.grownBy.refl _ _⟩
      exact ownsMap_block HDIR.out (heap_setCell_other _ _ _ (by show w.heap.size ≠ b; omega))
    case round =>
      obtain ⟨j, hj, rfl, hdir, hgr⟩ := hrel
      have hsame : ∀ i, i < w.heap.size → i ≠ b → wr.heap[i]? = w.heap[i]? := fun i hi h => by
        rw [hgr.block i (by rw [size_setCell', HSZ.out]; omega) (by simp; omega), heap_setCell_other _ _ _ h]; exact hbl.block i hi
      have hbr : Blk wr b 119 #[.int .i64 s.room, .map (some w.heap.size), .map (some bo), .slice (some ⟨g, 0, none⟩) s.chs.length cap, .int .i64 s.acts, .int .i64 s.fuse, .bool s.down] := by
        refine Blk.grown (w := w1.setCell ⟨b, 1, none⟩ (.map (some w.heap.size))) ?_ hgr (by simp; omega)
        simpa using HB1.out.set_ 1 (.map (some w.heap.size))
      have r1 := hbr.cell 1
      simp at r1
      have HBR := Lib.hid hbr
      have HS := Lib.hid hsame
      clear hbr hsame
      by_cases hlt : j < n
      · have hjl : j < s.chs.length := by omega
        have hcl : cls.length = s.chs.length := by simpa using hrow.1
        have hcj : s.chs[j]? = some s.chs[j] := List.getElem?_eq_getElem hjl
        have hvj : cls[j]? = some (cls[j]'(by omega)) := List.getElem?_eq_getElem (by omega)
        have hd := HD.out
        have hlen := okAll_len s.chs s.old j hd.wf.okc hd.wf.nold
        obtain ⟨f, cp2, hv, eg, hcall⟩ := eff_any (hd.reps j _ _ hvj hcj) (W := wr) (fun i t cs hb ht => HS.out i hb.lt (hb.ne_ hd.blk ht)) hdir (okAll_at s.chs s.old j _ hd.wf.okc hcj) (by omega)
        have k0 : wr.cell? ⟨g, j, none⟩ = some (.func (.func f) #[] cp2) := by
          have h1 := hrow.cells (g := g) rfl j _ hvj
          have e1 : ((⟨g, 0, none⟩ : Addr).add j) = ⟨g, j, none⟩ := by
            unfold Addr.add
            split
            · rename_i h0; subst h0; rfl
            · simp
          rw [e1] at h1
          rw [World.cell?_of_block (w := w) (HS.out g (hrow.lt g rfl).2 hgb'), h1, hv]
        have HCALL := Lib.hid hcall
        have HST := Lib.hid (effAll_take_succ s.old s.chs j _ hcj)
        have HDIR2 := Lib.hid hdir
        clear hcall hvj hcj hv hd hdir hcl
        go_wp2_with fail
        refine (Hid.out HCALL).mono ?_
        rintro e w2 ⟨rfl, hdir2, hg2⟩
        go_wp2
        go_roundw
        case rel => exact ⟨j + 1, by omega, by go_num, by rw [HST.out]; exact hdir2, hgr.trans hg2⟩
        case measure => simp [intOf]; omega
      · have hjn : j = n := by omega
        subst hjn
        have HDIR2 := Lib.hid hdir
        clear hdir
        go_wp2
        go_end0
        have hd := HD.out
        have hkk : Kept F w wr := ((Kept.below hbl).setCell (.inl hd.fb) _).grown hgr (fun k hk => .inr (by cases hk; exact Nat.le_refl _))
        exact ⟨rfl, replay_end hd j hkk HS.out HBR.out HDIR2.out, hkk⟩
end Go.Proofs.YtmhiekbpmoikfaaGreatDoor
