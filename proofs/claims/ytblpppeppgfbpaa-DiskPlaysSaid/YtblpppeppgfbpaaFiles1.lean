/- A file's block turns; settle; Sync's, SyncDir's, Remove's own parts. -/
import Derived.Test.YtblpppeppgfbpaaCreate
import Derived.Deep.QuietTactic
import Derived.BigQuiet
namespace Go.Proofs.Ytblpppeppgfbpaa
open Go.RowKit Go.Maps Go.WideMaps

/-- One file's block, and its row of bytes, turn. -/
theorem IsDisk.file {w w' : World} {F F' : Nat → Prop} {b : Nat} {s : St} {bn bo : Nat} {cv : Value} {cls : List Value} {fv : Nat → Value} (h : IsDisk w F b s bn bo cv cls fv) {i : Nat} (hi : i ∈ s.ids)
    (hF : ∀ j, F j → F' j) (hl : ∀ j, F' j → j < w'.heap.size) (hsame : ∀ j, j < w.heap.size → j ≠ i → (fv i).ownBlock ≠ some j → w'.heap[j]? = w.heap[j]?) {v' : Value} {d' : Nm} {n' : Nat} (hf : fileAt w' i v' d' n')
    (hfit : n' ≤ d'.length ∧ d'.length ≤ 262144) (hap : ∀ g, v'.ownBlock = some g → (fv i).ownBlock = some g ∨ w.heap.size ≤ g) (hFg : ∀ g, v'.ownBlock = some g → F' g) :
    IsDisk w' F' b { s with dat := upd s.dat i d', syn := upd s.syn i n' } bn bo cv cls (upd fv i v') := by
  have hfi := h.files i hi
  have hB : ∀ {g t cs}, Blk w g t cs → t ≠ 65 → t ≠ 5 → w'.heap[g]? = w.heap[g]? := fun {g t cs} hg h1 h2 =>
    hsame g hg.lt (hg.ne_ hfi.1 h1) (own_blk_ne hfi.2 hg (fun e => h2 e.symm))
  have hM : ∀ {m d}, dirAt w m d → w'.heap[m]? = w.heap[m]? := fun {m d} hm => hsame m hm.lt (hfi.1.ne_map hm).symm (own_map_ne hfi.2 hm)
  exact {
    wf := ⟨h.wf.now_id, h.wf.old_id, h.wf.chs_id, fun j hj => by
      by_cases e : j = i
      · subst e; simpa [upd_same] using hfit
      · simpa [upd_other _ _ e] using h.wf.fit j hj, h.wf.nnow, h.wf.nold, h.wf.okc, h.wf.eff, h.wf.room, h.wf.fuse1, h.wf.fuse2⟩
    blk := h.blk.same (hB h.blk (by decide) (by decide))
    now := ownsMap_block h.now (hM h.now)
    old := ownsMap_block h.old (hM h.old)
    nob := h.nob
    row := ownsRow_block h.row fun g hg => hsame g (h.row.lt g hg).2 (fun e => own_blk_ne h.row hfi.1 (by decide) (by rw [hg, e])) (own_row_ne h.row hfi.2 (by decide) g hg)
    reps := fun j v c h1 h2 => by
      have hr := h.reps j v c h1 h2
      cases c with
      | create k x =>
        obtain ⟨bf, bk, e, k1, k2, f1, f2, hl⟩ := hr
        exact ⟨bf, bk, e, k1.same (hB k1 (by decide) (by decide)), k2.same (hB k2 (by decide) (by decide)), hF _ f1, hF _ f2, hl⟩
      | rename x y =>
        obtain ⟨bf, bk, e, k1, k2, f1, f2, hl⟩ := hr
        exact ⟨bf, bk, e, k1.same (hB k1 (by decide) (by decide)), k2.same (hB k2 (by decide) (by decide)), hF _ f1, hF _ f2, hl⟩
      | remove k =>
        obtain ⟨bk, e, k1, f1, hl⟩ := hr
        exact ⟨bk, e, k1.same (hB k1 (by decide) (by decide)), hF _ f1, hl⟩
    files := fun j hj => by
      by_cases e : j = i
      · subst e; simpa [upd_same] using hf
      · simp only [upd_other _ _ e]
        have hj1 := h.files j hj
        refine hj1.frame (hsame j hj1.1.lt e (own_blk_ne hfi.2 hj1.1 (by decide))) fun g hg => hsame g (hj1.2.lt g hg).2 (fun e2 => own_blk_ne hj1.2 hfi.1 (by decide) (by rw [hg, e2])) (h.apart j hj i hi e g hg)
    apart := fun j hj k hk hjk g hg => by
      by_cases e1 : j = i
      · have e2 : k ≠ i := fun e2 => hjk (e1.trans e2.symm)
        subst e1
        rw [upd_same] at hg
        rw [upd_other _ _ e2]
        rcases hap g hg with h1 | h1
        · exact h.apart j hj k hk hjk g h1
        · intro h2
          have := ((h.files k hk).2.lt g h2).2
          omega
      · rw [upd_other _ _ e1] at hg
        by_cases e2 : k = i
        · subst e2
          rw [upd_same]
          intro h2
          rcases hap g h2 with h1 | h1
          · exact h.apart j hj k hk hjk g hg h1
          · have := ((h.files j hj).2.lt g hg).2
            omega
        · rw [upd_other _ _ e2]
          exact h.apart j hj k hk hjk g hg
    fb := hF _ h.fb
    fn := hF _ h.fn
    fo := hF _ h.fo
    fc := fun g hg => hF _ (h.fc g hg)
    fi := fun j hj => hF _ (h.fi j hj)
    fd := fun j hj g hg => by
      by_cases e1 : j = i
      · subst e1; rw [upd_same] at hg; exact hFg g hg
      · rw [upd_other _ _ e1] at hg; exact hF _ (h.fd j hj g hg)
    lt := hl }

theorem Left.back {w W : World} {F : Nat → Prop} {b : Nat} {T : Int → St → Prop} {e : Ending} {w' : World} (h : Left W F b T e w') (hk : Kept F w W) : Left w F b T e w' := by
  obtain ⟨n, s', F', he, hT, hD, hk', hF⟩ := h
  exact ⟨n, s', F', he, hT, hD, hk.trans hk' (fun _ _ h => h), fun i hi => (hF i hi).imp id (fun h => Nat.le_trans hk.size h)⟩

set_option maxHeartbeats 2000000 in
set_option maxRecDepth 100000 in
theorem settle_any {w : World} {F : Nat → Prop} {b : Nat} {s : St} (hD : Disk w F b s) :
    Calls Try.prog 32 #[at0 b] w fun e w' => e = .returned (.tuple #[]) ∧ Disk w' (Own F w w') b { s with old := s.now, chs := [], mid := false } ∧ Kept F w w' := by
  obtain ⟨bn, bo, cv, cls, fv, hd⟩ := hD
  have hb := hd.blk
  have c1 := hb.cell 1
  simp at c1
  have hcl := dirClone_any bn s.now w hd.now
  have HC := Lib.hid hcl
  have HD := Lib.hid hd
  clear hcl hd
  unfold at0
  go_enter Try.func32, Try.ntmps32
  go_wp2_with (go_at_call 62; refine (Hid.out HC).mono ?_; rintro e w1 ⟨rfl, hdir, hsz, hbl⟩; have HDIR := Lib.hid hdir; clear hdir; have HSZ := Lib.hid hsz; clear hsz; have HB1 := Lib.hid (HD.out.blk.below hbl HD.out.blk.lt); have d2 := HB1.out.cell 2; have d3 := HB1.out.cell 3; have z2 := HB1.out.frozen 2; have z3 := HB1.out.frozen 3; simp at d2 d3)
  go_end0
  have hd := HD.out
  have hbs := HB1.out
  have hlt := hd.blk.lt
  have hsz := HSZ.out
  have hnew := HDIR.out
  have hcells : ∀ i, i < w.heap.size → i ≠ b → ((w1.setCell ⟨b, 2, none⟩ (.map (some w.heap.size))).setCell ⟨b, 3, none⟩ (.slice none 0 0)).heap[i]? = w.heap[i]? := fun i hi h3 => by
    rw [heap_setCell_other _ _ _ h3, heap_setCell_other _ _ _ h3, hbl.block i hi]
  have hw' : ((w1.setCell ⟨b, 2, none⟩ (.map (some w.heap.size))).setCell ⟨b, 3, none⟩ (.slice none 0 0)).heap.size = w.heap.size + 1 := by rw [size_setCell', size_setCell', hsz]
  refine ⟨rfl, ⟨bn, w.heap.size, .slice none 0 0, [], fv, ?_⟩, (((Kept.below hbl).setCell (.inl hd.fb) _).setCell (.inl hd.fb) _)⟩
  exact {
    wf := ⟨hd.wf.now_id, hd.wf.now_id, by simp, hd.wf.fit, hd.wf.nnow, hd.wf.nnow, trivial, fun _ => rfl, hd.wf.room, hd.wf.fuse1, hd.wf.fuse2⟩
    blk := by simpa using (hbs.set_ 2 (.map (some w.heap.size))).set_ 3 (.slice none 0 0)
    now := ownsMap_block hd.now (hcells bn hd.now.lt (hd.blk.ne_map hd.now).symm)
    old := ownsMap_block hnew (by rw [heap_setCell_other _ _ _ (show w.heap.size ≠ b by omega), heap_setCell_other _ _ _ (show w.heap.size ≠ b by omega)])
    nob := by have := hd.now.lt; omega
    row := World.ownsRow_nil _ _ _ _
    reps := fun j v c h1 _ => by simp at h1
    files := fun i hi => (hd.files i hi).frame (hcells i (hd.files i hi).1.lt ((hd.files i hi).1.ne_ hd.blk (by decide))) fun g hg => hcells g ((hd.files i hi).2.lt g hg).2 (fun e => own_blk_ne (hd.files i hi).2 hd.blk (by decide) (by rw [hg, e]))
    apart := hd.apart
    fb := .inl hd.fb
    fn := .inl hd.fn
    fo := .inr ⟨Nat.le_refl _, by rw [hw']; omega⟩
    fc := fun g hg => by simp [Value.ownBlock] at hg
    fi := fun i hi => .inl (hd.fi i hi)
    fd := fun i hi g hg => .inl (hd.fd i hi g hg)
    lt := fun i hi => by
      rcases hi with h | h
      · have := hd.lt i h; rw [hw']; omega
      · exact h.2 }

def TSyncDir (s : St) (n : Int) (s' : St) : Prop := n = 0 ∧ s' = { s with old := s.now, chs := [], mid := false }

set_option maxHeartbeats 1000000 in
theorem syncDir1_any {w : World} {F : Nat → Prop} {b : Nat} {s : St} (hD : Disk w F b s) {bd : Nat} (h2 : Blk w bd 27 #[at0 b]) :
    Calls Try.prog 54 #[at0 bd] w (Left w F b fun n s' => TSyncDir s n s' ∧ s'.acts = s.acts ∧ s'.fuse = s.fuse ∧ s'.down = s.down) := by
  have cd := h2.cell 0
  simp [at0] at cd
  have hs := settle_any hD
  have HS := Lib.hid hs
  clear hs
  unfold at0
  go_enter Try.func54, Try.ntmps54
  go_wp2_with (go_at_call 32; refine (Hid.out HS).mono ?_; rintro e w1 ⟨rfl, hD1, hk1⟩)
  go_ret
  exact ⟨0, _, _, rfl, ⟨⟨rfl, rfl⟩, rfl, rfl, rfl⟩, hD1, hk1, Own.sub⟩

def TSync (s : St) (k : Nm) (n : Int) (s' : St) : Prop :=
  (dget s.now k = none ∧ n = 12 ∧ s' = s) ∨ (∃ i, dget s.now k = some i ∧ i ∈ s.ids ∧ n = 0 ∧ s' = { s with dat := upd s.dat i (s.dat i), syn := upd s.syn i (s.dat i).length })

set_option maxHeartbeats 2000000 in
set_option maxRecDepth 100000 in
theorem sync1_any {w : World} {F : Nat → Prop} {b : Nat} {s : St} (hD : Disk w F b s) (k : ByteArray) (hk : k.size ≤ maxLen) {bk bd : Nat} (h1 : Blk w bk 9 #[.string k]) (h2 : Blk w bd 27 #[at0 b]) :
    Calls Try.prog 64 #[at0 bd, at0 bk] w (Left w F b fun n s' => TSync s k.data.toList n s' ∧ s'.acts = s.acts ∧ s'.fuse = s.fuse ∧ s'.down = s.down) := by
  have ck := h1.cell 0
  have cd := h2.cell 0
  simp [at0] at ck cd
  have HD := Lib.hid hD
  obtain ⟨bn, bo, cv, cls, fv, hd⟩ := hD
  have c1 := hd.blk.cell 1
  simp at c1
  have hlk : ∀ n, (Instr.lookup 67 (.map (some bn)) (.string k) true).run Try.prog (w.drewN n) = .ok (.tuple #[ptrOf (dget s.now k.data.toList), .bool (dget s.now k.data.toList).isSome]) (w.drewN n) := fun n => look_ok (w := w.drewN n) hd.now hk
  have HI := Lib.hid hd
  clear hd
  cases hg : dget s.now k.data.toList with
  | none =>
    rw [hg] at hlk
    simp only [ptrOf, Option.isSome_none] at hlk
    have HG := Lib.hid hg; clear hg
    unfold at0
    go_enter Try.func64, Try.ntmps64
    go_wp2
    go_quiet (fail)
    go_wp2
    go_ret
    exact ⟨12, s, F, rfl, ⟨.inl ⟨HG.out, rfl, rfl⟩, rfl, rfl, rfl⟩, HD.out.drewN _, (Kept.refl F w).drewN _, fun _ hi => .inl hi⟩
  | some i =>
    rw [hg] at hlk
    simp only [ptrOf, Option.isSome_some, at0] at hlk
    have hi : i ∈ s.ids := HI.out.wf.now_id _ (dget_mem hg)
    have hf := HI.out.files i hi
    obtain ⟨A, cp, hv⟩ := own_slice hf.2
    have f0 := hf.1.cell 0
    have f1 := hf.1.cell 1
    have z1 := hf.1.frozen 1
    rw [hv] at f0
    simp at f0 f1
    have HV := Lib.hid hv; clear hv
    have HF := Lib.hid hf; clear hf
    have HG := Lib.hid hg; clear hg
    unfold at0
    go_enter Try.func64, Try.ntmps64
    go_wp2
    go_quiet (fail)
    go_wp2
    go_ret
    have hd := HI.out
    have hf := HF.out
    have hne : (fv i).ownBlock ≠ some i := own_blk_ne hf.2 hf.1 (by decide)
    have hdN : IsDisk (w.drewN nq) F b s bn bo cv cls fv := hd.frame (fun _ _ => rfl) (Nat.le_refl _)
    refine ⟨0, _, F, rfl, ⟨.inr ⟨i, HG.out, hi, rfl, rfl⟩, rfl, rfl, rfl⟩, ⟨bn, bo, cv, cls, _, hdN.file (v' := fv i) hi (fun _ h => h) (fun j hj => by rw [size_setCell']; exact hd.lt j hj) (fun j _ h1 _ => by exact heap_setCell_other _ _ _ h1) ?_ ?_ (fun g hg => .inl hg) (fun g hg => hd.fd i hi g hg)⟩, ((Kept.refl F w).drewN _).setCell (.inl (hd.fi i hi)) _, fun _ hi => .inl hi⟩
    · refine ⟨by simpa using (hf.1.drewN _).set_ 1 (.int .i64 (s.dat i).length), ownsRow_block (w := w) hf.2 fun g hg => heap_setCell_other _ _ _ fun e => hne (by rw [hg, e])⟩
    · have := hd.wf.fit i hi
      exact ⟨Nat.le_refl _, this.2⟩
end Go.Proofs.Ytblpppeppgfbpaa
