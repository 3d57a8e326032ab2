/- What was synced is there behind any crash: the plain part. -/
import Derived.Test.YteaeniopfbglnaaNamesMath2
namespace Go.Proofs.Yteaeniopfbglnaa
open Go.RowKit Go.Maps Go.WideMaps

theorem Live.step78 {s s' : St} {o : OpV} {n : Int} (hl : Live s) (h : Step s o n s') (h7 : o.what ≠ 7) (h8 : o.what ≠ 8) : Live s' := by
  rcases h with ⟨_, h⟩ | ⟨_, h⟩ | ⟨_, h⟩ | ⟨_, h⟩ | ⟨_, h⟩ | ⟨_, h⟩ | ⟨e, _⟩ | ⟨e, _⟩ | ⟨_, _, rfl⟩
  all_goals first | exact hl.act h | omega | exact hl

/-- q of the names have been synced. -/
structure Syncing (D : Dir) (dat : Nat → Nm) (q : Nat) (s : St) : Prop where
  live : Live s
  runs : Runs s (300 + q)
  enow : s.now = D
  edat : s.dat = dat
  done : ∀ p ∈ D.take q, s.syn p.2 = (dat p.2).length
theorem Syncing.next {D : Dir} {dat : Nat → Nm} {q : Nat} {s s' : St} {n : Int} {p : Nm × Nat} (h : Syncing D dat q s) (hp : D[q]? = some p) (hg : dget D p.1 = some p.2) (ht : ActEnd s (TSync s p.1) n s') : Syncing D dat (q + 1) s' := by
  obtain ⟨_, hs⟩ := sync_ok ht h.live.fuse h.live.down (i := p.2) (by rw [h.enow]; exact hg)
  have hl := h.live.act ht
  refine ⟨hl, ?_, ?_, ?_, fun r hr => ?_⟩
  · rw [hs]
    exact ⟨h.runs.mid, Nat.succ_le_succ h.runs.acts, Nat.le_succ_of_le h.runs.chs⟩
  · rw [hs]; exact h.enow
  · rw [hs]
    show upd s.dat p.2 (s.dat p.2) = dat
    rw [upd_id]; exact h.edat
  · rw [hs]
    show upd s.syn p.2 (s.dat p.2).length r.2 = _
    by_cases e : r.2 = p.2
    · rw [e, upd_same, h.edat]
    · rw [upd_other _ _ e]
      rw [take_snoc' _ _ _ hp] at hr
      rcases List.mem_append.1 hr with hr | hr
      · exact h.done r hr
      · have : r = p := by simpa using hr
        exact absurd (by rw [this]) e

/-- Behind the syncs: names stand, bytes only come, what was synced stays so. -/
structure Kept0 (D : Dir) (dat : Nat → Nm) (k : Nat) (s : St) : Prop where
  live : Live s
  runs : Runs s k
  now : s.now = D
  old : s.old = D
  chs : s.chs = []
  pre : ∀ p ∈ D, dat p.2 <+: s.dat p.2
  syn : ∀ p ∈ D, (dat p.2).length ≤ s.syn p.2
theorem Syncing.dir {D : Dir} {dat : Nat → Nm} {q : Nat} {s s' : St} {n : Int} (h : Syncing D dat q s) (hq : D.length ≤ q) (ht : ActEnd s (TSyncDir s) n s') : Kept0 D dat (301 + q) s' ∧ filesOf s' = D.map fun p => (p.1, dat p.2) := by
  obtain ⟨_, hs⟩ := syncDir_ok ht h.live.fuse h.live.down
  have hd := h.done
  rw [List.take_of_length_le hq] at hd
  refine ⟨⟨h.live.act ht, ?_, ?_, ?_, ?_, fun p hp => ?_, fun p hp => ?_⟩, ?_⟩
  · rw [hs]; exact ⟨rfl, by have := h.runs.acts; show s.acts + 1 ≤ _; omega, Nat.zero_le _⟩
  · rw [hs]; exact h.enow
  · rw [hs]; exact h.enow
  · rw [hs]
  · rw [hs]; show dat p.2 <+: s.dat p.2; rw [h.edat]; exact List.prefix_refl _
  · rw [hs]; show _ ≤ s.syn p.2; rw [hd p hp]; exact Nat.le_refl _
  · rw [hs]
    show s.now.map (fun p => (p.1, s.dat p.2)) = _
    rw [h.enow, h.edat]
theorem Kept0.step {D : Dir} {dat : Nat → Nm} {k : Nat} {s s' : St} {o : OpV} {n : Int} (h : Kept0 D dat k s) (hw : o.what = 1 ∨ o.what = 2 ∨ o.what = 3) (hwf : WF s) (ht : Step s o n s') : Kept0 D dat (k + 1) s' := by
  have hl := h.live.step78 ht (by omega) (by omega)
  have hr := ht.runs h.runs
  rcases ht with ⟨e, _⟩ | ⟨_, ht⟩ | ⟨_, ht⟩ | ⟨e, _⟩ | ⟨e, _⟩ | ⟨e, _⟩ | ⟨e, _⟩ | ⟨e, _⟩ | ⟨e, _⟩
  · omega
  · obtain ⟨s1, h1, h2⟩ := live_end ht h.live.fuse h.live.down
    have hs1 : s1.now = D ∧ s1.old = D ∧ s1.chs = [] ∧ (∀ p ∈ D, dat p.2 <+: s1.dat p.2) ∧ ∀ p ∈ D, (dat p.2).length ≤ s1.syn p.2 := by
      rcases h1 with ⟨_, _, rfl⟩ | ⟨_, _, _, _, _, rfl⟩ | ⟨_, _, _, _, _, _, rfl⟩ | ⟨i, _, _, _, _, _, rfl⟩
      · exact ⟨h.now, h.old, h.chs, h.pre, h.syn⟩
      · exact ⟨h.now, h.old, h.chs, h.pre, h.syn⟩
      · exact ⟨h.now, h.old, h.chs, h.pre, h.syn⟩
      · refine ⟨h.now, h.old, h.chs, fun p hp => ?_, fun p hp => ?_⟩
        · show _ <+: upd s.dat i (s.dat i ++ o.bs) p.2
          by_cases e : p.2 = i
          · rw [e, upd_same, ← e]; exact (h.pre p hp).trans (List.prefix_append _ _)
          · rw [upd_other _ _ e]; exact h.pre p hp
        · show _ ≤ upd s.syn i (s.syn i) p.2
          rw [upd_id]; exact h.syn p hp
    rcases h2 with ⟨_, rfl⟩ | ⟨_, rfl⟩
    · exact ⟨hl, hr, hs1.1, hs1.2.1, hs1.2.2.1, hs1.2.2.2.1, hs1.2.2.2.2⟩
    · exact ⟨hl, hr, hs1.1, hs1.2.1, hs1.2.2.1, hs1.2.2.2.1, hs1.2.2.2.2⟩
  · obtain ⟨s1, h1, h2⟩ := live_end ht h.live.fuse h.live.down
    have hs1 : s1.now = D ∧ s1.old = D ∧ s1.chs = [] ∧ (∀ p ∈ D, dat p.2 <+: s1.dat p.2) ∧ ∀ p ∈ D, (dat p.2).length ≤ s1.syn p.2 := by
      rcases h1 with ⟨_, _, rfl⟩ | ⟨i, _, hi, _, rfl⟩
      · exact ⟨h.now, h.old, h.chs, h.pre, h.syn⟩
      · refine ⟨h.now, h.old, h.chs, fun p hp => ?_, fun p hp => ?_⟩
        · show _ <+: upd s.dat i (s.dat i) p.2
          rw [upd_id]; exact h.pre p hp
        · show _ ≤ upd s.syn i (s.dat i).length p.2
          by_cases e : p.2 = i
          · rw [e, upd_same, ← e]; exact (h.pre p hp).length_le
          · rw [upd_other _ _ e]; exact h.syn p hp
    rcases h2 with ⟨_, rfl⟩ | ⟨_, rfl⟩
    · exact ⟨hl, hr, hs1.1, hs1.2.1, hs1.2.2.1, hs1.2.2.2.1, hs1.2.2.2.2⟩
    · exact ⟨hl, hr, hs1.1, hs1.2.1, hs1.2.2.1, hs1.2.2.2.1, hs1.2.2.2.2⟩
  all_goals omega
theorem Kept0.more {D : Dir} {dat : Nat → Nm} {k k' : Nat} {s : St} (h : Kept0 D dat k s) (hk : k ≤ k') : Kept0 D dat k' s :=
  ⟨h.live, ⟨h.runs.mid, Nat.le_trans h.runs.acts hk, Nat.le_trans h.runs.chs hk⟩, h.now, h.old, h.chs, h.pre, h.syn⟩

/-- The cuts of a crash leave at least what was synced, and a beginning. -/
theorem cutN_between {s : St} {cs : List Int} {d : Dir} {L : Nat → Nat} (hL : ∀ p ∈ d, L p.2 ≤ s.syn p.2) (hf : ∀ p ∈ d, s.syn p.2 ≤ (s.dat p.2).length) :
    ∀ j, ∀ p ∈ d, (cutN s cs d j).dat p.2 <+: s.dat p.2 ∧ L p.2 ≤ (cutN s cs d j).syn p.2 ∧ (cutN s cs d j).syn p.2 ≤ ((cutN s cs d j).dat p.2).length
  | 0, p, hp => ⟨List.prefix_refl _, hL p hp, hf p hp⟩
  | j + 1, p, hp => by
    have h1 := cutN_between (cs := cs) hL hf j p hp
    cases hq : d[j]? with
    | none => simp only [cutN, hq]; exact h1
    | some q =>
      rw [cutN_succ s cs d j hq]
      by_cases e : p.2 = q.2
      · rw [← e]
        have h2 := cut_fit (s := cutN s cs d j) (i := p.2) (cutOf cs j) h1.2.2
        refine ⟨?_, ?_, Nat.le_of_eq h2⟩
        · have : ((cutN s cs d j).cutFile p.2 (cutOf cs j)).dat p.2 = ((cutN s cs d j).dat p.2).take (keepLen (cutN s cs d j) p.2 (cutOf cs j)) := by simp [St.cutFile, upd_same]
          rw [this]
          exact (List.take_prefix _ _).trans h1.1
        · have : ((cutN s cs d j).cutFile p.2 (cutOf cs j)).syn p.2 = keepLen (cutN s cs d j) p.2 (cutOf cs j) := by simp [St.cutFile, upd_same]
          rw [this, keepLen]
          omega
      · obtain ⟨e1, e2⟩ := cut_other (s := cutN s cs d j) (i := q.2) (cutOf cs j) e
        rw [e1, e2]
        exact h1
theorem Kept0.crashed {D : Dir} {dat : Nat → Nm} {k : Nat} {s : St} (h : Kept0 D dat k s) (hwf : WF s) (a : Int) (cs : List Int) : (s.crashed a cs).now = D ∧ ∀ p ∈ D, dat p.2 <+: (s.crashed a cs).dat p.2 ∧ (s.crashed a cs).dat p.2 <+: s.dat p.2 := by
  have e1 : (s.crashed a cs).now = D := by rw [crashed_now, h.chs, h.old]; simp [effAll]
  have e2 : (s.replayed a).now = D := by
    show effAll s.old (s.chs.take _) = D
    rw [h.chs, h.old]; simp [effAll]
  refine ⟨e1, fun p hp => ?_⟩
  have hfit : ∀ p ∈ D, s.syn p.2 ≤ (s.dat p.2).length := fun p hp => (hwf.fit _ (hwf.now_id p (by rw [h.now]; exact hp))).1
  have hb := cutN_between (s := s.replayed a) (cs := cs) (d := (s.replayed a).now) (L := fun i => (dat i).length) (by rw [e2]; exact h.syn) (by rw [e2]; exact hfit) (s.replayed a).now.length p (by rw [e2]; exact hp)
  have hb1 : (s.crashed a cs).dat p.2 <+: s.dat p.2 := hb.1
  have hb2 : (dat p.2).length ≤ ((s.crashed a cs).dat p.2).length := Nat.le_trans hb.2.1 hb.2.2
  exact ⟨List.prefix_of_prefix_length_le (h.pre p hp) hb1 hb2, hb1⟩
end Go.Proofs.Yteaeniopfbglnaa
