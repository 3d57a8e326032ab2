/- What each of DiskNames' calls leaves. -/
import Derived.Test.YteaeniopfbglnaaNamesMath
namespace Go.Proofs.Yteaeniopfbglnaa
open Go.RowKit Go.Maps Go.WideMaps

/-- What a script of calls without fuses and crashes keeps. -/
structure Plain (B q : Nat) (s : St) : Prop where
  live : Live s
  runs : Runs s q
  sum : Summed B s
  room : s.room = 1048576
theorem act_room {s s' : St} {T : Int → St → Prop} {n : Int} (h : ActEnd s T n s') (hT : ∀ n s1, T n s1 → s1.room = s.room) : s'.room = s.room := by
  rcases h with ⟨_, _, rfl⟩ | ⟨_, _, s1, h1, _, _, _, ⟨_, rfl⟩ | ⟨_, rfl⟩⟩
  · rfl
  · exact hT _ _ h1
  · have h2 := hT _ _ h1
    exact h2
theorem remove_room {s s1 : St} {k : Nm} {n : Int} (h1 : TRemove s k n s1) : s1.room = s.room := by
  rcases h1 with ⟨_, _, rfl⟩ | ⟨_, _, rfl⟩ <;> rfl
theorem create_room {s s1 : St} {k : Nm} {n : Int} (h1 : TCreate s k n s1) : s1.room = s.room := by
  rcases h1 with ⟨_, _, rfl⟩ | ⟨_, _, _, rfl⟩ | ⟨_, _, _, _, rfl⟩ | ⟨_, _, _, _, i, hi, rfl⟩ <;> rfl
theorem rename_room {s s1 : St} {x y : Nm} {n : Int} (h1 : TRename s x y n s1) : s1.room = s.room := by
  rcases h1 with ⟨_, _, rfl⟩ | ⟨_, _, _, rfl⟩ | ⟨_, _, _, _, rfl⟩ | ⟨_, hne, _, i, hg, rfl⟩ <;> rfl
theorem append_room {s s1 : St} {k bs : Nm} {n : Int} (h1 : TAppend s k bs n s1) : s1.room = s.room := by
  rcases h1 with ⟨_, _, rfl⟩ | ⟨_, _, _, _, _, rfl⟩ | ⟨_, _, _, _, _, _, rfl⟩ | ⟨i, _, _, _, hl, _, rfl⟩ <;> rfl
theorem sync_room {s s1 : St} {k : Nm} {n : Int} (h1 : TSync s k n s1) : s1.room = s.room := by
  rcases h1 with ⟨_, _, rfl⟩ | ⟨i, _, _, _, rfl⟩ <;> rfl
theorem Step.room {s s' : St} {o : OpV} {n : Int} (h : Step s o n s') (hw : o.what < 7) : s'.room = s.room := by
  rcases h with ⟨_, h⟩ | ⟨_, h⟩ | ⟨_, h⟩ | ⟨_, h⟩ | ⟨_, h⟩ | ⟨_, h⟩ | ⟨e, _⟩ | ⟨e, _⟩ | ⟨_, _, rfl⟩
  · exact act_room h fun _ _ => create_room
  · exact act_room h fun _ _ => append_room
  · exact act_room h fun _ _ => sync_room
  · exact act_room h fun _ _ => rename_room
  · exact act_room h fun _ _ => remove_room
  · exact act_room h fun _ _ ⟨_, h2⟩ => by rw [h2]
  · omega
  · omega
  · rfl
theorem Plain.step {B q : Nat} {s s' : St} {o : OpV} {n : Int} (hp : Plain B q s) (h : Step s o n s') (hw : o.what < 7) (hwf : WF s) : Plain (B + o.bs.length) (q + 1) s' :=
  ⟨hp.live.step h hw, h.runs hp.runs, h.summed (by omega) hwf hp.sum, (h.room hw).trans hp.room⟩
theorem Plain.more {B B' q q' : Nat} {s : St} (hp : Plain B q s) (hB : B ≤ B') (hq : q ≤ q') : Plain B' q' s :=
  ⟨hp.live, ⟨hp.runs.mid, Nat.le_trans hp.runs.acts hq, Nat.le_trans hp.runs.chs hq⟩, hp.sum.more hB, hp.room⟩

theorem Plain.remove {B q : Nat} {s s' : St} {k : Nm} {n : Int} (hp : Plain B q s) (h : ActEnd s (TRemove s k) n s') : Plain B (q + 1) s' ∧ dget s'.now k = none ∧ ((dget s.now k).isSome = true → n = 0) := by
  refine ⟨⟨hp.live.act h, act_runs h hp.runs fun n s1 h1 => ?_, act_summed h hp.sum fun n s1 h1 => hp.sum.remove h1, (act_room h fun _ _ => remove_room).trans hp.room⟩, ?_⟩
  · have hc := hp.runs.chs
    rcases h1 with ⟨_, _, rfl⟩ | ⟨_, _, rfl⟩
    · exact ⟨hp.runs.mid, by omega⟩
    · exact ⟨hp.runs.mid, by simp; omega⟩
  · obtain ⟨s1, h1, h2⟩ := live_end h hp.live.fuse hp.live.down
    rcases h1 with ⟨hg, hn, rfl⟩ | ⟨hg, hn, rfl⟩
    · rcases h2 with ⟨_, rfl⟩ | ⟨h3, _⟩
      · exact ⟨hg, fun h4 => by rw [hg] at h4; cases h4⟩
      · omega
    · rcases h2 with ⟨h3, _⟩ | ⟨_, rfl⟩
      · omega
      · exact ⟨dget_ddel _ _, fun _ => hn⟩
theorem Plain.create {B q : Nat} {s s' : St} {k : Nm} {n : Int} (hp : Plain B q s) (hw : WF s) (hg : dget s.now k = none) (h : ActEnd s (TCreate s k) n s') :
    (okName k = false ∧ n = 1) ∨ (okName k = true ∧ n = 2 ∧ s' = s ∧ 64 ≤ s.now.length) ∨ (okName k = true ∧ n = 0 ∧ Plain B (q + 1) s' ∧ ∃ i, dget s'.now k = some i ∧ s'.dat i = []) := by
  have hp' : Plain B (q + 1) s' := by
    refine ⟨hp.live.act h, act_runs h hp.runs fun n s1 h1 => ?_, act_summed h hp.sum fun n s1 h1 => hp.sum.create hw h1, (act_room h fun _ _ => create_room).trans hp.room⟩
    have hc := hp.runs.chs
    rcases h1 with ⟨_, _, rfl⟩ | ⟨_, _, _, rfl⟩ | ⟨_, _, _, _, rfl⟩ | ⟨_, _, _, _, i, _, rfl⟩
    · exact ⟨hp.runs.mid, by omega⟩
    · exact ⟨hp.runs.mid, by omega⟩
    · exact ⟨hp.runs.mid, by omega⟩
    · exact ⟨hp.runs.mid, by simp; omega⟩
  obtain ⟨s1, h1, h2⟩ := live_end h hp.live.fuse hp.live.down
  rcases h1 with ⟨h3, hn, _⟩ | ⟨_, h3, _⟩ | ⟨h3, _, h4, hn, rfl⟩ | ⟨h3, _, _, hn, i, _, rfl⟩
  · exact .inl ⟨h3, hn⟩
  · rw [hg] at h3; cases h3
  · rcases h2 with ⟨_, rfl⟩ | ⟨h5, _⟩
    · exact .inr (.inl ⟨h3, hn, rfl, h4⟩)
    · omega
  · rcases h2 with ⟨h5, _⟩ | ⟨_, rfl⟩
    · omega
    · exact .inr (.inr ⟨h3, hn, hp', i, dget_dput _ _ _, by simp [St.addFile, upd_same]⟩)
theorem Plain.append {B q : Nat} {s s' : St} {k bs : Nm} {n : Int} {i : Nat} (hp : Plain B q s) (hg : dget s.now k = some i) (hd : s.dat i = []) (hb : bs.length ≤ 1000) (hB : B ≤ 300000) (h : ActEnd s (TAppend s k bs) n s') :
    n = 0 ∧ Plain (B + bs.length) (q + 1) s' ∧ dget s'.now k = some i ∧ s'.dat i = bs := by
  have hf := hp.sum.fits
  have hr := hp.room
  obtain ⟨hn, hs⟩ := append_ok h hp.live.fuse hp.live.down hg (by rw [hd]; simp; omega) (by omega)
  have hl := hp.live.act h
  refine ⟨hn, ⟨hl, ?_, ?_, ?_⟩, ?_, ?_⟩
  · rw [hs]; exact ⟨hp.runs.mid, Nat.succ_le_succ hp.runs.acts, Nat.le_succ_of_le hp.runs.chs⟩
  · rw [hs]
    refine ⟨?_, hp.sum.ids⟩
    have := lenSum_app s.dat i bs hp.sum.ids
    show lenSum (upd s.dat i (s.dat i ++ bs)) s.now ≤ _
    omega
  · rw [hs]; exact hr
  · rw [hs]; exact hg
  · rw [hs]
    show upd s.dat i (s.dat i ++ bs) i = bs
    rw [upd_same, hd, List.nil_append]
theorem Plain.rename {B q : Nat} {s s' : St} {x y : Nm} {n : Int} {i : Nat} (hp : Plain B q s) (hg : dget s.now x = some i) (h : ActEnd s (TRename s x y) n s') :
    Live s' ∧ Runs s' (q + 1) ∧ ((okName y = false ∧ n = 1 ∧ s' = s) ∨ (okName y = true ∧ n = 0 ∧ s'.dat = s.dat ∧ dget s'.now y = some i ∧ (x ≠ y → dget s'.now x = none))) := by
  refine ⟨hp.live.act h, act_runs h hp.runs fun n s1 h1 => ?_, ?_⟩
  · have hc := hp.runs.chs
    rcases h1 with ⟨_, _, rfl⟩ | ⟨_, _, _, rfl⟩ | ⟨_, _, _, _, rfl⟩ | ⟨_, hne, _, i, hg, rfl⟩
    · exact ⟨hp.runs.mid, by omega⟩
    · exact ⟨hp.runs.mid, by omega⟩
    · exact ⟨hp.runs.mid, by omega⟩
    · exact ⟨hp.runs.mid, by simp; omega⟩
  · obtain ⟨s1, h1, h2⟩ := live_end h hp.live.fuse hp.live.down
    rcases h1 with ⟨h3, hn, rfl⟩ | ⟨_, h3, _⟩ | ⟨h3, _, h4, hn, rfl⟩ | ⟨h3, hne, hn, j, hj, rfl⟩
    · rcases h2 with ⟨_, rfl⟩ | ⟨h5, _⟩
      · exact .inl ⟨h3, hn, rfl⟩
      · omega
    · rw [hg] at h3; cases h3
    · rcases h2 with ⟨h5, _⟩ | ⟨_, rfl⟩
      · omega
      · subst h4
        exact .inr ⟨h3, hn, rfl, hg, fun h => absurd rfl h⟩
    · rw [hg] at hj
      injection hj with hj
      subst hj
      rcases h2 with ⟨h5, _⟩ | ⟨_, rfl⟩
      · omega
      · exact .inr ⟨h3, hn, rfl, by rw [dget_ddel_ne _ (fun e => hne e.symm)]; exact dget_dput _ _ _, fun _ => dget_ddel _ _⟩
/-- Remove of a name that is there, with the power on. -/
theorem remove_there {s s' : St} {k : Nm} {n : Int} {i : Nat} (hl : Live s) (hg : dget s.now k = some i) (h : ActEnd s (TRemove s k) n s') : n = 0 ∧ dget s'.now k = none ∧ s'.down = false := by
  have hl' := hl.act h
  obtain ⟨s1, h1, h2⟩ := live_end h hl.fuse hl.down
  rcases h1 with ⟨h3, _⟩ | ⟨_, hn, rfl⟩
  · rw [hg] at h3; cases h3
  · rcases h2 with ⟨h5, _⟩ | ⟨_, rfl⟩
    · omega
    · exact ⟨hn, dget_ddel _ _, hl'.down⟩
theorem read_there {s : St} {k : Nm} {i : Nat} (hd : s.down = false) (hg : dget s.now k = some i) : readOf s k = (s.dat i, 0) := by simp [readOf, hd, hg]
theorem read_gone {s : St} {k : Nm} (hd : s.down = false) (hg : dget s.now k = none) : readOf s k = ([], 12) := by simp [readOf, hd, hg]
end Go.Proofs.Yteaeniopfbglnaa
