/- What a crash leaves: no name that was never there; twice the same crash is one. -/
import Derived.Test.YteaeniopfbglnaaScript
namespace Go.Proofs.Yteaeniopfbglnaa
open Go.RowKit Go.Maps Go.WideMaps

def nms (d : Dir) : List Nm := d.map (·.1)
/-- Whatever of the changes is done once more, its names are of K. -/
def Known (K : List Nm) (s : St) : Prop := ∀ m, ∀ p ∈ effAll s.old (s.chs.take m), p.1 ∈ K
/-- How the kept changes turn in a call. -/
def ChsTurn (s s' : St) : Prop := (s'.old = s.old ∧ (s'.chs = s.chs ∨ ∃ c, s'.chs = s.chs ++ [c])) ∨ (s'.old = s'.now ∧ s'.chs = [])
theorem act_chs {s s' : St} {T : Int → St → Prop} {n : Int} (h : ActEnd s T n s') (hT : ∀ n s1, T n s1 → ChsTurn s s1) : ChsTurn s s' := by
  rcases h with ⟨_, _, rfl⟩ | ⟨_, _, s1, h1, _, _, _, ⟨_, rfl⟩ | ⟨_, rfl⟩⟩
  · exact .inl ⟨rfl, .inl rfl⟩
  · have h2 := hT _ _ h1
    exact h2
  · have h2 := hT _ _ h1
    exact h2
theorem Step.chs {s s' : St} {o : OpV} {n : Int} (h : Step s o n s') (hw : o.what < 7) : ChsTurn s s' := by
  rcases h with ⟨_, h⟩ | ⟨_, h⟩ | ⟨_, h⟩ | ⟨_, h⟩ | ⟨_, h⟩ | ⟨_, h⟩ | ⟨e, _⟩ | ⟨e, _⟩ | ⟨_, _, rfl⟩
  · refine act_chs h fun n s1 h1 => ?_
    rcases h1 with ⟨_, _, rfl⟩ | ⟨_, _, _, rfl⟩ | ⟨_, _, _, _, rfl⟩ | ⟨_, _, _, _, i, _, rfl⟩
    · exact .inl ⟨rfl, .inl rfl⟩
    · exact .inl ⟨rfl, .inl rfl⟩
    · exact .inl ⟨rfl, .inl rfl⟩
    · exact .inl ⟨rfl, .inr ⟨_, rfl⟩⟩
  · refine act_chs h fun n s1 h1 => ?_
    rcases h1 with ⟨_, _, rfl⟩ | ⟨_, _, _, _, _, rfl⟩ | ⟨_, _, _, _, _, _, rfl⟩ | ⟨_, _, _, _, _, _, rfl⟩
    all_goals exact .inl ⟨rfl, .inl rfl⟩
  · refine act_chs h fun n s1 h1 => ?_
    rcases h1 with ⟨_, _, rfl⟩ | ⟨_, _, _, _, rfl⟩
    all_goals exact .inl ⟨rfl, .inl rfl⟩
  · refine act_chs h fun n s1 h1 => ?_
    rcases h1 with ⟨_, _, rfl⟩ | ⟨_, _, _, rfl⟩ | ⟨_, _, _, _, rfl⟩ | ⟨_, _, _, i, _, rfl⟩
    · exact .inl ⟨rfl, .inl rfl⟩
    · exact .inl ⟨rfl, .inl rfl⟩
    · exact .inl ⟨rfl, .inl rfl⟩
    · exact .inl ⟨rfl, .inr ⟨_, rfl⟩⟩
  · refine act_chs h fun n s1 h1 => ?_
    rcases h1 with ⟨_, _, rfl⟩ | ⟨_, _, rfl⟩
    · exact .inl ⟨rfl, .inl rfl⟩
    · exact .inl ⟨rfl, .inr ⟨_, rfl⟩⟩
  · refine act_chs h fun n s1 h1 => ?_
    obtain ⟨_, rfl⟩ := h1
    exact .inr ⟨rfl, rfl⟩
  · omega
  · omega
  · exact .inl ⟨rfl, .inl rfl⟩
theorem Known.turn {K : List Nm} {s s' : St} (h : Known K s) (ht : ChsTurn s s') (he : effAll s'.old s'.chs = s'.now) : Known (K ++ nms s'.now) s' := by
  intro m p hp
  rw [List.mem_append]
  have hall : ∀ p ∈ effAll s'.old s'.chs, p.1 ∈ nms s'.now := fun p hp => by rw [he] at hp; exact List.mem_map.2 ⟨p, hp, rfl⟩
  rcases ht with ⟨e1, e2 | ⟨c, e2⟩⟩ | ⟨_, e2⟩
  · rw [e1, e2] at hp
    exact .inl (h m p hp)
  · rcases Nat.lt_or_ge s.chs.length m with hm | hm
    · rw [List.take_of_length_le (by rw [e2]; simp; omega)] at hp
      exact .inr (hall p hp)
    · rw [e1, e2, List.take_append_of_le_length hm] at hp
      exact .inl (h m p hp)
  · rw [show s'.chs.take m = s'.chs by rw [e2]; simp] at hp
    exact .inr (hall p hp)
theorem Known.more {K K' : List Nm} {s : St} (h : Known K s) (hK : ∀ k ∈ K, k ∈ K') : Known K' s := fun m p hp => hK _ (h m p hp)
theorem crashed_now (s : St) (a : Int) (cs : List Int) : (s.crashed a cs).now = effAll s.old (s.chs.take (partN a s.chs.length)) := by
  show (cutN _ _ _ _).now = _
  rw [cutN_now]
  rfl
theorem Known.crashed {K : List Nm} {s : St} (h : Known K s) (a : Int) (cs : List Int) : ∀ p ∈ (s.crashed a cs).now, p.1 ∈ K := fun p hp => by
  rw [crashed_now] at hp
  exact h _ p hp

theorem partN_zero (n : Int) : partN n 0 = 0 := by
  have := partN_le n 0
  omega
theorem cut_full {s : St} {i : Nat} {cut : Int} (h : s.syn i = (s.dat i).length) : (s.cutFile i cut).dat = s.dat ∧ (s.cutFile i cut).syn = s.syn := by
  have hk : keepLen s i cut = (s.dat i).length := by rw [keepLen, h, Nat.sub_self, partN_zero]; rfl
  refine ⟨?_, ?_⟩
  · funext j
    by_cases e : j = i
    · subst e; simp [St.cutFile, upd, hk]
    · simp [St.cutFile, upd, e]
  · funext j
    by_cases e : j = i
    · subst e; simp [St.cutFile, upd, hk, h]
    · simp [St.cutFile, upd, e]
theorem cutN_full {s : St} {cs : List Int} {d : Dir} (h : ∀ p ∈ d, s.syn p.2 = (s.dat p.2).length) : ∀ j, (cutN s cs d j).dat = s.dat ∧ (cutN s cs d j).syn = s.syn
  | 0 => ⟨rfl, rfl⟩
  | j + 1 => by
    obtain ⟨h1, h2⟩ := cutN_full (cs := cs) h j
    cases hp : d[j]? with
    | none => simp only [cutN, hp]; exact ⟨h1, h2⟩
    | some p =>
      rw [cutN_succ s cs d j hp]
      have h3 := cut_full (s := cutN s cs d j) (i := p.2) (cut := cutOf cs j) (by rw [h1, h2]; exact h p (List.mem_of_getElem? hp))
      exact ⟨h3.1.trans h1, h3.2.trans h2⟩
theorem cut_fit {s : St} {i : Nat} (cut : Int) (h : s.syn i ≤ (s.dat i).length) : (s.cutFile i cut).syn i = ((s.cutFile i cut).dat i).length := by
  have := partN_le cut ((s.dat i).length - s.syn i)
  simp only [St.cutFile, upd_same, List.length_take, keepLen]
  omega
theorem cut_other {s : St} {i j : Nat} (cut : Int) (h : j ≠ i) : (s.cutFile i cut).syn j = s.syn j ∧ (s.cutFile i cut).dat j = s.dat j := by
  simp [St.cutFile, upd_other, h]
/-- Behind a crash all is synced. -/
theorem cutN_synced {s : St} {cs : List Int} {d : Dir} (hf : ∀ p ∈ d, s.syn p.2 ≤ (s.dat p.2).length) : ∀ j, (∀ p ∈ d, (cutN s cs d j).syn p.2 ≤ ((cutN s cs d j).dat p.2).length) ∧ ∀ p ∈ d.take j, (cutN s cs d j).syn p.2 = ((cutN s cs d j).dat p.2).length
  | 0 => ⟨hf, by simp⟩
  | j + 1 => by
    obtain ⟨h1, h2⟩ := cutN_synced (cs := cs) hf j
    cases hp : d[j]? with
    | none =>
      simp only [cutN, hp]
      exact ⟨h1, by rw [List.take_add_one, hp]; simpa using h2⟩
    | some q =>
      rw [cutN_succ s cs d j hp]
      have hq := h1 q (List.mem_of_getElem? hp)
      have key : ∀ p : Nm × Nat, (cutN s cs d j).syn p.2 ≤ ((cutN s cs d j).dat p.2).length → ((cutN s cs d j).cutFile q.2 (cutOf cs j)).syn p.2 ≤ (((cutN s cs d j).cutFile q.2 (cutOf cs j)).dat p.2).length ∧
          (((cutN s cs d j).syn p.2 = ((cutN s cs d j).dat p.2).length ∨ p.2 = q.2) → ((cutN s cs d j).cutFile q.2 (cutOf cs j)).syn p.2 = (((cutN s cs d j).cutFile q.2 (cutOf cs j)).dat p.2).length) := fun p hle => by
        by_cases e : p.2 = q.2
        · rw [e]
          have := cut_fit (s := cutN s cs d j) (i := q.2) (cutOf cs j) hq
          exact ⟨by omega, fun _ => this⟩
        · obtain ⟨e1, e2⟩ := cut_other (s := cutN s cs d j) (i := q.2) (cutOf cs j) e
          rw [e1, e2]
          exact ⟨hle, fun h => h.resolve_right e⟩
      refine ⟨fun p hm => (key p (h1 p hm)).1, fun p hm => ?_⟩
      rw [List.take_add_one, hp] at hm
      rcases List.mem_append.1 hm with hm | hm
      · exact (key p (h1 p (List.mem_of_mem_take hm))).2 (.inl (h2 p hm))
      · have : p = q := by simpa using hm
        rw [this]
        exact (key q hq).2 (.inr rfl)
theorem crashed_synced {s : St} (a : Int) (cs : List Int) (hf : ∀ p ∈ (s.crashed a cs).now, s.syn p.2 ≤ (s.dat p.2).length) : ∀ p ∈ (s.crashed a cs).now, (s.crashed a cs).syn p.2 = ((s.crashed a cs).dat p.2).length := by
  have e : (s.crashed a cs).now = (s.replayed a).now := by rw [crashed_now]; rfl
  rw [e] at hf ⊢
  have := (cutN_synced (s := s.replayed a) (cs := cs) (d := (s.replayed a).now) hf (s.replayed a).now.length).2
  rw [List.take_length] at this
  exact this
theorem crash_again (s : St) (a : Int) (cs : List Int) (hf : ∀ p ∈ (s.crashed a cs).now, s.syn p.2 ≤ (s.dat p.2).length) : filesOf ((s.crashed a cs).crashed a cs) = filesOf (s.crashed a cs) := by
  have hs := crashed_synced a cs hf
  generalize ht : s.crashed a cs = t at *
  have e1 : t.chs = [] := by rw [← ht]; rfl
  have e2 : t.old = t.now := by rw [← ht, crashed_now]; rfl
  have e3 : (t.replayed a).now = t.now := by
    show effAll t.old (t.chs.take _) = _
    rw [e1, e2]; simp [effAll]
  have e4 : (t.crashed a cs).now = t.now := by rw [crashed_now, e1, e2]; simp [effAll]
  have e5 := (cutN_full (s := t.replayed a) (cs := cs) (d := (t.replayed a).now) (by rw [e3]; exact hs) (t.replayed a).now.length).1
  unfold filesOf
  rw [e4]
  show List.map (fun p : Nm × Nat => (p.1, (cutN (t.replayed a) cs (t.replayed a).now (t.replayed a).now.length).dat p.2)) _ = _
  rw [e5]
  rfl
/-- The ids of what a crash may leave are the disk's. -/
theorem crashed_fit {s : St} (h : WF s) (a : Int) (cs : List Int) : ∀ p ∈ (s.crashed a cs).now, s.syn p.2 ≤ (s.dat p.2).length := fun p hp => by
  rw [crashed_now] at hp
  exact (h.fit _ (idOk_all s.chs s.old _ h.okc h.chs_id h.old_id p hp)).1
end Go.Proofs.Yteaeniopfbglnaa
