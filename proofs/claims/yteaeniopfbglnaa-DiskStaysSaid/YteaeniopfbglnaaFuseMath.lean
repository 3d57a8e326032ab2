/- What a fuse allows; where names come from. -/
import Derived.Test.YteaeniopfbglnaaCutMath
namespace Go.Proofs.Yteaeniopfbglnaa
open Go.RowKit Go.Maps Go.WideMaps

structure Fused (N : Int) (s : St) : Prop where
  f0 : 0 ≤ s.fuse
  sum : (s.acts : Int) + s.fuse = N
  off : s.down = true → s.fuse = 0
theorem act_fused {s s' : St} {T : Int → St → Prop} {n N : Int} (h : ActEnd s T n s') (hf : Fused N s) : Fused N s' := by
  have h0 := hf.f0
  have h1 := hf.sum
  rcases h with ⟨h2, _, rfl⟩ | ⟨h2, hd, s1, _, ea, ef, ed, ⟨_, rfl⟩ | ⟨_, rfl⟩⟩
  · exact ⟨h0, h1, fun _ => h2.elim id hf.off⟩
  · exact ⟨by omega, by omega, fun h => by rw [ed, hd] at h; cases h⟩
  · have e : (if 0 < s1.fuse then s1.fuse - 1 else s1.fuse) = s.fuse - 1 := by rw [if_pos (by omega), ef]
    refine ⟨?_, ?_, fun h => ?_⟩
    · show 0 ≤ (if 0 < s1.fuse then s1.fuse - 1 else s1.fuse)
      rw [e]; omega
    · show (((s1.acts + 1 : Nat) : Int)) + (if 0 < s1.fuse then s1.fuse - 1 else s1.fuse) = N
      rw [e]; omega
    · have h' : s1.down = true := h
      rw [ed, hd] at h'; cases h'
theorem Step.fused {s s' : St} {o : OpV} {n N : Int} (h : Step s o n s') (h7 : o.what ≠ 7) (h8 : o.what ≠ 8) (hf : Fused N s) : Fused N s' := by
  rcases h with ⟨_, h⟩ | ⟨_, h⟩ | ⟨_, h⟩ | ⟨_, h⟩ | ⟨_, h⟩ | ⟨_, h⟩ | ⟨e, _⟩ | ⟨e, _⟩ | ⟨_, _, rfl⟩
  all_goals first | exact act_fused h hf | omega | exact hf

/-- How names turn in a call. -/
def NowTurn (o : OpV) (s s' : St) : Prop := (∀ p ∈ s'.now, p.1 ∈ nms s.now ∨ p.1 = o.key ∨ p.1 = o.bs) ∧ (s'.old = s.old ∨ s'.old = s.now)
theorem NowTurn.same {o : OpV} {s s' : St} (h1 : s'.now = s.now) (h2 : s'.old = s.old ∨ s'.old = s.now) : NowTurn o s s' := ⟨fun p hp => .inl (List.mem_map.2 ⟨p, by rw [← h1]; exact hp, rfl⟩), h2⟩
theorem act_now {o : OpV} {s s' : St} {T : Int → St → Prop} {n : Int} (h : ActEnd s T n s') (hT : ∀ n s1, T n s1 → NowTurn o s s1) : NowTurn o s s' := by
  rcases h with ⟨_, _, rfl⟩ | ⟨_, _, s1, h1, _, _, _, ⟨_, rfl⟩ | ⟨_, rfl⟩⟩
  · exact NowTurn.same rfl (.inl rfl)
  · have h2 := hT _ _ h1
    exact h2
  · have h2 := hT _ _ h1
    exact h2
theorem Step.now {s s' : St} {o : OpV} {n : Int} (h : Step s o n s') (h7 : o.what ≠ 7) (h8 : o.what ≠ 8) : NowTurn o s s' := by
  rcases h with ⟨_, h⟩ | ⟨_, h⟩ | ⟨_, h⟩ | ⟨_, h⟩ | ⟨_, h⟩ | ⟨_, h⟩ | ⟨e, _⟩ | ⟨e, _⟩ | ⟨_, _, rfl⟩
  · refine act_now h fun n s1 h1 => ?_
    rcases h1 with ⟨_, _, rfl⟩ | ⟨_, _, _, rfl⟩ | ⟨_, _, _, _, rfl⟩ | ⟨_, _, _, _, i, _, rfl⟩
    · exact NowTurn.same rfl (.inl rfl)
    · exact NowTurn.same rfl (.inl rfl)
    · exact NowTurn.same rfl (.inl rfl)
    · refine ⟨fun p hp => ?_, .inl rfl⟩
      rcases mem_dput.1 hp with e | e
      · exact .inr (.inl (by rw [e]))
      · exact .inl (List.mem_map.2 ⟨p, e.1, rfl⟩)
  · refine act_now h fun n s1 h1 => ?_
    rcases h1 with ⟨_, _, rfl⟩ | ⟨_, _, _, _, _, rfl⟩ | ⟨_, _, _, _, _, _, rfl⟩ | ⟨_, _, _, _, _, _, rfl⟩
    all_goals exact NowTurn.same rfl (.inl rfl)
  · refine act_now h fun n s1 h1 => ?_
    rcases h1 with ⟨_, _, rfl⟩ | ⟨_, _, _, _, rfl⟩
    all_goals exact NowTurn.same rfl (.inl rfl)
  · refine act_now h fun n s1 h1 => ?_
    rcases h1 with ⟨_, _, rfl⟩ | ⟨_, _, _, rfl⟩ | ⟨_, _, _, _, rfl⟩ | ⟨_, _, _, i, _, rfl⟩
    · exact NowTurn.same rfl (.inl rfl)
    · exact NowTurn.same rfl (.inl rfl)
    · exact NowTurn.same rfl (.inl rfl)
    · refine ⟨fun p hp => ?_, .inl rfl⟩
      rcases mem_dput.1 (mem_ddel.1 hp).1 with e | e
      · exact .inr (.inr (by rw [e]))
      · exact .inl (List.mem_map.2 ⟨p, e.1, rfl⟩)
  · refine act_now h fun n s1 h1 => ?_
    rcases h1 with ⟨_, _, rfl⟩ | ⟨_, _, rfl⟩
    · exact NowTurn.same rfl (.inl rfl)
    · exact ⟨fun p hp => .inl (List.mem_map.2 ⟨p, (mem_ddel.1 hp).1, rfl⟩), .inl rfl⟩
  · refine act_now h fun n s1 h1 => ?_
    obtain ⟨_, rfl⟩ := h1
    exact NowTurn.same rfl (.inr rfl)
  · omega
  · omega
  · exact NowTurn.same rfl (.inl rfl)
/-- Each name that is there, or was synced, is one that a call names. -/
def FromOps (l : List OpV) (s : St) : Prop := (∀ p ∈ s.now, ∃ o ∈ l, o.key = p.1 ∨ o.bs = p.1) ∧ ∀ p ∈ s.old, ∃ o ∈ l, o.key = p.1 ∨ o.bs = p.1
theorem FromOps.turn {l : List OpV} {s s' : St} {o : OpV} (h : FromOps l s) (ho : o ∈ l) (ht : NowTurn o s s') : FromOps l s' := by
  refine ⟨fun p hp => ?_, fun p hp => ?_⟩
  · rcases ht.1 p hp with h1 | h1 | h1
    · obtain ⟨q, hq, e⟩ := List.mem_map.1 h1
      obtain ⟨x, hx, h2⟩ := h.1 q hq
      exact ⟨x, hx, by rw [← e]; exact h2⟩
    · exact ⟨o, ho, .inl h1.symm⟩
    · exact ⟨o, ho, .inr h1.symm⟩
  · rcases ht.2 with h1 | h1
    · exact h.2 p (by rw [← h1]; exact hp)
    · exact h.1 p (by rw [← h1]; exact hp)
theorem FromOps.crashed {l : List OpV} {s : St} (h : FromOps l s) (x : Nm) (hx : x ∈ nms (s.crashed 0 []).now) : l.any (fun o => o.key == x || o.bs == x) = true := by
  obtain ⟨p, hp, rfl⟩ := List.mem_map.1 hx
  rw [crashed_now, show partN 0 s.chs.length = 0 by simp [partN]] at hp
  obtain ⟨o, ho, h1⟩ := h.2 p (by simpa [effAll] using hp)
  rw [List.any_eq_true]
  exact ⟨o, ho, by simpa using h1⟩
end Go.Proofs.Yteaeniopfbglnaa
