/- A script of calls on a disk of the law's own: what each keeps. -/
import Derived.Test.YtblpppeppgfbpaaSame
namespace Go.Proofs.Ytblpppeppgfbpaa
open Go.RowKit Go.Maps Go.WideMaps

theorem below_q {B : Nat} {a w : World} (h : Below B a w) (n : Nat) : Below B a (w.drewN n) := ⟨h.os, h.tape, h.output, h.size, h.block⟩
theorem Mine.drewN {w0 w : World} {F : Nat → Prop} {b : Nat} {s : St} (h : Mine w0 w F b s) (n : Nat) : Mine w0 (w.drewN n) F b s := ⟨h.disk.drewN n, h.new, below_q h.below n⟩
theorem CutsIn.below {w w' : World} {A : Option Addr} {n : Nat} {cs : List Int} (h : CutsIn w A n cs) (hb : Below w.heap.size w w') : CutsIn w' A n cs :=
  ⟨h.1, h.2.1.keep fun ad e hn => hb.block _ (h.2.2.2 ad e hn), h.2.2.1, fun ad e hn => Nat.lt_of_lt_of_le (h.2.2.2 ad e hn) hb.size⟩
theorem OpIn.below {w w' : World} {o : OpV} (h : OpIn w o) (hb : Below w.heap.size w w') : OpIn w' o :=
  ⟨h.a, h.b.below hb, h.bc, h.n, h.acts, h.c.below hb, h.na, h.nb, h.nk⟩
theorem OpsIn.below {w w' : World} {A : Option Addr} {n : Nat} {l : List OpV} (h : OpsIn w A n l) (hb : Below w.heap.size w w') : OpsIn w' A n l :=
  ⟨h.len, h.big, fun o ho => (h.op o ho).below hb, h.nil, fun ad e i o ho j v hv => by
    have hlt : ad.block < w.heap.size := h.lt ad e (by have := (List.getElem?_eq_some_iff.1 ho).1; have := h.len; omega)
    have hbl : (ad.add (i * 6 + j)).block = ad.block := by unfold Addr.add; split <;> rfl
    rw [World.cell?_of_block (w := w) (by rw [hbl]; exact hb.block _ hlt)]
    exact h.cells ad e i o ho j v hv, fun ad e hn => Nat.lt_of_lt_of_le (h.lt ad e hn) hb.size⟩
/-- What came in lies outside a disk of the law's own. -/
theorem Mine.away {w0 w : World} {F : Nat → Prop} {b : Nat} {s : St} (h : Mine w0 w F b s) {A : Option Addr} {n : Nat} (hl : ∀ ad, A = some ad → 0 < n → ad.block < w0.heap.size) : Away F A n := fun ad e hn hf => by
  have := hl ad e hn
  have := h.new _ hf
  omega
theorem Mine.awayB {w0 w : World} {F : Nat → Prop} {b : Nat} {s : St} (h : Mine w0 w F b s) {o : OpV} (ho : OpIn w0 o) : Away F o.B o.bn := h.away ho.b.2.2
theorem Mine.awayC {w0 w : World} {F : Nat → Prop} {b : Nat} {s : St} (h : Mine w0 w F b s) {o : OpV} (ho : OpIn w0 o) : Away F o.C o.k := h.away ho.c.2.2.2

/-- What a script keeps of a disk's state, k calls on. -/
structure Runs (s : St) (k : Nat) : Prop where
  mid : s.mid = false
  acts : s.acts ≤ k
  chs : s.chs.length ≤ k
theorem act_runs {s s' : St} {T : Int → St → Prop} {n : Int} {k : Nat} (h : ActEnd s T n s') (hr : Runs s k) (hT : ∀ n s1, T n s1 → s1.mid = false ∧ s1.chs.length ≤ k + 1) : Runs s' (k + 1) := by
  rcases h with ⟨_, _, rfl⟩ | ⟨_, _, s1, h1, ea, _, _, h2⟩
  · exact ⟨hr.mid, by have := hr.acts; show s.acts ≤ _; omega, by have := hr.chs; show s.chs.length ≤ _; omega⟩
  · have ha := hr.acts
    obtain ⟨h3, h4⟩ := hT _ _ h1
    rcases h2 with ⟨_, rfl⟩ | ⟨_, rfl⟩
    · exact ⟨h3, by omega, h4⟩
    · exact ⟨h3, by show s1.acts + 1 ≤ _; omega, h4⟩
theorem cutN_acts (s : St) (cs : List Int) (d : Dir) : ∀ j, (cutN s cs d j).acts = s.acts
  | 0 => rfl
  | j + 1 => by
    simp only [cutN]
    split <;> exact cutN_acts s cs d j
theorem Step.runs {s s' : St} {o : OpV} {n : Int} {k : Nat} (h : Step s o n s') (hr : Runs s k) : Runs s' (k + 1) := by
  have hm := hr.mid
  have hc := hr.chs
  rcases h with ⟨_, h⟩ | ⟨_, h⟩ | ⟨_, h⟩ | ⟨_, h⟩ | ⟨_, h⟩ | ⟨_, h⟩ | ⟨_, _, rfl⟩ | ⟨_, _, rfl⟩ | ⟨_, _, rfl⟩
  · refine act_runs h hr fun n s1 h1 => ?_
    rcases h1 with ⟨_, _, rfl⟩ | ⟨_, _, _, rfl⟩ | ⟨_, _, _, _, rfl⟩ | ⟨_, _, _, _, i, _, rfl⟩
    · exact ⟨hm, by omega⟩
    · exact ⟨hm, by omega⟩
    · exact ⟨hm, by omega⟩
    · exact ⟨hm, by simp; omega⟩
  · refine act_runs h hr fun n s1 h1 => ?_
    rcases h1 with ⟨_, _, rfl⟩ | ⟨_, _, _, _, _, rfl⟩ | ⟨_, _, _, _, _, _, rfl⟩ | ⟨_, _, _, _, _, _, rfl⟩
    all_goals exact ⟨hm, Nat.le_succ_of_le hc⟩
  · refine act_runs h hr fun n s1 h1 => ?_
    rcases h1 with ⟨_, _, rfl⟩ | ⟨_, _, _, _, rfl⟩
    all_goals exact ⟨hm, Nat.le_succ_of_le hc⟩
  · refine act_runs h hr fun n s1 h1 => ?_
    rcases h1 with ⟨_, _, rfl⟩ | ⟨_, _, _, rfl⟩ | ⟨_, _, _, _, rfl⟩ | ⟨_, _, _, i, _, rfl⟩
    · exact ⟨hm, by omega⟩
    · exact ⟨hm, by omega⟩
    · exact ⟨hm, by omega⟩
    · exact ⟨hm, by simp; omega⟩
  · refine act_runs h hr fun n s1 h1 => ?_
    rcases h1 with ⟨_, _, rfl⟩ | ⟨_, _, rfl⟩
    · exact ⟨hm, by omega⟩
    · exact ⟨hm, by simp; omega⟩
  · refine act_runs h hr fun n s1 h1 => ?_
    obtain ⟨_, rfl⟩ := h1
    exact ⟨rfl, by simp⟩
  · exact ⟨hm, by have := hr.acts; show s.acts ≤ _; omega, by show s.chs.length ≤ _; omega⟩
  · refine ⟨rfl, ?_, by simp [St.crashed]⟩
    have := hr.acts
    simp only [St.crashed, cutN_acts, St.replayed]
    omega
  · exact ⟨hm, by have := hr.acts; omega, by omega⟩

/-- Create .. SyncDir: refused without a change, or done. -/
theorem act_three {s s' : St} {T : Int → St → Prop} {n : Int} (h : ActEnd s T n s') (hT : ∀ n s1, T n s1 → n ≠ 14 ∧ (n ≠ 0 → s1 = s)) :
    (n = 14 ∧ s' = { s with down := true }) ∨ (s.down = false ∧ n ≠ 0 ∧ n ≠ 14 ∧ s' = s) ∨ (s.down = false ∧ n = 0 ∧ s'.acts = s.acts + 1) := by
  rcases h with ⟨_, h1, h2⟩ | ⟨_, hd, s1, h1, ea, _, _, ⟨h2, rfl⟩ | ⟨h2, rfl⟩⟩
  · exact .inl ⟨h1, h2⟩
  · obtain ⟨h3, h4⟩ := hT _ _ h1
    exact .inr (.inl ⟨hd, h2, h3, h4 h2⟩)
  · exact .inr (.inr ⟨hd, h2, by show s1.acts + 1 = _; omega⟩)
theorem Step.three {s s' : St} {o : OpV} {n : Int} (h : Step s o n s') (h0 : 0 ≤ o.what) (h6 : o.what ≤ 6) :
    (n = 14 ∧ s' = { s with down := true }) ∨ (s.down = false ∧ n ≠ 0 ∧ n ≠ 14 ∧ s' = s) ∨ (s.down = false ∧ n = 0 ∧ s'.acts = s.acts + 1) := by
  rcases h with ⟨_, h⟩ | ⟨_, h⟩ | ⟨_, h⟩ | ⟨_, h⟩ | ⟨_, h⟩ | ⟨_, h⟩ | ⟨e, _⟩ | ⟨e, _⟩ | ⟨e, _⟩
  · refine act_three h fun n s1 h1 => ?_
    rcases h1 with ⟨_, rfl, rfl⟩ | ⟨_, _, rfl, rfl⟩ | ⟨_, _, _, rfl, rfl⟩ | ⟨_, _, _, rfl, _⟩
    all_goals exact ⟨by omega, by simp⟩
  · refine act_three h fun n s1 h1 => ?_
    rcases h1 with ⟨_, rfl, rfl⟩ | ⟨_, _, _, _, rfl, rfl⟩ | ⟨_, _, _, _, _, rfl, rfl⟩ | ⟨_, _, _, _, _, rfl, _⟩
    all_goals exact ⟨by omega, by simp⟩
  · refine act_three h fun n s1 h1 => ?_
    rcases h1 with ⟨_, rfl, rfl⟩ | ⟨_, _, _, rfl, _⟩
    all_goals exact ⟨by omega, by simp⟩
  · refine act_three h fun n s1 h1 => ?_
    rcases h1 with ⟨_, rfl, rfl⟩ | ⟨_, _, rfl, rfl⟩ | ⟨_, _, _, rfl, rfl⟩ | ⟨_, _, rfl, _⟩
    all_goals exact ⟨by omega, by simp⟩
  · refine act_three h fun n s1 h1 => ?_
    rcases h1 with ⟨_, rfl, rfl⟩ | ⟨_, rfl, _⟩
    all_goals exact ⟨by omega, by simp⟩
  · refine act_three h fun n s1 h1 => ?_
    obtain ⟨rfl, _⟩ := h1
    exact ⟨by omega, by simp⟩
  all_goals omega
end Go.Proofs.Ytblpppeppgfbpaa
