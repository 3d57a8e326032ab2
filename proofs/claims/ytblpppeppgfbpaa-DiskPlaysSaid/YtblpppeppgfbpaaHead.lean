/- A disk of the call's own, step by step; the laws' live question. -/
import Derived.Test.YtblpppeppgfbpaaCrash2
import Derived.Laws.BytesString
import Derived.Laws.IdiomStrings
import Derived.Lib.SlBytesConst
import Derived.Lib.BufferRead
import Derived.LaidEqlPtr
namespace Go.Proofs.Ytblpppeppgfbpaa
open Go.RowKit Go.Maps Go.WideMaps

/-- The disk lies in what the call itself has made; nothing of old has turned. -/
structure Mine (w0 w : World) (F : Nat → Prop) (b : Nat) (s : St) : Prop where
  disk : Disk w F b s
  new : ∀ i, F i → w0.heap.size ≤ i
  below : Below w0.heap.size w0 w
theorem Mine.left {w0 w : World} {F : Nat → Prop} {b : Nat} {s : St} (h : Mine w0 w F b s) {T : Int → St → Prop} {e : Ending} {w' : World} (hl : Left w F b T e w') :
    ∃ (n : Int) (s' : St) (F' : Nat → Prop), e = .returned (.int .i64 n) ∧ T n s' ∧ Mine w0 w' F' b s' := by
  obtain ⟨n, s', F', he, hT, hD, hk, hF⟩ := hl
  refine ⟨n, s', F', he, hT, hD, fun i hi => ?_, h.below.trans (hk.toBelow h.below.size h.new)⟩
  rcases hF i hi with h1 | h1
  · exact h.new i h1
  · exact Nat.le_trans h.below.size h1
theorem Mine.later {w0 w w' : World} {F : Nat → Prop} {b : Nat} {s : St} (h : Mine w0 w F b s) (hb : Below w.heap.size w w') : Mine w0 w' F b s :=
  ⟨h.disk.kept (Kept.below (F := fun _ => False) hb) (fun _ _ => id), h.new, h.below.trans (hb.mono h.below.size)⟩
theorem Disk.size {w : World} {F : Nat → Prop} {b : Nat} {s : St} (h : Disk w F b s) : ∀ i, F i → i < w.heap.size := by
  obtain ⟨bn, bo, cv, cls, fv, hd⟩ := h; exact hd.lt
theorem Disk.wf {w : World} {F : Nat → Prop} {b : Nat} {s : St} (h : Disk w F b s) : WF s := by
  obtain ⟨bn, bo, cv, cls, fv, hd⟩ := h; exact hd.wf

/-- With the power on, and no fuse. -/
theorem live_end {s s' : St} {T : Int → St → Prop} {n : Int} (h : ActEnd s T n s') (hf : s.fuse = -1) (hd : s.down = false) : ∃ s1, T n s1 ∧ ((n ≠ 0 ∧ s' = s1) ∨ (n = 0 ∧ s' = { s1 with acts := s.acts + 1, fuse := -1 })) := by
  rcases h with ⟨h1, _⟩ | ⟨_, _, s1, hT, ea, ef, ed, h2⟩
  · rcases h1 with h1 | h1
    · omega
    · rw [hd] at h1; cases h1
  · refine ⟨s1, hT, ?_⟩
    rcases h2 with ⟨h3, h4⟩ | ⟨h3, h4⟩
    · exact .inl ⟨h3, h4⟩
    · refine .inr ⟨h3, ?_⟩
      rw [h4, ef, hf, ea]
      rfl

/-- 'string(b)'. -/
theorem string_of_row {w : World} {v : Value} {d : Nm} {base : Nat} (h : w.ownsRow base 5 1 v d.length (d.map byteV)) : (convert 33 9 v).run Try.prog w = .ok (.string ⟨d.toArray⟩) w := by
  rcases h.2 with ⟨rfl, h0⟩ | ⟨g, cap, cur, rfl, _⟩
  · have hd : d = [] := List.eq_nil_of_length_eq_zero h0
    subst hd
    exact Lib.run_convert_nil_bytes w 33 9 5 0 Try.underlying33 Try.underlying5 Try.underlying9
  · refine run_convert_bytes_back w 33 9 5 ⟨g, 0, none⟩ cap d Try.underlying33 Try.underlying5 Try.underlying9 ?_
    intro j hj
    exact h.cells rfl j _ (by rw [List.getElem?_map, List.getElem?_eq_getElem hj]; rfl)

theorem create_ok {s s' : St} {k : Nm} {n : Int} (h : ActEnd s (TCreate s k) n s') (hf : s.fuse = -1) (hd : s.down = false) (hk : okName k = true) (hg : dget s.now k = none) (hl : s.now.length < 64) :
    n = 0 ∧ ∃ i, i ∉ s.ids ∧ s' = { (s.addFile i) with now := dput s.now k i, chs := s.chs ++ [.create k i], acts := s.acts + 1, fuse := -1 } := by
  obtain ⟨s1, hT, h2⟩ := live_end h hf hd
  rcases hT with ⟨h1, _⟩ | ⟨_, h1, _⟩ | ⟨_, _, h1, _⟩ | ⟨_, _, _, h1, i, hi, hs⟩
  · rw [hk] at h1; cases h1
  · rw [hg] at h1; cases h1
  · omega
  · rcases h2 with ⟨h3, _⟩ | ⟨_, h4⟩
    · exact absurd h1 h3
    · exact ⟨h1, i, hi, by rw [h4, hs]⟩
theorem append_ok {s s' : St} {k bs : Nm} {n : Int} {i : Nat} (h : ActEnd s (TAppend s k bs) n s') (hf : s.fuse = -1) (hd : s.down = false) (hg : dget s.now k = some i) (hl : bs.length + (s.dat i).length ≤ 262144) (hr : lenSum s.dat s.now + bs.length ≤ s.room) :
    n = 0 ∧ s' = { s with dat := upd s.dat i (s.dat i ++ bs), syn := upd s.syn i (s.syn i), acts := s.acts + 1, fuse := -1 } := by
  obtain ⟨s1, hT, h2⟩ := live_end h hf hd
  rcases hT with ⟨h1, _⟩ | ⟨j, h1, _, h3, _⟩ | ⟨j, h1, _, _, h3, _⟩ | ⟨j, h1, _, _, _, h3, hs⟩
  · rw [hg] at h1; cases h1
  · rw [hg] at h1; cases h1; omega
  · rw [hg] at h1; cases h1; omega
  · rw [hg] at h1; cases h1
    rcases h2 with ⟨h4, _⟩ | ⟨_, h4⟩
    · exact absurd h3 h4
    · exact ⟨h3, by rw [h4, hs]⟩
theorem append_full {s s' : St} {k bs : Nm} {n : Int} {i : Nat} (h : ActEnd s (TAppend s k bs) n s') (hf : s.fuse = -1) (hd : s.down = false) (hg : dget s.now k = some i) (hl : bs.length + (s.dat i).length ≤ 262144) (hr : s.room < lenSum s.dat s.now + bs.length) :
    n = 11 ∧ s' = s := by
  obtain ⟨s1, hT, h2⟩ := live_end h hf hd
  rcases hT with ⟨h1, _⟩ | ⟨j, h1, _, h3, _⟩ | ⟨j, h1, _, _, _, h3, hs⟩ | ⟨j, h1, _, _, h3, _⟩
  · rw [hg] at h1; cases h1
  · rw [hg] at h1; cases h1; omega
  · rcases h2 with ⟨_, h4⟩ | ⟨h4, _⟩
    · exact ⟨h3, by rw [h4, hs]⟩
    · omega
  · rw [hg] at h1; cases h1; omega
theorem sync_ok {s s' : St} {k : Nm} {n : Int} {i : Nat} (h : ActEnd s (TSync s k) n s') (hf : s.fuse = -1) (hd : s.down = false) (hg : dget s.now k = some i) :
    n = 0 ∧ s' = { s with dat := upd s.dat i (s.dat i), syn := upd s.syn i (s.dat i).length, acts := s.acts + 1, fuse := -1 } := by
  obtain ⟨s1, hT, h2⟩ := live_end h hf hd
  rcases hT with ⟨h1, _⟩ | ⟨j, h1, _, h3, hs⟩
  · rw [hg] at h1; cases h1
  · rw [hg] at h1; cases h1
    rcases h2 with ⟨h4, _⟩ | ⟨_, h4⟩
    · exact absurd h3 h4
    · exact ⟨h3, by rw [h4, hs]⟩
theorem syncDir_ok {s s' : St} {n : Int} (h : ActEnd s (TSyncDir s) n s') (hf : s.fuse = -1) (hd : s.down = false) :
    n = 0 ∧ s' = { s with old := s.now, chs := [], mid := false, acts := s.acts + 1, fuse := -1 } := by
  obtain ⟨s1, ⟨h3, hs⟩, h2⟩ := live_end h hf hd
  rcases h2 with ⟨h4, _⟩ | ⟨_, h4⟩
  · exact absurd h3 h4
  · exact ⟨h3, by rw [h4, hs]⟩

/-- The states of the live question, one behind the other. -/
def hs1 (i : Nat) : St := { ((St.new 9).addFile i) with now := dput [] [97] i, chs := [.create [97] i], acts := 1, fuse := -1 }
def hs2 (i : Nat) : St := { hs1 i with old := (hs1 i).now, chs := [], mid := false, acts := 2, fuse := -1 }
def hs3 (i j : Nat) : St := { ((hs2 i).addFile j) with now := dput (hs2 i).now [98] j, chs := [.create [98] j], acts := 3, fuse := -1 }
def hs4 (i j : Nat) : St := { hs3 i j with dat := upd (hs3 i j).dat i ((hs3 i j).dat i ++ [120, 121, 122]), syn := upd (hs3 i j).syn i ((hs3 i j).syn i), acts := 4, fuse := -1 }

theorem okA : okName [97] = true := by decide
theorem okB : okName [98] = true := by decide
theorem hs3_now (i j : Nat) : (hs3 i j).now = [([97], i), ([98], j)] := by
  simp [hs3, hs2, hs1, St.addFile, St.new, dput, ddel, dins, bytesBefore]
theorem hs4_dat3 (i j : Nat) (h : j ≠ i) : (hs3 i j).dat i = [] := by
  have h' : i ≠ j := fun e => h e.symm
  simp [hs3, hs2, hs1, St.addFile, St.new, upd, h']
theorem hs3_dat2 (i j : Nat) : (hs3 i j).dat j = [] := by
  simp [hs3, hs2, hs1, St.addFile, St.new, upd]
theorem hs4_dget (i j : Nat) : dget (hs4 i j).now [97] = some i := by
  simp [hs4, hs3, hs2, hs1, St.addFile, St.new, dput, ddel, dins, dget, bytesBefore]
theorem hs4_dat (i j : Nat) (h : j ≠ i) : (hs4 i j).dat i = [120, 121, 122] := by
  have h' : i ≠ j := fun e => h e.symm
  simp [hs4, hs3, hs2, hs1, St.addFile, St.new, upd, h']
theorem hs4_dat2 (i j : Nat) (h : j ≠ i) : (hs4 i j).dat j = [] := by
  simp [hs4, hs3, hs2, hs1, St.addFile, St.new, upd, h]
theorem hs4_now (i j : Nat) : (hs4 i j).now = [([97], i), ([98], j)] := by
  simp [hs4, hs3, hs2, hs1, St.addFile, St.new, dput, ddel, dins, bytesBefore]
theorem hs4_syn (i j : Nat) (h : j ≠ i) : (hs4 i j).syn i = 0 := by
  have h' : i ≠ j := fun e => h e.symm
  simp [hs4, hs3, hs2, hs1, St.addFile, St.new, upd, h']
def hs5 (i j : Nat) : St := (hs4 i j).crashed 0 [2]
theorem hs5_now (i j : Nat) : (hs5 i j).now = [([97], i)] := by
  simp [hs5, St.crashed, cutN_now, St.replayed, partN, effAll, hs4, hs3, hs2, hs1, St.addFile, St.new, dput, ddel, dins]
theorem hs5_read (i j : Nat) (h : j ≠ i) : readOf (hs5 i j) [97] = ([120, 121], 0) := by
  have h1 := hs5_now i j
  have h2 : (hs5 i j).down = false := rfl
  have h3 : dget (hs5 i j).now [97] = some i := by rw [h1]; rfl
  have h4 : (hs5 i j).dat i = [120, 121] := by
    have e1 : ((hs4 i j).replayed 0).now = [([97], i)] := by
      simp [St.replayed, partN, effAll, hs4, hs3, hs2, hs1, St.addFile, St.new, dput, ddel, dins]
    have e2 : ((hs4 i j).replayed 0).dat i = [120, 121, 122] := hs4_dat i j h
    have e3 : ((hs4 i j).replayed 0).syn i = 0 := hs4_syn i j h
    simp only [hs5, St.crashed, e1]
    simp [cutN, St.cutFile, upd, keepLen, e2, e3, cutOf, partN]
  simp [readOf, h2, h3, h4]
theorem hs5_acts (i j : Nat) : (hs5 i j).acts = 4 := by
  have e1 : ((hs4 i j).replayed 0).now = [([97], i)] := by
    simp [St.replayed, partN, effAll, hs4, hs3, hs2, hs1, St.addFile, St.new, dput, ddel, dins]
  simp only [hs5, St.crashed, e1]
  rfl
end Go.Proofs.Ytblpppeppgfbpaa
