/- The states of DiskSyncs, one behind the other; strings of slices; append where no order is drawn. -/
import Derived.Test.YtblpppeppgfbpaaLawKit
namespace Go.Proofs.Ytblpppeppgfbpaa
open Go.RowKit Go.Maps Go.WideMaps

/-- 'string(a[:p])' of a slice that came in. -/
theorem string_of_src {w : World} {A : Option Addr} {n : Nat} {d : Nm} (h : Src w A n (d.map byteV)) (p c : Nat) (hp : p ≤ n) : (convert 33 9 (.slice A p c)).run Try.prog w = .ok (.string ⟨(d.take p).toArray⟩) w := by
  have hl : d.length = n := by have := h.len; simpa using this
  cases A with
  | none =>
    have h0 := h.nil rfl
    have hp0 : p = 0 := by omega
    subst hp0
    rw [List.take_zero]
    exact Lib.run_convert_nil_bytes w 33 9 5 c Try.underlying33 Try.underlying5 Try.underlying9
  | some ad =>
    have hlt : (d.take p).length = p := by simp; omega
    have := run_convert_bytes_back (P := Try.prog) w 33 9 5 ad c (d.take p) Try.underlying33 Try.underlying5 Try.underlying9 (fun j hj => by
      refine h.cells ad rfl j _ ?_
      rw [hlt] at hj
      rw [List.getElem?_map, List.getElem?_eq_getElem (show j < d.length by omega)]
      simp [byteV])
    rw [hlt] at this
    exact this
theorem src_of_row {w : World} {A : Option Addr} {n c base : Nat} {d : Nm} (h : w.ownsRow base 5 1 (.slice A n c) n (d.map byteV)) : Src w A n (d.map byteV) := by
  refine ⟨by have := h.1; simpa using this, fun ad e j u hu => ?_, fun e => ?_⟩
  · rcases h.2 with ⟨h1, h0⟩ | ⟨g, cap, cur, h1, _⟩
    · injection h1 with h1
      rw [h1] at e; cases e
    · injection h1 with h1
      rw [h1] at e
      injection e with e
      subst e
      exact h.cells (by rw [h1]; rfl) j u hu
  · rcases h.2 with ⟨_, h0⟩ | ⟨g, cap, cur, h1, _⟩
    · exact h0
    · injection h1 with h1
      rw [h1] at e; cases e

def nOne : Nm := [111, 110, 101]
def nTwo : Nm := [116, 119, 111]
def nThree : Nm := [116, 104, 114, 101, 101]
def ds1 (i : Nat) : St := { ((St.new 1048576).addFile i) with now := dput [] nOne i, chs := [.create nOne i], acts := 1, fuse := -1 }
def ds2 (i : Nat) (xs : Nm) : St := { ds1 i with dat := upd (ds1 i).dat i ((ds1 i).dat i ++ xs), syn := upd (ds1 i).syn i ((ds1 i).syn i), acts := 2, fuse := -1 }
def ds3 (i j : Nat) (xs : Nm) : St := { ((ds2 i xs).addFile j) with now := dput (ds2 i xs).now nTwo j, chs := (ds2 i xs).chs ++ [.create nTwo j], acts := 3, fuse := -1 }
def ds4 (i j : Nat) (xs : Nm) : St := { ds3 i j xs with dat := upd (ds3 i j xs).dat j ((ds3 i j xs).dat j ++ xs), syn := upd (ds3 i j xs).syn j ((ds3 i j xs).syn j), acts := 4, fuse := -1 }
def ds5 (i j : Nat) (xs : Nm) : St := { ds4 i j xs with dat := upd (ds4 i j xs).dat j ((ds4 i j xs).dat j), syn := upd (ds4 i j xs).syn j ((ds4 i j xs).dat j).length, acts := 5, fuse := -1 }
def ds6 (i j : Nat) (xs : Nm) : St := { ds5 i j xs with old := (ds5 i j xs).now, chs := [], mid := false, acts := 6, fuse := -1 }
def ds7 (i j : Nat) (xs ys : Nm) : St := { ds6 i j xs with dat := upd (ds6 i j xs).dat j ((ds6 i j xs).dat j ++ ys), syn := upd (ds6 i j xs).syn j ((ds6 i j xs).syn j), acts := 7, fuse := -1 }
def ds8 (i j k : Nat) (xs ys : Nm) : St := { ((ds7 i j xs ys).addFile k) with now := dput (ds7 i j xs ys).now nThree k, chs := [.create nThree k], acts := 8, fuse := -1 }
section
variable {i j k : Nat} {xs ys : Nm}
theorem ds2_now : (ds2 i xs).now = [(nOne, i)] := rfl
theorem ds3_now : (ds3 i j xs).now = [(nOne, i), (nTwo, j)] := by
  simp [ds3, ds2, ds1, St.addFile, dput, ddel, dins, bytesBefore, nOne, nTwo]
theorem ds1_dat : (ds1 i).dat i = [] := by simp [ds1, St.addFile, St.new, upd]
theorem ds2_dat : (ds2 i xs).dat i = xs := by simp [ds2, ds1_dat, upd]
theorem ds3_dat (h : j ≠ i) : (ds3 i j xs).dat i = xs ∧ (ds3 i j xs).dat j = [] := by
  have h' : i ≠ j := fun e => h e.symm
  have := ds2_dat (i := i) (xs := xs)
  simp [ds3, St.addFile, upd, h', this]
theorem ds4_dat (h : j ≠ i) : (ds4 i j xs).dat i = xs ∧ (ds4 i j xs).dat j = xs := by
  have h' : i ≠ j := fun e => h e.symm
  have := ds3_dat (xs := xs) h
  simp [ds4, upd, h', this]
theorem ds6_dat (h : j ≠ i) : (ds6 i j xs).dat i = xs ∧ (ds6 i j xs).dat j = xs := by
  have h' : i ≠ j := fun e => h e.symm
  have := ds4_dat (xs := xs) h
  simp [ds6, ds5, upd, h', this]
theorem ds6_syn (h : j ≠ i) : (ds6 i j xs).syn i = 0 ∧ (ds6 i j xs).syn j = xs.length := by
  have h' : i ≠ j := fun e => h e.symm
  simp [ds6, ds5, ds4, ds3, ds2, ds1, St.addFile, St.new, upd, h']
theorem ds8_dat (h : j ≠ i) (hk : k ≠ i) (hk2 : k ≠ j) : (ds8 i j k xs ys).dat i = xs ∧ (ds8 i j k xs ys).dat j = xs ++ ys := by
  have h' : i ≠ j := fun e => h e.symm
  have h2 : i ≠ k := fun e => hk e.symm
  have h3 : j ≠ k := fun e => hk2 e.symm
  have := ds6_dat (xs := xs) h
  simp [ds8, ds7, St.addFile, upd, h', h2, h3, this]
theorem ds8_syn (h : j ≠ i) (hk : k ≠ i) (hk2 : k ≠ j) : (ds8 i j k xs ys).syn i = 0 ∧ (ds8 i j k xs ys).syn j = xs.length := by
  have h' : i ≠ j := fun e => h e.symm
  have h2 : i ≠ k := fun e => hk e.symm
  have h3 : j ≠ k := fun e => hk2 e.symm
  have := ds6_syn (xs := xs) h
  simp [ds8, ds7, St.addFile, upd, h', h2, h3, this]
theorem ds8_old : (ds8 i j k xs ys).old = [(nOne, i), (nTwo, j)] := ds3_now (i := i) (j := j) (xs := xs)
theorem ds8_dat3 : (ds8 i j k xs ys).dat k = [] ∧ (ds8 i j k xs ys).syn k = 0 := by
  simp [ds8, St.addFile, upd]
end
/-- What is read behind a crash. -/
theorem crashed_read (S : St) (acts : Int) (cs : List Int) (k : Nm) : readOf (S.crashed acts cs) k = match dget (S.replayed acts).now k with
    | none => ([], 12)
    | some i => ((cutN (S.replayed acts) cs (S.replayed acts).now (S.replayed acts).now.length).dat i, 0) := by
  simp only [readOf, St.crashed, cutN_now, Bool.false_eq_true, if_false]
  cases dget (S.replayed acts).now k <;> rfl
theorem two_reads (R : St) (i j k : Nat) (xs ys : Nm) (cs : List Int) (h : j ≠ i) (hk : k ≠ i) (hk2 : k ≠ j) (d1 : R.dat i = xs) (d2 : R.dat j = xs ++ ys) (s1 : R.syn i = 0) (s2 : R.syn j = xs.length) (d3 : R.dat k = []) :
    ((cutN R cs [(nOne, i), (nTwo, j)] 2).dat i = xs.take (partN (cutOf cs 0) xs.length) ∧ (cutN R cs [(nOne, i), (nTwo, j)] 2).dat j = (xs ++ ys).take (xs.length + partN (cutOf cs 1) ys.length)) ∧
    ((cutN R cs [(nOne, i), (nThree, k), (nTwo, j)] 3).dat i = xs.take (partN (cutOf cs 0) xs.length) ∧ (cutN R cs [(nOne, i), (nThree, k), (nTwo, j)] 3).dat j = (xs ++ ys).take (xs.length + partN (cutOf cs 2) ys.length) ∧ (cutN R cs [(nOne, i), (nThree, k), (nTwo, j)] 3).dat k = []) := by
  have h' : i ≠ j := fun e => h e.symm
  have h2 : i ≠ k := fun e => hk e.symm
  have h3 : j ≠ k := fun e => hk2 e.symm
  refine ⟨⟨?_, ?_⟩, ?_, ?_, ?_⟩
  · simp [cutN, St.cutFile, keepLen, upd, h', d1, s1]
  · simp [cutN, St.cutFile, keepLen, upd, h, d2, s2]
  · simp [cutN, St.cutFile, keepLen, upd, h', h2, d1, s1]
  · simp [cutN, St.cutFile, keepLen, upd, h, h3, d2, s2]
  · simp [cutN, St.cutFile, keepLen, upd, hk, hk2, d3]

theorem ds9_reads {i j k : Nat} {xs ys : Nm} (h : j ≠ i) (hk : k ≠ i) (hk2 : k ≠ j) (acts : Int) (cs : List Int) : ∃ (p q : Nat) (g : Int),
    readOf ((ds8 i j k xs ys).crashed acts cs) nOne = (xs.take p, 0) ∧ p ≤ xs.length ∧ readOf ((ds8 i j k xs ys).crashed acts cs) nTwo = ((xs ++ ys).take q, 0) ∧ xs.length ≤ q ∧ q ≤ xs.length + ys.length ∧
    readOf ((ds8 i j k xs ys).crashed acts cs) nThree = ([], g) ∧ (g = 0 ∨ g = 12) ∧ (acts = 0 → g = 12) ∧ (acts = 1 → g = 0) := by
  obtain ⟨d1, d2⟩ := ds8_dat (xs := xs) (ys := ys) h hk hk2
  obtain ⟨s1, s2⟩ := ds8_syn (xs := xs) (ys := ys) h hk hk2
  obtain ⟨d3, -⟩ := ds8_dat3 (i := i) (j := j) (k := k) (xs := xs) (ys := ys)
  have hold := ds8_old (i := i) (j := j) (k := k) (xs := xs) (ys := ys)
  have hle := partN_le acts 1
  have hchs : (ds8 i j k xs ys).chs = [.create nThree k] := rfl
  rw [crashed_read, crashed_read, crashed_read]
  obtain ⟨R, hR⟩ : ∃ R, R = (ds8 i j k xs ys).replayed acts := ⟨_, rfl⟩
  have e1 : R.dat = (ds8 i j k xs ys).dat := by rw [hR]; rfl
  have e2 : R.syn = (ds8 i j k xs ys).syn := by rw [hR]; rfl
  obtain ⟨⟨r1, r2⟩, r3, r4, r5⟩ := two_reads R i j k xs ys cs h hk hk2 (by rw [e1]; exact d1) (by rw [e1]; exact d2) (by rw [e2]; exact s1) (by rw [e2]; exact s2) (by rw [e1]; exact d3)
  by_cases hz : partN acts 1 = 0
  · have hnow : R.now = [(nOne, i), (nTwo, j)] := by rw [hR]; simp [St.replayed, hchs, hz, effAll, hold]
    rw [← hR, hnow]
    refine ⟨partN (cutOf cs 0) xs.length, xs.length + partN (cutOf cs 1) ys.length, 12, ?_, partN_le _ _, ?_, by omega, by have := partN_le (cutOf cs 1) ys.length; omega, ?_, .inr rfl, fun _ => rfl, fun ha => ?_⟩
    · show ((cutN R cs [(nOne, i), (nTwo, j)] 2).dat i, (0 : Int)) = _
      rw [r1]
    · show ((cutN R cs [(nOne, i), (nTwo, j)] 2).dat j, (0 : Int)) = _
      rw [r2]
    · rfl
    · subst ha
      simp [partN] at hz
  · have hz1 : partN acts 1 = 1 := by omega
    have hnow : R.now = [(nOne, i), (nThree, k), (nTwo, j)] := by
      rw [hR]
      simp [St.replayed, hchs, hz1, effAll, hold, Ch.eff, dput, ddel, dins, bytesBefore, nOne, nTwo, nThree]
    rw [← hR, hnow]
    refine ⟨partN (cutOf cs 0) xs.length, xs.length + partN (cutOf cs 2) ys.length, 0, ?_, partN_le _ _, ?_, by omega, by have := partN_le (cutOf cs 2) ys.length; omega, ?_, .inl rfl, fun ha => ?_, fun _ => rfl⟩
    · show ((cutN R cs [(nOne, i), (nThree, k), (nTwo, j)] 3).dat i, (0 : Int)) = _
      rw [r3]
    · show ((cutN R cs [(nOne, i), (nThree, k), (nTwo, j)] 3).dat j, (0 : Int)) = _
      rw [r4]
    · show ((cutN R cs [(nOne, i), (nThree, k), (nTwo, j)] 3).dat k, (0 : Int)) = _
      rw [r5]
    · subst ha
      simp [partN] at hz
end Go.Proofs.Ytblpppeppgfbpaa
