/- A disk of files that came in: what it is, plainly. -/
import Derived.Test.YtblpppeppgfbpaaR1Sim
import Derived.Test.YtblpppeppgfbpaaGreatFiles
namespace Go.Proofs.Ytblpppeppgfbpaa
open Go.RowKit Go.Maps Go.WideMaps

def FlV.key (o : FlV) : Nm := o.a.data.toList
/-- The directory of the first k files. -/
def ofDir (l : List FlV) : Nat → Dir
  | 0 => []
  | k + 1 => match l[k]? with | some o => dput (ofDir l k) o.key k | none => ofDir l k
theorem ofDir_succ {l : List FlV} {k : Nat} {o : FlV} (h : l[k]? = some o) : ofDir l (k + 1) = dput (ofDir l k) o.key k := by simp only [ofDir, h]
theorem ofDir_len (l : List FlV) : ∀ k, (ofDir l k).length ≤ k
  | 0 => Nat.le_refl _
  | k + 1 => by
    have := ofDir_len l k
    simp only [ofDir]
    split
    · rename_i o _
      have := length_dput (ofDir l k) o.key k
      omega
    · omega
theorem ofDir_file (l : List FlV) : ∀ k, ∀ p ∈ ofDir l k, p.2 < k
  | 0, p, h => by cases h
  | k + 1, p, h => by
    simp only [ofDir] at h
    split at h
    · rcases mem_dput.1 h with e | e
      · rw [e]; exact Nat.lt_succ_self k
      · exact Nat.lt_succ_of_lt (ofDir_file l k p e.1)
    · exact Nat.lt_succ_of_lt (ofDir_file l k p h)
/-- The k-th file may be there, behind those ahead. -/
def OfOk (l : List FlV) (k : Nat) (o : FlV) : Prop := okName o.key = true ∧ dget (ofDir l k) o.key = none ∧ o.bn ≤ 262144
def OfGood (l : List FlV) : Prop := l.length ≤ 64 ∧ ∀ k o, l[k]? = some o → OfOk l k o
theorem ofDir_good {l : List FlV} (k : Nat) (h : ∀ j o, j < k → l[j]? = some o → OfOk l j o) : Good k (ofDir l k) := by
  induction k with
  | zero => exact Good.nil _
  | succ k ih =>
    have hg := (ih fun j o hj => h j o (by omega)).more (Nat.le_succ k)
    simp only [ofDir]
    split
    · rename_i o ho
      exact hg.put (name_ne (h k o (Nat.lt_succ_self k) ho).1) (Nat.lt_succ_self k)
    · exact hg
def inoOf (l : List FlV) (k : Nat) : List (Nm × Nat) := (l.take k).map fun o => (o.bs, o.bs.length)
theorem take_snocF {α : Type} {l : List α} {k : Nat} {x : α} (h : l[k]? = some x) : l.take (k + 1) = l.take k ++ [x] := by
  rw [List.take_add_one, h]
  rfl
theorem inoOf_succ {l : List FlV} {k : Nat} {o : FlV} (h : l[k]? = some o) : inoOf l (k + 1) = inoOf l k ++ [(o.bs, o.bs.length)] := by
  unfold inoOf
  rw [take_snocF h]
  simp
theorem inoOf_len {l : List FlV} {k : Nat} (h : k ≤ l.length) : (inoOf l k).length = k := by simp [inoOf]; omega
theorem inoOf_at {l : List FlV} {k j : Nat} {x : Nm × Nat} (h : (inoOf l k)[j]? = some x) : j < k ∧ ∃ o, l[j]? = some o ∧ x = (o.bs, o.bs.length) := by
  unfold inoOf at h
  rw [List.getElem?_map] at h
  cases ho : (l.take k)[j]? with
  | none => rw [ho] at h; cases h
  | some o =>
    rw [ho] at h
    rw [List.getElem?_take] at ho
    split at ho
    · rename_i hj
      exact ⟨hj, o, ho, (Option.some.inj h).symm⟩
    · cases ho
/-- The document's disk, k files on. -/
def rOf (room : Nat) (l : List FlV) (k : Nat) : RSt := ⟨room, inoOf l k, ofDir l k, [], [], 0, false, 0, false⟩
def rOfEnd (room : Nat) (l : List FlV) : RSt := { rOf room l l.length with old := ofDir l l.length }
/-- The program's, k files on. -/
structure SOf (room : Nat) (l : List FlV) (k : Nat) (f : Nat → Nat) (s : St) : Prop where
  room : s.room = room
  now : s.now = dmap f (ofDir l k)
  old : s.old = []
  chs : s.chs = []
  acts : s.acts = 0
  fuse : s.fuse = -1
  down : s.down = false
  ids : ∀ j, j < k → f j ∈ s.ids
  inj : ∀ i j, i < k → j < k → f i = f j → i = j
  dat : ∀ (j : Nat) (o : FlV), j < k → l[j]? = some o → s.dat (f j) = o.bs ∧ s.syn (f j) = o.bs.length
theorem SOf.sim {room : Nat} {l : List FlV} {f : Nat → Nat} {s : St} (h : SOf room l l.length f s) (hg : OfGood l) : Sim { s with old := s.now, chs := [], mid := false } (rOfEnd room l) f := by
  have hgood := ofDir_good l.length fun j o _ ho => hg.2 j o ho
  have hn : (inoOf l l.length).length = l.length := inoOf_len (Nat.le_refl _)
  refine ⟨h.room.symm, rfl, rfl, fun m => ?_, fun j hj => h.ids j (by rw [← hn]; exact hj), fun i j hi hj e => h.inj i j (by rw [← hn]; exact hi) (by rw [← hn]; exact hj) e, fun j x hx => ?_, h.acts.symm, h.fuse, h.down.symm⟩
  · show Good (inoOf l l.length).length (rEffAll (ofDir l l.length) (([] : List RCh).take m)) ∧ dmap f (rEffAll (ofDir l l.length) (([] : List RCh).take m)) = effAll s.now (([] : List Ch).take m)
    rw [List.take_nil, List.take_nil, hn]
    exact ⟨hgood, h.now.symm⟩
  · obtain ⟨hj, o, ho, rfl⟩ := inoOf_at hx
    exact h.dat j o hj ho
end Go.Proofs.Ytblpppeppgfbpaa
