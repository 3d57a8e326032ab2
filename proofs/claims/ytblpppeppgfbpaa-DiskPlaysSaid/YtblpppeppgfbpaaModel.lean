/- The disk's plain model: directories as lists of names with a file's number, changes, and how a disk lies in memory. -/
import Derived.Test.YtblpppeppgfbpaaKHead
namespace Go.Proofs.Ytblpppeppgfbpaa
open Go.RowKit Go.Maps

abbrev Dir := List (Nm × Nat)
def dget (d : Dir) (k : Nm) : Option Nat := (d.find? (fun p => p.1 == k)).map (·.2)
def ddel (d : Dir) (k : Nm) : Dir := d.filter (fun p => !(p.1 == k))
def dins (k : Nm) (v : Nat) : Dir → Dir
  | [] => [(k, v)]
  | p :: r => if bytesBefore k p.1 then (k, v) :: p :: r else p :: dins k v r
def dput (d : Dir) (k : Nm) (v : Nat) : Dir := dins k v (ddel d k)

def idLit (i : Nat) : DataW Unit := .lit (.int .i64 (i : Int))
def ent (p : Nm × Nat) : Lit × DataW Unit := (.string p.1, idLit p.2)
def toD (d : Dir) : DataW Unit := .map (d.map ent)

theorem toD_ins (k : Nm) (v : Nat) : ∀ d : Dir, (dins k v d).map ent = DataW.insert (ent (k, v)) (d.map ent)
  | [] => rfl
  | p :: r => by
    simp only [dins, List.map_cons, DataW.insert]
    show _ = if bytesBefore k p.1 = true then _ else _
    split
    · simp
    · simp [toD_ins k v r]
theorem toD_del (d : Dir) (k : Nm) : (toD d).del (.string k) = toD (ddel d k) := by
  simp only [toD, DataW.del, ddel, List.filter_map]
  rfl
theorem toD_put (d : Dir) (k : Nm) (v : Nat) : (toD d).put (.string k) (idLit v) = toD (dput d k v) := by
  simp only [toD, DataW.put, dput, toD_ins, ddel, List.filter_map]
  rfl
theorem toD_has (d : Dir) (k : Nm) : Maps.has (toD d) (.string k) = (dget d k).isSome := by
  simp only [toD, Maps.has_eq, dget, List.any_map, Option.isSome_map]
  induction d with
  | nil => rfl
  | cons p r ih =>
    rw [List.any_cons, List.find?_cons]
    show (p.1 == k || _) = _
    cases p.1 == k
    · simpa using ih
    · simp
theorem toD_at (d : Dir) (k : Nm) (z : DataW Unit) : (toD d).atKey (.string k) z = match dget d k with | some i => idLit i | none => z := by
  simp only [toD, DataW.atKey, dget, List.find?_map]
  have e : ((fun p : Lit × DataW Unit => p.1.sameKey (.string k)) ∘ ent) = fun p => p.1 == k := rfl
  rw [e]
  cases d.find? (fun p => p.1 == k) <;> rfl
theorem toD_size (d : Dir) : Maps.size (toD d) = d.length := by simp [toD, Maps.size_eq]
theorem toD_keys (d : Dir) : strKeys (toD d) = d.map (·.1) := by simp [toD, strKeys, ent, strOf, Function.comp_def]

theorem length_dins (k : Nm) (v : Nat) : ∀ d : Dir, (dins k v d).length = d.length + 1
  | [] => rfl
  | p :: r => by
    simp only [dins]
    split
    · simp
    · simp [length_dins k v r]
theorem length_ddel (d : Dir) (k : Nm) : (ddel d k).length ≤ d.length := List.length_filter_le _ _
theorem length_dput (d : Dir) (k : Nm) (v : Nat) : (dput d k v).length ≤ d.length + 1 := by
  have := length_ddel d k
  unfold dput
  rw [length_dins]
  omega
theorem mem_dins (k : Nm) (v : Nat) (p : Nm × Nat) : ∀ d : Dir, p ∈ dins k v d ↔ p = (k, v) ∨ p ∈ d
  | [] => by simp [dins]
  | q :: r => by
    simp only [dins]
    split
    · simp
    · simp only [List.mem_cons, mem_dins k v p r]
      constructor <;> (rintro (h | h | h) <;> simp [h])
theorem mem_ddel {d : Dir} {k : Nm} {p : Nm × Nat} : p ∈ ddel d k ↔ p ∈ d ∧ p.1 ≠ k := by simp [ddel]
theorem mem_dput {d : Dir} {k : Nm} {v : Nat} {p : Nm × Nat} : p ∈ dput d k v ↔ p = (k, v) ∨ p ∈ d ∧ p.1 ≠ k := by rw [dput, mem_dins, mem_ddel]
theorem dget_mem {d : Dir} {k : Nm} {i : Nat} (h : dget d k = some i) : (k, i) ∈ d := by
  unfold dget at h
  simp only [Option.map_eq_some_iff] at h
  obtain ⟨p, hp, rfl⟩ := h
  have h1 := List.mem_of_find?_eq_some hp
  have h2 := List.find?_some hp
  simp at h2
  rw [← h2]
  exact h1

inductive Ch where
  | create (k : Nm) (i : Nat)
  | rename (a b : Nm)
  | remove (k : Nm)
def Ch.eff : Ch → Dir → Dir
  | .create k i, d => dput d k i
  | .rename a b, d => ddel (dput d b ((dget d a).getD 0)) a
  | .remove k, d => ddel d k
/-- A change may be done: there is room, and what is renamed is there. -/
def Ch.ok : Ch → Dir → Prop
  | .rename a b, d => (dget d a).isSome = true ∧ (Ch.eff (.rename a b) d).length ≤ 64
  | c, d => (c.eff d).length ≤ 64
def okAll : Dir → List Ch → Prop
  | _, [] => True
  | d, c :: r => c.ok d ∧ okAll (c.eff d) r
def effAll (d : Dir) (l : List Ch) : Dir := l.foldl (fun d c => c.eff d) d
theorem Ch.ok_len {c : Ch} {d : Dir} (h : c.ok d) : (c.eff d).length ≤ 64 := by
  cases c with
  | create k i => exact h
  | rename a b => exact h.2
  | remove k => exact h
theorem okAll_len : ∀ (l : List Ch) (d : Dir) (n : Nat), okAll d l → d.length ≤ 64 → (effAll d (l.take n)).length ≤ 64
  | [], d, n, _, hl => by simpa [effAll] using hl
  | c :: r, d, 0, _, hl => by simpa [effAll] using hl
  | c :: r, d, n + 1, h, _ => okAll_len r (c.eff d) n h.2 (Ch.ok_len h.1)
theorem okAll_take : ∀ (l : List Ch) (d : Dir) (n : Nat), okAll d l → okAll d (l.take n)
  | [], _, n, _ => by cases n <;> trivial
  | _ :: _, _, 0, _ => trivial
  | c :: r, d, n + 1, h => ⟨h.1, okAll_take r _ n h.2⟩
theorem okAll_snoc : ∀ (l : List Ch) (d : Dir) (c : Ch), okAll d l → c.ok (effAll d l) → okAll d (l ++ [c])
  | [], _, _, _, h => ⟨h, trivial⟩
  | _ :: r, _, c, h, h' => ⟨h.1, okAll_snoc r _ c h.2 h'⟩
theorem effAll_snoc (l : List Ch) (d : Dir) (c : Ch) : effAll d (l ++ [c]) = c.eff (effAll d l) := by simp [effAll]
/-- The k-th change of a good row may be done behind those ahead. -/
theorem okAll_at : ∀ (l : List Ch) (d : Dir) (k : Nat) (c : Ch), okAll d l → l[k]? = some c → c.ok (effAll d (l.take k))
  | [], _, _, _, _, h => by simp at h
  | _ :: _, _, 0, c, h, e => by simp at e; subst e; exact h.1
  | _ :: r, _, k + 1, c, h, e => okAll_at r _ k c h.2 (by simpa using e)

structure St where
  room : Nat
  now : Dir
  old : Dir
  chs : List Ch
  acts : Nat
  fuse : Int
  down : Bool
  ids : List Nat
  dat : Nat → Nm
  syn : Nat → Nat
  mid : Bool := false

def Ch.idOk (ids : List Nat) : Ch → Prop
  | .create _ i => i ∈ ids
  | _ => True

theorem idOk_eff {ids : List Nat} {c : Ch} {d : Dir} (hc : c.idOk ids) (ho : c.ok d) (hd : ∀ p ∈ d, p.2 ∈ ids) : ∀ p ∈ c.eff d, p.2 ∈ ids := by
  intro p hp
  cases c with
  | create k i =>
    rcases mem_dput.1 hp with e | e
    · rw [e]; exact hc
    · exact hd p e.1
  | rename a b =>
    obtain ⟨i, hi⟩ := Option.isSome_iff_exists.1 ho.1
    have h1 := (mem_ddel.1 hp).1
    rw [hi] at h1
    rcases mem_dput.1 h1 with e | e
    · have h2 := hd _ (dget_mem hi)
      rw [e]; exact h2
    · exact hd p e.1
  | remove k => exact hd p (mem_ddel.1 hp).1
theorem idOk_all {ids : List Nat} : ∀ (l : List Ch) (d : Dir) (n : Nat), okAll d l → (∀ c ∈ l, c.idOk ids) → (∀ p ∈ d, p.2 ∈ ids) → ∀ p ∈ effAll d (l.take n), p.2 ∈ ids
  | [], d, n, _, _, hd => by simpa [effAll] using hd
  | c :: r, d, 0, _, _, hd => by simpa [effAll] using hd
  | c :: r, d, n + 1, h, hc, hd => idOk_all r (c.eff d) n h.2 (fun x hx => hc x (by simp [hx])) (idOk_eff (hc c (by simp)) h.1 hd)

structure WF (s : St) : Prop where
  now_id : ∀ p ∈ s.now, p.2 ∈ s.ids
  old_id : ∀ p ∈ s.old, p.2 ∈ s.ids
  chs_id : ∀ c ∈ s.chs, c.idOk s.ids
  fit : ∀ i ∈ s.ids, s.syn i ≤ (s.dat i).length ∧ (s.dat i).length ≤ 262144
  nnow : s.now.length ≤ 64
  nold : s.old.length ≤ 64
  okc : okAll s.old s.chs
  eff : s.mid = false → effAll s.old s.chs = s.now
  room : s.room ≤ 9223372036854775807
  fuse1 : -1 ≤ s.fuse
  fuse2 : s.fuse ≤ 9223372036854775807

def fileAt (w : World) (i : Nat) (v : Value) (d : Nm) (n : Nat) : Prop := Blk w i 65 #[v, .int .i64 n] ∧ w.ownsRow 0 5 1 v d.length (d.map byteV)
def chRep (w : World) (F : Nat → Prop) (v : Value) : Ch → Prop
  | .create k i => ∃ bf bk, v = .func (.func 53) #[] #[at0 bf, at0 bk] ∧ Blk w bf 62 #[at0 i] ∧ Blk w bk 9 #[encStr k] ∧ F bf ∧ F bk ∧ k.length ≤ 281474976710656
  | .rename a b => ∃ ba bb, v = .func (.func 66) #[] #[at0 ba, at0 bb] ∧ Blk w ba 9 #[encStr a] ∧ Blk w bb 9 #[encStr b] ∧ F ba ∧ F bb ∧ a.length ≤ 281474976710656 ∧ b.length ≤ 281474976710656
  | .remove k => ∃ bk, v = .func (.func 68) #[] #[at0 bk] ∧ Blk w bk 9 #[encStr k] ∧ F bk ∧ k.length ≤ 281474976710656

abbrev dirAt (w : World) (b : Nat) (d : Dir) : Prop := w.ownsMap Try.prog 9 ptrElem b 300 (toD d)

structure IsDisk (w : World) (F : Nat → Prop) (b : Nat) (s : St) (bn bo : Nat) (cv : Value) (cls : List Value) (fv : Nat → Value) : Prop where
  wf : WF s
  blk : Blk w b 70 #[.int .i64 s.room, .map (some bn), .map (some bo), cv, .int .i64 s.acts, .int .i64 s.fuse, .bool s.down]
  now : dirAt w bn s.now
  old : dirAt w bo s.old
  nob : bn ≠ bo
  row : w.ownsRow 0 84 1 cv s.chs.length cls
  reps : ∀ (j : Nat) (v : Value) (c : Ch), cls[j]? = some v → s.chs[j]? = some c → chRep w F v c
  files : ∀ i ∈ s.ids, fileAt w i (fv i) (s.dat i) (s.syn i)
  apart : ∀ i ∈ s.ids, ∀ j ∈ s.ids, i ≠ j → ∀ g, (fv i).ownBlock = some g → (fv j).ownBlock ≠ some g
  fb : F b
  fn : F bn
  fo : F bo
  fc : ∀ g, cv.ownBlock = some g → F g
  fi : ∀ i ∈ s.ids, F i
  fd : ∀ i ∈ s.ids, ∀ g, (fv i).ownBlock = some g → F g
  lt : ∀ i, F i → i < w.heap.size

def Disk (w : World) (F : Nat → Prop) (b : Nat) (s : St) : Prop := ∃ bn bo cv cls fv, IsDisk w F b s bn bo cv cls fv

theorem Blk.same {w w' : World} {g : Nat} {t : TypeId} {cs : Array Value} (h : Blk w g t cs) (e : w'.heap[g]? = w.heap[g]?) : Blk w' g t cs := e.trans h
theorem chRep.frame {w w' : World} {F F' : Nat → Prop} {v : Value} {c : Ch} (h : chRep w F v c) (hF : ∀ i, F i → F' i) (hb : ∀ i, F i → w'.heap[i]? = w.heap[i]?) : chRep w' F' v c := by
  cases c with
  | create k i =>
    obtain ⟨bf, bk, e, h1, h2, f1, f2, hl⟩ := h
    exact ⟨bf, bk, e, h1.same (hb _ f1), h2.same (hb _ f2), hF _ f1, hF _ f2, hl⟩
  | rename a b =>
    obtain ⟨bf, bk, e, h1, h2, f1, f2, hl⟩ := h
    exact ⟨bf, bk, e, h1.same (hb _ f1), h2.same (hb _ f2), hF _ f1, hF _ f2, hl⟩
  | remove k =>
    obtain ⟨bk, e, h1, f1, hl⟩ := h
    exact ⟨bk, e, h1.same (hb _ f1), hF _ f1, hl⟩
theorem fileAt.frame {w w' : World} {i : Nat} {v : Value} {d : Nm} {n : Nat} (h : fileAt w i v d n) (h1 : w'.heap[i]? = w.heap[i]?) (h2 : ∀ g, v.ownBlock = some g → w'.heap[g]? = w.heap[g]?) : fileAt w' i v d n :=
  ⟨h.1.same h1, ownsRow_block h.2 h2⟩
/-- What lies outside F may turn. -/
theorem IsDisk.frame {w w' : World} {F : Nat → Prop} {b : Nat} {s : St} {bn bo : Nat} {cv : Value} {cls : List Value} {fv : Nat → Value} (h : IsDisk w F b s bn bo cv cls fv)
    (hb : ∀ i, F i → w'.heap[i]? = w.heap[i]?) (hs : w.heap.size ≤ w'.heap.size) : IsDisk w' F b s bn bo cv cls fv where
  wf := h.wf
  blk := h.blk.same (hb _ h.fb)
  now := ownsMap_block h.now (hb _ h.fn)
  old := ownsMap_block h.old (hb _ h.fo)
  nob := h.nob
  row := ownsRow_block h.row fun g hg => hb g (h.fc g hg)
  reps := fun j v c h1 h2 => (h.reps j v c h1 h2).frame (fun _ hi => hi) hb
  files := fun i hi => (h.files i hi).frame (hb _ (h.fi i hi)) fun g hg => hb g (h.fd i hi g hg)
  apart := h.apart
  fb := h.fb
  fn := h.fn
  fo := h.fo
  fc := h.fc
  fi := h.fi
  fd := h.fd
  lt := fun i hi => Nat.lt_of_lt_of_le (h.lt i hi) hs
theorem IsDisk.more {w : World} {F F' : Nat → Prop} {b : Nat} {s : St} {bn bo : Nat} {cv : Value} {cls : List Value} {fv : Nat → Value} (h : IsDisk w F b s bn bo cv cls fv)
    (hF : ∀ i, F i → F' i) (hl : ∀ i, F' i → i < w.heap.size) : IsDisk w F' b s bn bo cv cls fv :=
  { h with
    reps := fun j v c h1 h2 => (h.reps j v c h1 h2).frame hF (fun _ _ => rfl)
    fb := hF _ h.fb
    fn := hF _ h.fn
    fo := hF _ h.fo
    fc := fun g hg => hF _ (h.fc g hg)
    fi := fun i hi => hF _ (h.fi i hi)
    fd := fun i hi g hg => hF _ (h.fd i hi g hg)
    lt := hl }
/-- F, and what is new. -/
def Own (F : Nat → Prop) (w w' : World) (i : Nat) : Prop := F i ∨ (w.heap.size ≤ i ∧ i < w'.heap.size)
theorem Own.sub {F : Nat → Prop} {w w' : World} : ∀ i, Own F w w' i → F i ∨ w.heap.size ≤ i := fun _ h => h.imp id (·.1)
theorem Disk.frame {w w' : World} {F : Nat → Prop} {b : Nat} {s : St} (h : Disk w F b s) (hb : ∀ i, F i → w'.heap[i]? = w.heap[i]?) (hs : w.heap.size ≤ w'.heap.size) : Disk w' F b s := by
  obtain ⟨bn, bo, cv, cls, fv, hd⟩ := h
  exact ⟨bn, bo, cv, cls, fv, hd.frame hb hs⟩
theorem Disk.kept {w w' : World} {F G : Nat → Prop} {b : Nat} {s : St} (h : Disk w F b s) (hk : Kept G w w') (hn : ∀ i, F i → ¬ G i) : Disk w' F b s := by
  have hlt : ∀ i, F i → i < w.heap.size := by obtain ⟨bn, bo, cv, cls, fv, hd⟩ := h; exact hd.lt
  exact h.frame (fun i hi => hk.block i (hlt i hi) (hn i hi)) hk.size
theorem Disk.alloc {w : World} {F : Nat → Prop} {b : Nat} {s : St} (h : Disk w F b s) (o : Obj) : Disk (w.alloc o) F b s :=
  h.kept ((Kept.refl (fun _ => False) w).alloc o) (fun _ _ => id)
theorem Disk.drew {w : World} {F : Nat → Prop} {b : Nat} {s : St} (h : Disk w F b s) : Disk w.drew F b s := h.frame (fun _ _ => rfl) (Nat.le_refl _)
theorem Disk.drewN {w : World} {F : Nat → Prop} {b : Nat} {s : St} (h : Disk w F b s) (n : Nat) : Disk (w.drewN n) F b s := h.frame (fun _ _ => rfl) (Nat.le_refl _)
end Go.Proofs.Ytblpppeppgfbpaa
