/- The disk's plain model: directories as lists of names with a file's number, changes, and how a disk lies in memory. The document's disk (verbatimref01): directories: find, without, with, changed. Contracts of the disk's small functions that only read: has, Acts, Down, part, cutAt, validByte, validName. Contracts of the library's functions that the disk calls: bytes.Clone, strings.Clone, maps.Clone, and slices.Sorted over maps.Keys. The order of names, both ways of saying it. The document's disk: without, with, changed. The document's disk: a name that is right. The files of the disk, as a plain list. -/
import Derived.Test.YtmhiekbpmoikfaaGreatDoorZp1
import Derived.Deep.QuietTactic
import Derived.BigQuiet
import Derived.Shelf.SlMaps.Clone
import Derived.Lib.Strings
import Derived.Lib.Walk
import Derived.Lib.BufferWrite
import Derived.Lib.UnsafeStr
import Derived.Laws.MakeOwn
import Derived.Sort.Walk0
import Derived.OwnWalkIn
import Derived.TacticsInMore
namespace Go.Proofs.YtmhiekbpmoikfaaGreatDoor
open Go.RowKit Go.Maps

abbrev Dir := List (Nm × Nat)
def dget (d : Dir) (k : Nm) : Option Nat := (d.find? (fun p => p.1 == k)).map (·.2)
def ddel (d : Dir) (k : Nm) : Dir := d.filter (fun p => !(p.1 == k))
def dins (k : Nm) (v : Nat) : Dir → Dir
  | [] => [(k, v)]
  | p :: r => if bytesBefore k p.1 then (k, v) :: p :: r else p :: dins k v r
def dput (d : Dir) (k : Nm) (v : Nat) : Dir := dins k v (ddel d k)

def idLit (i : Nat) : DataW Unit := .lit (.int .i64 (i : Int))
def ent (p : Nm × Nat) : Lit × DataW Unit := (.string p.1, idLit p.2)
def toD (d : Dir) : DataW Unit := .map (d.map ent)

theorem toD_ins (k : Nm) (v : Nat) : ∀ d : Dir, (dins k v d).map ent = DataW.insert (ent (k, v)) (d.map ent)
  | [] => rfl
  | p :: r => by
    simp only [dins, List.map_cons, DataW.insert]
    show _ = if bytesBefore k p.1 = true then _ else _
    split
    · simp
    · simp [toD_ins k v r]
theorem toD_del (d : Dir) (k : Nm) : (toD d).del (.string k) = toD (ddel d k) := by
  simp only [toD, DataW.del, ddel, List.filter_map]
  rfl
theorem toD_put (d : Dir) (k : Nm) (v : Nat) : (toD d).put (.string k) (idLit v) = toD (dput d k v) := by
  simp only [toD, DataW.put, dput, toD_ins, ddel, List.filter_map]
  rfl
theorem toD_has (d : Dir) (k : Nm) : Maps.has (toD d) (.string k) = (dget d k).isSome := by
  simp only [toD, Maps.has_eq, dget, List.any_map, Option.isSome_map]
  induction d with
  | nil => rfl
  | cons p r ih =>
    rw [List.any_cons, List.find?_cons]
    show (p.1 == k || _) = _
    cases p.1 == k
    · simpa using ih
    · simp
theorem toD_at (d : Dir) (k : Nm) (z : DataW Unit) : (toD d).atKey (.string k) z = match dget d k with | some i => idLit i | none => z := by
  simp only [toD, DataW.atKey, dget, List.find?_map]
  have e : ((fun p : Lit × DataW Unit => p.1.sameKey (.string k)) ∘ ent) = fun p => p.1 == k := rfl
  rw [e]
  cases d.find? (fun p => p.1 == k) <;> rfl
theorem toD_size (d : Dir) : Maps.size (toD d) = d.length := by simp [toD, Maps.size_eq]
theorem toD_keys (d : Dir) : strKeys (toD d) = d.map (·.1) := by simp [toD, strKeys, ent, strOf, Function.comp_def]

theorem length_dins (k : Nm) (v : Nat) : ∀ d : Dir, (dins k v d).length = d.length + 1
  | [] => rfl
  | p :: r => by
    simp only [dins]
    split
    · simp
    · simp [length_dins k v r]
theorem length_ddel (d : Dir) (k : Nm) : (ddel d k).length ≤ d.length := List.length_filter_le _ _
theorem length_dput (d : Dir) (k : Nm) (v : Nat) : (dput d k v).length ≤ d.length + 1 := by
  have := length_ddel d k
  unfold dput
  rw [length_dins]
  omega
theorem mem_dins (k : Nm) (v : Nat) (p : Nm × Nat) : ∀ d : Dir, p ∈ dins k v d ↔ p = (k, v) ∨ p ∈ d
  | [] => by simp [dins]
  | q :: r => by
    simp only [dins]
    split
    · simp
    · simp only [List.mem_cons, mem_dins k v p r]
      constructor <;> (rintro (h | h | h) <;> simp [h])
theorem mem_ddel {d : Dir} {k : Nm} {p : Nm × Nat} : p ∈ ddel d k ↔ p ∈ d ∧ p.1 ≠ k := by simp [ddel]
theorem mem_dput {d : Dir} {k : Nm} {v : Nat} {p : Nm × Nat} : p ∈ dput d k v ↔ p = (k, v) ∨ p ∈ d ∧ p.1 ≠ k := by rw [dput, mem_dins, mem_ddel]
theorem dget_mem {d : Dir} {k : Nm} {i : Nat} (h : dget d k = some i) : (k, i) ∈ d := by
  unfold dget at h
  simp only [Option.map_eq_some_iff] at h
  obtain ⟨p, hp, rfl⟩ := h
  have h1 := List.mem_of_find?_eq_some hp
  have h2 := List.find?_some hp
  simp at h2
  rw [← h2]
  exact h1

inductive Ch where
  | create (k : Nm) (i : Nat)
  | rename (a b : Nm)
  | remove (k : Nm)
def Ch.eff : Ch → Dir → Dir
  | .create k i, d => dput d k i
  | .rename a b, d => ddel (dput d b ((dget d a).getD 0)) a
  | .remove k, d => ddel d k
/-- A change may be done: there is room, and what is renamed is there. -/
def Ch.ok : Ch → Dir → Prop
  | .rename a b, d => (dget d a).isSome = true ∧ (Ch.eff (.rename a b) d).length ≤ 64
  | c, d => (c.eff d).length ≤ 64
def okAll : Dir → List Ch → Prop
  | _, [] => True
  | d, c :: r => c.ok d ∧ okAll (c.eff d) r
def effAll (d : Dir) (l : List Ch) : Dir := l.foldl (fun d c => c.eff d) d
theorem Ch.ok_len {c : Ch} {d : Dir} (h : c.ok d) : (c.eff d).length ≤ 64 := by
  cases c with
  | create k i => exact h
  | rename a b => exact h.2
  | remove k => exact h
theorem okAll_len : ∀ (l : List Ch) (d : Dir) (n : Nat), okAll d l → d.length ≤ 64 → (effAll d (l.take n)).length ≤ 64
  | [], d, n, _, hl => by simpa [effAll] using hl
  | c :: r, d, 0, _, hl => by simpa [effAll] using hl
  | c :: r, d, n + 1, h, _ => okAll_len r (c.eff d) n h.2 (Ch.ok_len h.1)
theorem okAll_take : ∀ (l : List Ch) (d : Dir) (n : Nat), okAll d l → okAll d (l.take n)
  | [], _, n, _ => by cases n <;> trivial
  | _ :: _, _, 0, _ => trivial
  | c :: r, d, n + 1, h => ⟨h.1, okAll_take r _ n h.2⟩
theorem okAll_snoc : ∀ (l : List Ch) (d : Dir) (c : Ch), okAll d l → c.ok (effAll d l) → okAll d (l ++ [c])
  | [], _, _, _, h => ⟨h, trivial⟩
  | _ :: r, _, c, h, h' => ⟨h.1, okAll_snoc r _ c h.2 h'⟩
theorem effAll_snoc (l : List Ch) (d : Dir) (c : Ch) : effAll d (l ++ [c]) = c.eff (effAll d l) := by simp [effAll]
/-- The k-th change of a good row may be done behind those ahead. -/
theorem okAll_at : ∀ (l : List Ch) (d : Dir) (k : Nat) (c : Ch), okAll d l → l[k]? = some c → c.ok (effAll d (l.take k))
  | [], _, _, _, _, h => by simp at h
  | _ :: _, _, 0, c, h, e => by simp at e; subst e; exact h.1
  | _ :: r, _, k + 1, c, h, e => okAll_at r _ k c h.2 (by simpa using e)

structure St where
  room : Nat
  now : Dir
  old : Dir
  chs : List Ch
  acts : Nat
  fuse : Int
  down : Bool
  ids : List Nat
  dat : Nat → Nm
  syn : Nat → Nat
  mid : Bool := false

def Ch.idOk (ids : List Nat) : Ch → Prop
  | .create _ i => i ∈ ids
  | _ => True

theorem idOk_eff {ids : List Nat} {c : Ch} {d : Dir} (hc : c.idOk ids) (ho : c.ok d) (hd : ∀ p ∈ d, p.2 ∈ ids) : ∀ p ∈ c.eff d, p.2 ∈ ids := by
  intro p hp
  cases c with
  | create k i =>
    rcases mem_dput.1 hp with e | e
    · rw [e]; exact hc
    · exact hd p e.1
  | rename a b =>
    obtain ⟨i, hi⟩ := Option.isSome_iff_exists.1 ho.1
    have h1 := (mem_ddel.1 hp).1
    rw [hi] at h1
    rcases mem_dput.1 h1 with e | e
    · have h2 := hd _ (dget_mem hi)
      rw [e]; exact h2
    · exact hd p e.1
  | remove k => exact hd p (mem_ddel.1 hp).1
theorem idOk_all {ids : List Nat} : ∀ (l : List Ch) (d : Dir) (n : Nat), okAll d l → (∀ c ∈ l, c.idOk ids) → (∀ p ∈ d, p.2 ∈ ids) → ∀ p ∈ effAll d (l.take n), p.2 ∈ ids
  | [], d, n, _, _, hd => by simpa [effAll] using hd
  | c :: r, d, 0, _, _, hd => by simpa [effAll] using hd
  | c :: r, d, n + 1, h, hc, hd => idOk_all r (c.eff d) n h.2 (fun x hx => hc x (by simp [hx])) (idOk_eff (hc c (by simp)) h.1 hd)

structure WF (s : St) : Prop where
  now_id : ∀ p ∈ s.now, p.2 ∈ s.ids
  old_id : ∀ p ∈ s.old, p.2 ∈ s.ids
  chs_id : ∀ c ∈ s.chs, c.idOk s.ids
  fit : ∀ i ∈ s.ids, s.syn i ≤ (s.dat i).length ∧ (s.dat i).length ≤ 262144
  nnow : s.now.length ≤ 64
  nold : s.old.length ≤ 64
  okc : okAll s.old s.chs
  eff : s.mid = false → effAll s.old s.chs = s.now
  room : s.room ≤ 9223372036854775807
  fuse1 : -1 ≤ s.fuse
  fuse2 : s.fuse ≤ 9223372036854775807

def fileAt (w : World) (i : Nat) (v : Value) (d : Nm) (n : Nat) : Prop := Blk w i 114 #[v, .int .i64 n] ∧ w.ownsRow 0 5 1 v d.length (d.map byteV)
def chRep (w : World) (F : Nat → Prop) (v : Value) : Ch → Prop
  | .create k i => ∃ bf bk, v = .func (.func 109) #[] #[at0 bf, at0 bk] ∧ Blk w bf 112 #[at0 i] ∧ Blk w bk 9 #[encStr k] ∧ F bf ∧ F bk ∧ k.length ≤ 281474976710656
  | .rename a b => ∃ ba bb, v = .func (.func 130) #[] #[at0 ba, at0 bb] ∧ Blk w ba 9 #[encStr a] ∧ Blk w bb 9 #[encStr b] ∧ F ba ∧ F bb ∧ a.length ≤ 281474976710656 ∧ b.length ≤ 281474976710656
  | .remove k => ∃ bk, v = .func (.func 136) #[] #[at0 bk] ∧ Blk w bk 9 #[encStr k] ∧ F bk ∧ k.length ≤ 281474976710656

abbrev dirAt (w : World) (b : Nat) (d : Dir) : Prop := w.ownsMap Tryz.prog 9 ptrElem b 300 (toD d)

structure IsDisk (w : World) (F : Nat → Prop) (b : Nat) (s : St) (bn bo : Nat) (cv : Value) (cls : List Value) (fv : Nat → Value) : Prop where
  wf : WF s
  blk : Blk w b 119 #[.int .i64 s.room, .map (some bn), .map (some bo), cv, .int .i64 s.acts, .int .i64 s.fuse, .bool s.down]
  now : dirAt w bn s.now
  old : dirAt w bo s.old
  nob : bn ≠ bo
  row : w.ownsRow 0 140 1 cv s.chs.length cls
  reps : ∀ (j : Nat) (v : Value) (c : Ch), cls[j]? = some v → s.chs[j]? = some c → chRep w F v c
  files : ∀ i ∈ s.ids, fileAt w i (fv i) (s.dat i) (s.syn i)
  apart : ∀ i ∈ s.ids, ∀ j ∈ s.ids, i ≠ j → ∀ g, (fv i).ownBlock = some g → (fv j).ownBlock ≠ some g
  fb : F b
  fn : F bn
  fo : F bo
  fc : ∀ g, cv.ownBlock = some g → F g
  fi : ∀ i ∈ s.ids, F i
  fd : ∀ i ∈ s.ids, ∀ g, (fv i).ownBlock = some g → F g
  lt : ∀ i, F i → i < w.heap.size

def Disk (w : World) (F : Nat → Prop) (b : Nat) (s : St) : Prop := ∃ bn bo cv cls fv, IsDisk w F b s bn bo cv cls fv

theorem Blk.same {w w' : World} {g : Nat} {t : TypeId} {cs : Array Value} (h : Blk w g t cs) (e : w'.heap[g]? = w.heap[g]?) : Blk w' g t cs := e.trans h
theorem chRep.frame {w w' : World} {F F' : Nat → Prop} {v : Value} {c : Ch} (h : chRep w F v c) (hF : ∀ i, F i → F' i) (hb : ∀ i, F i → w'.heap[i]? = w.heap[i]?) : chRep w' F' v c := by
  cases c with
  | create k i =>
    obtain ⟨bf, bk, e, h1, h2, f1, f2, hl⟩ := h
    exact ⟨bf, bk, e, h1.same (hb _ f1), h2.same (hb _ f2), hF _ f1, hF _ f2, hl⟩
  | rename a b =>
    obtain ⟨bf, bk, e, h1, h2, f1, f2, hl⟩ := h
    exact ⟨bf, bk, e, h1.same (hb _ f1), h2.same (hb _ f2), hF _ f1, hF _ f2, hl⟩
  | remove k =>
    obtain ⟨bk, e, h1, f1, hl⟩ := h
    exact ⟨bk, e, h1.same (hb _ f1), hF _ f1, hl⟩
theorem fileAt.frame {w w' : World} {i : Nat} {v : Value} {d : Nm} {n : Nat} (h : fileAt w i v d n) (h1 : w'.heap[i]? = w.heap[i]?) (h2 : ∀ g, v.ownBlock = some g → w'.heap[g]? = w.heap[g]?) : fileAt w' i v d n :=
  ⟨h.1.same h1, ownsRow_block h.2 h2⟩
/-- What lies outside F may turn. -/
theorem IsDisk.frame {w w' : World} {F : Nat → Prop} {b : Nat} {s : St} {bn bo : Nat} {cv : Value} {cls : List Value} {fv : Nat → Value} (h : IsDisk w F b s bn bo cv cls fv)
    (hb : ∀ i, F i → w'.heap[i]? = w.heap[i]?) (hs : w.heap.size ≤ w'.heap.size) : IsDisk w' F b s bn bo cv cls fv where
  wf := h.wf
  blk := h.blk.same (hb _ h.fb)
  now := ownsMap_block h.now (hb _ h.fn)
  old := ownsMap_block h.old (hb _ h.fo)
  nob := h.nob
  row := ownsRow_block h.row fun g hg => hb g (h.fc g hg)
  reps := fun j v c h1 h2 => (h.reps j v c h1 h2).frame (fun _ hi => hi) hb
  files := fun i hi => (h.files i hi).frame (hb _ (h.fi i hi)) fun g hg => hb g (h.fd i hi g hg)
  apart := h.apart
  fb := h.fb
  fn := h.fn
  fo := h.fo
  fc := h.fc
  fi := h.fi
  fd := h.fd
  lt := fun i hi => Nat.lt_of_lt_of_le (h.lt i hi) hs
theorem IsDisk.more {w : World} {F F' : Nat → Prop} {b : Nat} {s : St} {bn bo : Nat} {cv : Value} {cls : List Value} {fv : Nat → Value} (h : IsDisk w F b s bn bo cv cls fv)
    (hF : ∀ i, F i → F' i) (hl : ∀ i, F' i → i < w.heap.size) : IsDisk w F' b s bn bo cv cls fv :=
  { h with
    reps := fun j v c h1 h2 => (h.reps j v c h1 h2).frame hF (fun _ _ => rfl)
    fb := hF _ h.fb
    fn := hF _ h.fn
    fo := hF _ h.fo
    fc := fun g hg => hF _ (h.fc g hg)
    fi := fun i hi => hF _ (h.fi i hi)
    fd := fun i hi g hg => hF _ (h.fd i hi g hg)
    lt := hl }
/-- F, and what is new. -/
def Own (F : Nat → Prop) (w w' : World) (i : Nat) : Prop := F i ∨ (w.heap.size ≤ i ∧ i < w'.heap.size)
theorem Own.sub {F : Nat → Prop} {w w' : World} : ∀ i, Own F w w' i → F i ∨ w.heap.size ≤ i := fun _ h => h.imp id (·.1)
theorem Disk.frame {w w' : World} {F : Nat → Prop} {b : Nat} {s : St} (h : Disk w F b s) (hb : ∀ i, F i → w'.heap[i]? = w.heap[i]?) (hs : w.heap.size ≤ w'.heap.size) : Disk w' F b s := by
  obtain ⟨bn, bo, cv, cls, fv, hd⟩ := h
  exact ⟨bn, bo, cv, cls, fv, hd.frame hb hs⟩
theorem Disk.kept {w w' : World} {F G : Nat → Prop} {b : Nat} {s : St} (h : Disk w F b s) (hk : Kept G w w') (hn : ∀ i, F i → ¬ G i) : Disk w' F b s := by
  have hlt : ∀ i, F i → i < w.heap.size := by obtain ⟨bn, bo, cv, cls, fv, hd⟩ := h; exact hd.lt
  exact h.frame (fun i hi => hk.block i (hlt i hi) (hn i hi)) hk.size
theorem Disk.alloc {w : World} {F : Nat → Prop} {b : Nat} {s : St} (h : Disk w F b s) (o : Obj) : Disk (w.alloc o) F b s :=
  h.kept ((Kept.refl (fun _ => False) w).alloc o) (fun _ _ => id)
theorem Disk.drew {w : World} {F : Nat → Prop} {b : Nat} {s : St} (h : Disk w F b s) : Disk w.drew F b s := h.frame (fun _ _ => rfl) (Nat.le_refl _)
theorem Disk.drewN {w : World} {F : Nat → Prop} {b : Nat} {s : St} (h : Disk w F b s) (n : Nat) : Disk (w.drewN n) F b s := h.frame (fun _ _ => rfl) (Nat.le_refl _)
end Go.Proofs.YtmhiekbpmoikfaaGreatDoor
namespace Go.Proofs.YtmhiekbpmoikfaaGreatDoor
open Go.RowKit Go.Maps Go.WideMaps

/-- The cells of a row of entries. -/
def entCells : Dir → List Value
  | [] => []
  | p :: r => encStr p.1 :: .int .i64 p.2 :: entCells r
theorem entCells_app (d e : Dir) : entCells (d ++ e) = entCells d ++ entCells e := by
  induction d with
  | nil => rfl
  | cons p r ih => simp [entCells, ih]
theorem entCells_len (d : Dir) : (entCells d).length = d.length * 2 := by
  induction d with
  | nil => rfl
  | cons p r ih => simp only [entCells, List.length_cons, ih]; omega
theorem entCells_at : ∀ (d : Dir) (i : Nat) (p : Nm × Nat), d[i]? = some p → (entCells d)[i * 2]? = some (encStr p.1) ∧ (entCells d)[i * 2 + 1]? = some (.int .i64 p.2)
  | q :: r, 0, p, h => by
    simp at h
    subst h
    exact ⟨rfl, rfl⟩
  | q :: r, i + 1, p, h => by
    have := entCells_at r i p (by simpa using h)
    simpa [entCells, Nat.add_mul] using this
/-- A directory that can be read. -/
structure DirIn (w : World) (A : Option Addr) (n : Nat) (d : Dir) : Prop where
  len : d.length = n
  fit : n ≤ 1099511627776
  nil : A = none → n = 0
  cells : ∀ ad, A = some ad → ∀ (i : Nat) (p : Nm × Nat), d[i]? = some p → w.cell? (ad.add (i * 2)) = some (encStr p.1) ∧ w.cell? ⟨(ad.add (i * 2)).block, (ad.add (i * 2)).off + 1, none⟩ = some (.int .i64 p.2)
theorem DirIn.keep {w w' : World} {A : Option Addr} {n : Nat} {d : Dir} (h : DirIn w A n d) (hb : ∀ ad, A = some ad → 0 < n → w'.heap[ad.block]? = w.heap[ad.block]?) : DirIn w' A n d :=
  ⟨h.len, h.fit, h.nil, fun ad e i p hp => by
    obtain ⟨h1, h2⟩ := h.cells ad e i p hp
    have hn : 0 < n := by have := (List.getElem?_eq_some_iff.1 hp).1; have := h.len; omega
    have hb2 : (ad.add (i * 2)).block = ad.block := by unfold Addr.add; split <;> rfl
    exact ⟨(World.cell?_of_block (by rw [hb2]; exact hb ad e hn)).trans h1, (World.cell?_of_block (w := w) (w' := w') (a := ⟨(ad.add (i * 2)).block, (ad.add (i * 2)).off + 1, none⟩) (by rw [show (⟨(ad.add (i * 2)).block, (ad.add (i * 2)).off + 1, none⟩ : Addr).block = ad.block from hb2]; exact hb ad e hn)).trans h2⟩⟩
theorem DirIn.lt {w : World} {A : Option Addr} {n : Nat} {d : Dir} (h : DirIn w A n d) : ∀ ad, A = some ad → 0 < n → ad.block < w.heap.size := fun ad e hn => by
  have hp : d[0]? = some (d[0]'(by rw [h.len]; exact hn)) := List.getElem?_eq_getElem _
  have h1 := (h.cells ad e 0 _ hp).1
  have h2 := World.block_lt_of_cell? w _ h1
  have hb2 : (ad.add (0 * 2)).block = ad.block := by unfold Addr.add; split <;> rfl
  rw [hb2] at h2
  exact h2
theorem DirIn.below {w w' : World} {A : Option Addr} {n : Nat} {d : Dir} (h : DirIn w A n d) (hb : Below w.heap.size w w') : DirIn w' A n d :=
  h.keep fun ad e hn => hb.block _ (h.lt ad e hn)
theorem DirIn.drewN {w : World} {A : Option Addr} {n : Nat} {d : Dir} (h : DirIn w A n d) (q : Nat) : DirIn (w.drewN q) A n d := h.keep fun _ _ _ => rfl
theorem DirIn.empty (w : World) : DirIn w none 0 [] := ⟨rfl, by omega, fun _ => rfl, fun ad e => by cases e⟩
theorem DirIn.own {w : World} {base : Nat} {A : Option Addr} {n c : Nat} {d : Dir} (h : w.ownsRow base 127 2 (.slice A n c) n (entCells d)) (hl : d.length = n) (hf : n ≤ 1099511627776) : DirIn w A n d := by
  refine ⟨hl, hf, fun e => ?_, fun ad e i p hp => ?_⟩
  · rcases h.2 with ⟨_, h0⟩ | ⟨g, cap, cur, h1, _⟩
    · exact h0
    · injection h1 with h1
      rw [h1] at e; cases e
  · obtain ⟨c1, c2⟩ := entCells_at d i p hp
    have hi := (List.getElem?_eq_some_iff.1 hp).1
    rcases h.2 with ⟨_, h0⟩ | ⟨g, cap, cur, hv, _⟩
    · omega
    · injection hv with hA hn _
      have e1 := h.cells (g := g) (by rw [hA]; rfl) _ _ c1
      have e2 := h.cells (g := g) (by rw [hA]; rfl) _ _ c2
      rw [hA] at e
      injection e with e
      subst e
      refine ⟨e1, ?_⟩
      rw [Addr.add_mid] at e2
      rw [Addr.add_mid]
      exact e2
theorem DirIn.at {w : World} {A : Option Addr} {n : Nat} {d : Dir} (h : DirIn w A n d) (k : Nat) (hk : k < n) : ∃ ad p, A = some ad ∧ d[k]? = some p ∧ w.cell? (ad.add (k * 2)) = some (.string ⟨p.1.toArray⟩) ∧ w.cell? ⟨(ad.add (k * 2)).block, (ad.add (k * 2)).off + 1, none⟩ = some (.int .i64 p.2) := by
  cases hA : A with
  | none => have := h.nil hA; omega
  | some ad =>
    subst hA
    have hp : d[k]? = some (d[k]'(by rw [h.len]; exact hk)) := List.getElem?_eq_getElem _
    obtain ⟨h1, h2⟩ := h.cells ad rfl k _ hp
    exact ⟨ad, _, rfl, hp, h1, h2⟩
theorem entInfo : (Tryz.prog.info? 127).map (fun i => (i.zero, i.size, i.bytes)) = some (some (.agg #[.string ⟨#[]⟩, .int .i64 0]), 2, 24) := by kernel_rfl
theorem take_snocD {α : Type} {l : List α} {k : Nat} {x : α} (h : l[k]? = some x) : l.take (k + 1) = l.take k ++ [x] := by
  rw [List.take_add_one, h]
  rfl
/-- Where a name stands; below 0: nowhere. -/
def dfind (d : Dir) (k : Nm) : Int := match d.findIdx? (fun p => p.1 == k) with | some i => i | none => -1

set_option maxHeartbeats 4000000 in
set_option maxRecDepth 100000 in
theorem r1find_any (w : World) (A : Option Addr) (n c : Nat) (d : Dir) (hd : DirIn w A n d) (nm : ByteArray) :
    Calls Tryz.prog 77 #[.slice A n c, .string nm] w fun e w' => e = .returned (.int .i64 (dfind d nm.data.toList)) ∧ w' = w := by
  have HD := Lib.hid hd
  have hfit := hd.fit
  clear hd
  obtain ⟨k0, rfl⟩ : ∃ k0 : Nm, nm = ⟨k0.toArray⟩ := ⟨nm.data.toList, by simp⟩
  obtain ⟨R, hR⟩ : ∃ R, R = dfind d k0 := ⟨_, rfl⟩
  have hR' : R = dfind d (⟨k0.toArray⟩ : ByteArray).data.toList := by rw [hR]
  rw [← hR']
  have HR := Lib.hid hR
  clear hR hR'
  go_enter Tryz.func77, Tryz.ntmps77
  go_wp2
  go_loop [5] (fun i => ∃ k : Nat, k ≤ n ∧ i = .int .i64 k ∧ ∀ p ∈ d.take k, (p.1 == k0) = false) (fun i => n - (intOf i).toNat)
  case atStart => exact ⟨0, by omega, rfl, by simp⟩
  case round =>
    obtain ⟨k, hk, rfl, ht⟩ := hrel
    have HT := Lib.hid ht
    clear ht
    rcases Nat.lt_or_ge k n with hlt | hge
    · have hlt' : (k : Int) < (n : Int) := by omega
      have p0 : (0 : Int) ≤ (k : Int) := by omega
      obtain ⟨ad, ⟨pn, pf⟩, rfl, hp, c1, c2⟩ := HD.out.at k hlt
      have HP := Lib.hid hp
      clear hp c2
      by_cases he : pn = k0
      · subst he
        have hres : R = (k : Int) := by
          rw [HR.out]
          unfold dfind
          have : d.findIdx? (fun p => p.1 == pn) = some k := by
            rw [List.findIdx?_eq_some_iff_getElem]
            obtain ⟨h1, h2⟩ := List.getElem?_eq_some_iff.1 HP.out
            refine ⟨h1, by rw [h2]; simp, fun j hj => ?_⟩
            have := HT.out (d[j]'(by omega)) (by
              rw [List.mem_take_iff_getElem]
              exact ⟨j, by omega, rfl⟩)
            simpa using this
          rw [this]
        have HRES := Lib.hid hres
        clear hres
        go_wp2
        go_ret
        exact ⟨by rw [HRES.out]; rfl, rfl⟩
      · have hne : (pn == k0) = false := by simpa using he
        have HNE := Lib.hid hne
        clear he
        go_wp2
        go_round
        case rel =>
          refine ⟨k + 1, by omega, by go_num, fun p hp => ?_⟩
          rw [take_snocD HP.out] at hp
          rcases List.mem_append.1 hp with h | h
          · exact HT.out p h
          · rw [List.mem_singleton.1 h]; exact HNE.out
        case measure => simp [intOf]; omega
    · obtain rfl : k = n := by omega
      have hlz : ¬ ((k : Int) < (k : Int)) := by omega
      have hres : R = -1 := by
        rw [HR.out]
        unfold dfind
        have : d.findIdx? (fun p => p.1 == k0) = none := by
          rw [List.findIdx?_eq_none_iff]
          intro p hp
          have := HT.out p (by rw [List.take_of_length_le (by rw [HD.out.len]; exact Nat.le_refl _)]; exact hp)
          simpa using this
        rw [this]
      have HRES := Lib.hid hres
      clear hres
      go_wp2
      go_ret
      exact ⟨by rw [HRES.out]; rfl, rfl⟩
end Go.Proofs.YtmhiekbpmoikfaaGreatDoor
namespace Go.Proofs.YtmhiekbpmoikfaaGreatDoor
open Go.RowKit Go.Maps Go.WideMaps

theorem strLaw : Keyed Tryz.prog 9 := string_keyed Tryz.underlying9
theorem zeroPtr (w : World) : (zeroValue 112).run Tryz.prog w = .ok (.pointer none) w := by kernel_rfl
def ptrOf : Option Nat → Value
  | some i => at0 i
  | none => .pointer none
theorem keyStr {nm : ByteArray} (hn : nm.size ≤ maxLen) : keyOf Tryz.prog 9 (.string nm) = some (.string nm.data.toList) := keyOf_string_mk Tryz.underlying9 hn
/-- A look-up with 'ok' in a directory. -/
theorem look_ok {w : World} {bn : Nat} {d : Dir} (h : dirAt w bn d) {nm : ByteArray} (hn : nm.size ≤ maxLen) :
    (Instr.lookup 116 (.map (some bn)) (.string nm) true).run Tryz.prog w = .ok (.tuple #[ptrOf (dget d nm.data.toList), .bool (dget d nm.data.toList).isSome]) w := by
  obtain ⟨v, ps, hrun, hv⟩ := h.look_ok strLaw Tryz.underlying116 (zeroPtr _) (zd := .lit (.bool false)) (zp := []) rfl (keyStr hn)
  rw [toD_has] at hrun
  rw [toD_at] at hv
  rw [hrun]
  cases hg : dget d nm.data.toList with
  | none =>
    rw [hg] at hv
    have : v = .pointer none := by
      unfold ptrElem at hv
      split at hv
      · simp [DataW.lit.injEq] at hv
      · rfl
      · cases hv
    rw [this]; rfl
  | some i =>
    rw [hg] at hv
    rw [ptrElem_inv hv]; rfl
theorem look_at {w : World} {bn : Nat} {d : Dir} (h : dirAt w bn d) {nm : ByteArray} (hn : nm.size ≤ maxLen) :
    (Instr.lookup 116 (.map (some bn)) (.string nm) false).run Tryz.prog w = .ok (ptrOf (dget d nm.data.toList)) w := by
  obtain ⟨v, ps, hrun, hv⟩ := h.lookup strLaw Tryz.underlying116 (zeroPtr _) (zd := .lit (.bool false)) (zp := []) rfl (keyStr hn)
  rw [toD_at] at hv
  rw [hrun]
  cases hg : dget d nm.data.toList with
  | none =>
    rw [hg] at hv
    have : v = .pointer none := by
      unfold ptrElem at hv
      split at hv
      · simp [DataW.lit.injEq] at hv
      · rfl
      · cases hv
    rw [this]; rfl
  | some i =>
    rw [hg] at hv
    rw [ptrElem_inv hv]; rfl

set_option maxHeartbeats 400000 in
theorem has_any {w : World} {F : Nat → Prop} {b : Nat} {s : St} (hD : Disk w F b s) (nm : ByteArray) (hn : nm.size ≤ maxLen) :
    Calls Tryz.prog 72 #[at0 b, .string nm] w fun e w' => e = .returned (.bool (dget s.now nm.data.toList).isSome) ∧ w = w' := by
  obtain ⟨bn, bo, cv, cls, fv, hd⟩ := hD
  have hl := look_ok hd.now hn
  have hc := hd.blk.cell 1
  simp at hc
  unfold at0
  go_enter Tryz.func72, Tryz.ntmps72
  go_wp2
  go_ret
  exact ⟨rfl, rfl⟩

set_option maxHeartbeats 400000 in
theorem acts_any {w : World} {F : Nat → Prop} {b : Nat} {s : St} (hD : Disk w F b s) :
    Calls Tryz.prog 38 #[at0 b] w fun e w' => e = .returned (.int .i64 s.acts) ∧ w = w' := by
  obtain ⟨bn, bo, cv, cls, fv, hd⟩ := hD
  have hc := hd.blk.cell 4
  simp at hc
  unfold at0
  go_enter Tryz.func38, Tryz.ntmps38
  go_wp2
  go_ret
  exact ⟨rfl, rfl⟩

set_option maxHeartbeats 400000 in
theorem down_any {w : World} {F : Nat → Prop} {b : Nat} {s : St} (hD : Disk w F b s) :
    Calls Tryz.prog 39 #[at0 b] w fun e w' => e = .returned (.bool s.down) ∧ w = w' := by
  obtain ⟨bn, bo, cv, cls, fv, hd⟩ := hD
  have hc := hd.blk.cell 6
  simp at hc
  unfold at0
  go_enter Tryz.func39, Tryz.ntmps39
  go_wp2
  go_ret
  exact ⟨rfl, rfl⟩

def okByte (c : Nat) : Bool := decide (97 ≤ c) && decide (c ≤ 122) || decide (48 ≤ c) && decide (c ≤ 57) || decide (c = 46)

set_option maxHeartbeats 400000 in
theorem validByte_any (c : UInt8) (w : World) :
    Calls Tryz.prog 125 #[.int .u8 c.toNat] w fun e w' => e = .returned (.bool (okByte c.toNat)) ∧ w = w' := by
  by_cases h1 : 97 ≤ c.toNat <;> by_cases h2 : c.toNat ≤ 122 <;> by_cases h3 : 48 ≤ c.toNat <;> by_cases h4 : c.toNat ≤ 57 <;> by_cases h5 : c.toNat = 46 <;> try omega
  all_goals
    go_enter Tryz.func125, Tryz.ntmps125
    go_wp2
    go_ret
    (simp [okByte, h1, h2, h3, h4, h5]) <;> omega

set_option maxHeartbeats 400000 in
theorem part_neg (n m : Int) (w : World) (h : n < 0) :
    Calls Tryz.prog 101 #[.int .i64 n, .int .i64 m] w fun e w' => e = .returned (.int .i64 0) ∧ w = w' := by
  go_enter Tryz.func101, Tryz.ntmps101
  go_wp2
  go_ret
  exact ⟨rfl, rfl⟩

set_option maxHeartbeats 400000 in
theorem part_pos (n m : Nat) (w : World) (hm : m ≤ 1099511627776) (hn : n ≤ 9223372036854775807) :
    Calls Tryz.prog 101 #[.int .i64 n, .int .i64 m] w fun e w' => e = .returned (.int .i64 ((n % (m + 1) : Nat) : Int)) ∧ w = w' := by
  go_enter Tryz.func101, Tryz.ntmps101
  go_wp2
  go_ret
  exact ⟨rfl, rfl⟩

/-- 'part' as a function. -/
def partN (n : Int) (m : Nat) : Nat := if n < 0 then 0 else n.toNat % (m + 1)
theorem partN_le (n : Int) (m : Nat) : partN n m ≤ m := by
  unfold partN
  split
  · omega
  · have := Nat.mod_lt n.toNat (show 0 < m + 1 by omega)
    omega
theorem part_any (n : Int) (m : Nat) (w : World) (hm : m ≤ 1099511627776) (hn : n ≤ 9223372036854775807) :
    Calls Tryz.prog 101 #[.int .i64 n, .int .i64 m] w fun e w' => e = .returned (.int .i64 (partN n m)) ∧ w = w' := by
  by_cases h : n < 0
  · refine (part_neg n m w h).mono fun e w' ⟨he, hw⟩ => ⟨?_, hw⟩
    rw [he, partN, if_pos h]; rfl
  · obtain ⟨k, rfl⟩ := Int.eq_ofNat_of_zero_le (show 0 ≤ n by omega)
    refine (part_pos k m w hm (by omega)).mono fun e w' ⟨he, hw⟩ => ⟨?_, hw⟩
    rw [he, partN, if_neg h]
    simp

def okName (s : List UInt8) : Bool := decide (1 ≤ s.length) && decide (s.length ≤ 24) && s.all fun c => okByte c.toNat

theorem all_take_snoc (s : ByteArray) (k : Nat) (h : k < s.size) (p : UInt8 → Bool) : (s.data.toList.take (k + 1)).all p = ((s.data.toList.take k).all p && p s[k]) := by
  have e : s.data.toList.take (k + 1) = s.data.toList.take k ++ [s[k]] := by
    rw [List.take_succ_eq_append_getElem (by simpa using h)]; rfl
  rw [e, List.all_append]
  simp

set_option maxHeartbeats 400000 in
theorem validName_any (s : ByteArray) (w : World) (hs : s.size ≤ maxLen) :
    Calls Tryz.prog 71 #[.string s] w fun e w' => e = .returned (.bool (okName s.data.toList)) ∧ w = w' := by
  unfold maxLen at hs
  have hsz : s.data.toList.length = s.size := by simp
  by_cases h1 : s.size < 1
  · have hf : okName s.data.toList = false := by simp [okName, hsz]; omega
    rw [hf]
    clear hsz hf
    go_enter Tryz.func71, Tryz.ntmps71
    go_wp2
    go_ret
    exact ⟨rfl, rfl⟩
  by_cases h2 : 24 < s.size
  · have hf : okName s.data.toList = false := by simp [okName, hsz]; omega
    rw [hf]
    clear hsz hf
    go_enter Tryz.func71, Tryz.ntmps71
    go_wp2
    go_ret
    exact ⟨rfl, rfl⟩
  have hall : okName s.data.toList = s.data.toList.all fun c => okByte c.toNat := by simp [okName, hsz]; omega
  have HALL := Lib.hid hall; clear hall
  have HSZ := Lib.hid hsz; clear hsz
  go_enter Tryz.func71, Tryz.ntmps71
  go_wp2
  go_loop [14] (fun i => ∃ k : Nat, k ≤ s.size ∧ i = .int .i64 k ∧ ((s.data.toList.take k).all fun c => okByte c.toNat) = true) (fun i => s.size - (intOf i).toNat)
  case atStart => exact ⟨0, Nat.zero_le _, rfl, by simp⟩
  case round =>
    obtain ⟨k, hk, rfl, hp⟩ := hrel
    have HP := Lib.hid hp; clear hp
    by_cases hlt : k < s.size
    · have hsn := Lib.hid (all_take_snoc s k hlt fun c => okByte c.toNat)
      cases hb : okByte (s[k]).toNat
      · have HB := Lib.hid hb
        go_wp2_with (go_at_call 125; refine (validByte_any _ _).mono ?_; rintro e w' ⟨rfl, rfl⟩; rw [HB.out])
        go_ret
        refine ⟨?_, rfl⟩
        rw [HALL.out, ← List.take_append_drop (k + 1) s.data.toList, List.all_append, hsn.out, HP.out, HB.out]; rfl
      · have HB := Lib.hid hb
        go_wp2_with (go_at_call 125; refine (validByte_any _ _).mono ?_; rintro e w' ⟨rfl, rfl⟩; rw [HB.out])
        go_round
        case rel => exact ⟨k + 1, by omega, by go_num, by rw [hsn.out, HP.out, HB.out]; rfl⟩
        case measure => simp [intOf]; omega
    · go_wp2
      go_ret
      refine ⟨?_, rfl⟩
      have e : s.data.toList.take k = s.data.toList := List.take_of_length_le (by rw [HSZ.out]; omega)
      have h := HP.out
      rw [e] at h
      rw [HALL.out, h]; rfl
end Go.Proofs.YtmhiekbpmoikfaaGreatDoor
namespace Go.Proofs.YtmhiekbpmoikfaaGreatDoor
open Go.RowKit Go.Maps

set_option maxHeartbeats 4000000 in
set_option maxRecDepth 100000 in
theorem litClone_any (s : ByteArray) (w : World) (hlim : s.size ≤ 281474976710656) :
    Calls Tryz.prog 148 #[.string s] w fun e w' => e = .returned (.string s) ∧ Below w.heap.size w w' := by
  by_cases h0 : s.size = 0
  · have hs : s = ⟨#[]⟩ := by
      apply ByteArray.ext
      exact Array.eq_empty_of_size_eq_zero h0
    subst hs
    go_enter Tryz.func148, Tryz.ntmps148
    go_wp2
    go_ret
    exact ⟨rfl, Below.refl _ _⟩
  · obtain ⟨i0, hi, hz0, hz1, hz2⟩ := info_parts byteInfo
    have hinfo : (Tryz.prog.info? 5).map (·.size) = some 1 := by rw [hi]; simp [hz1]
    have hco : Tryz.prog.cellsOf 5 = 1 := by simp [Program.cellsOf, hi, hz1]
    obtain ⟨M, hM⟩ : ∃ M, M = madeCells (Value.int .u8 0).cells (((s.size : Nat) : Int).toNat * i0.size) := ⟨_, rfl⟩
    have hMs : M.size = s.size := by rw [hM, size_madeCells, hz1]; simp
    have hmk : ∀ W : World, (Instr.makeSlice 25 (.int .i64 (s.size : Int)) (.int .i64 (s.size : Int))).run Tryz.prog W = .ok (.slice (some ⟨W.heap.size, 0, none⟩) s.size s.size) (W.alloc (.cells M 5)) := fun W => by
      have h := run_make (P := Tryz.prog) W 25 5 i0 (.int .u8 0) Tryz.underlying25 hi hz0 .i64 .i64 (s.size : Int) (s.size : Int) (by omega) (by omega) (by rw [hz2]; omega) (by omega)
      rw [← hM] at h
      simpa using h
    clear hM
    have hcp := Lib.run_copy_row_string (P := Tryz.prog) (w.alloc (.cells M 5)) 25 9 3 5 w.heap.size 0 s.size s.size s M 5 Tryz.underlying25 hinfo (heap_alloc_new w _) (Nat.le_refl _) (by omega)
    obtain ⟨Y, hY⟩ : ∃ Y, Y = (M.toList.take 0 ++ Lib.byteCells s.data.toList ++ M.toList.drop (0 + s.size)).toArray := ⟨_, rfl⟩
    rw [← hY] at hcp
    have hYl : Y.toList = Lib.byteCells s.data.toList := by
      rw [hY, List.toList_toArray, List.take_zero, List.nil_append, List.drop_of_length_le (by rw [Array.length_toList]; omega), List.append_nil]
    have hYs : Y.size = s.size := by rw [← Array.length_toList, hYl, Lib.byteCells_length, ← Lib.size_eq]
    have hgY : ((w.alloc (.cells M 5)).setRow w.heap.size Y).heap[w.heap.size]? = some (.cells Y 5 (0, 0)) := setRow_heap _ _ M _ 5 (0, 0) (heap_alloc_new w _)
    have hne : s.data.toList ≠ [] := fun e => h0 (by rw [Lib.size_eq, e]; rfl)
    have hUS := Lib.run_unsafeString_row (P := Tryz.prog) ((w.alloc (.cells M 5)).setRow w.heap.size Y) 185 3 9 5 Tryz.underlying185 hco w.heap.size Y.size (by unfold World.shape?; rw [hgY]) s.data.toList hne (by rw [← Lib.size_eq]; omega) (by rw [← Lib.size_eq]; omega)
      (fun j x hx => Lib.cells_of_row hgY Y.size j _ (by rw [List.take_of_length_le (by rw [Array.length_toList]; exact Nat.le_refl _), hYl]; simp [Lib.byteCells, hx]))
    rw [← Lib.size_eq] at hUS
    clear hY
    go_enter Tryz.func148, Tryz.ntmps148
    go_wp2
    go_ret
    have hb1 : Below w.heap.size w (w.alloc (.cells M 5)) := (Below.refl _ w).alloc (Nat.le_refl _) _
    have hb2 : Below w.heap.size (w.alloc (.cells M 5)) ((w.alloc (.cells M 5)).setRow w.heap.size Y) := ⟨rfl, rfl, rfl, by simp, fun k hk => setRow_other _ _ _ _ (by omega)⟩
    exact ⟨rfl, Lib.below_freeze (hb1.trans hb2) (p := ⟨w.heap.size, 0, none⟩) (Nat.le_refl _) _⟩

set_option maxHeartbeats 400000 in
theorem strClone_any (s : ByteArray) (w : World) (hlim : s.size ≤ 281474976710656) :
    Calls Tryz.prog 126 #[.string s] w fun e w' => e = .returned (.string s) ∧ Below w.heap.size w w' := by
  go_enter Tryz.func126, Tryz.ntmps126
  go_wp2_with (go_at_call 148; refine (litClone_any s _ hlim).mono ?_; rintro e w' ⟨rfl, hb⟩)
  go_ret
  exact ⟨rfl, hb⟩

set_option maxHeartbeats 400000 in
theorem ownName_any (s : ByteArray) (w : World) (hlim : s.size ≤ 281474976710656) :
    Calls Tryz.prog 74 #[.string s] w fun e w' => e = .returned (.string s) ∧ Below w.heap.size w w' := by
  go_enter Tryz.func74, Tryz.ntmps74
  go_wp2_with (go_at_call 126; refine (strClone_any s _ hlim).mono ?_; rintro e w' ⟨rfl, hb⟩)
  go_ret
  exact ⟨rfl, hb⟩

set_option maxHeartbeats 2000000 in
set_option maxRecDepth 100000 in
theorem mapsClone_any (b : Nat) (es : Array MapEntry) (clock : Nat) (w : World) (hb : w.heap[b]? = some (.map es clock)) :
    Calls Tryz.prog 127 #[.map (some b)] w fun e w' => e = .returned (.map (some w.heap.size)) ∧ w' = w.alloc (.map es clock) := by
  have hq := fun w => run_eql_map_nil_sl (P := Tryz.prog) w 116 _ _ (some b) Tryz.underlying116
  go_enter Tryz.func127, Tryz.ntmps127
  go_wp2
  rw [run_callFunc_extern Tryz.func149 (by kernel_rfl) (by kernel_rfl) (by kernel_rfl) (e := Extern.MapsClone.clone) (by kernel_rfl), run_maps_clone_sl w 116 hb]
  simp only [Result.andThen]
  rw [Oper.upon_value]
  go_wp2
  rw [run_typeAssert_map_sl _ 116 20 _ _ _ Tryz.underlying116]
  simp only [Result.andThen]
  rw [Oper.upon_value]
  go_wp2
  go_ret
  exact ⟨rfl, rfl⟩

theorem dirClone_any (b : Nat) (d : Dir) (w : World) (h : dirAt w b d) :
    Calls Tryz.prog 127 #[.map (some b)] w fun e w' => e = .returned (.map (some w.heap.size)) ∧ dirAt w' w.heap.size d ∧ w'.heap.size = w.heap.size + 1 ∧ Below w.heap.size w w' := by
  obtain ⟨es, clock, hb, F, hs, hD⟩ := h
  refine (mapsClone_any b es clock w hb).mono fun e w' ⟨he, hw⟩ => ?_
  subst hw
  exact ⟨he, ⟨es, clock, (MapKept.heap_alloc w _).1, F, hs, hD⟩, by simp, (Below.refl _ w).alloc (Nat.le_refl _) _⟩

set_option maxHeartbeats 2000000 in
set_option maxRecDepth 100000 in
/-- bytes.Clone of a slice that is not nil. -/
theorem bytesClone_at (a : Addr) (n c : Nat) (xs : List Value) (w : World) (hx : xs.length = n) (hbig : n ≤ 140737488355328) (h1 : ∀ u ∈ xs, u.oneCell' = true) (hc : ∀ i u, xs[i]? = some u → w.cell? (a.add i) = some u) :
    Calls Tryz.prog 73 #[.slice (some a) n c] w fun e w' => ∃ v', e = .returned v' ∧ w'.ownsRow w.heap.size 5 1 v' n xs ∧ Below w.heap.size w w' := by
  obtain ⟨i0, hi, hz0, hz1, hz2⟩ := info_parts byteInfo
  have q22 : ∀ (w : World) (a : Option Addr) (n c n' c' : Nat), (binOp .eql 25 (.slice a n c) (.slice none n' c')).run Tryz.prog w = .ok (.bool a.isNone) w := fun w a n c n' c' => Lib.run_eql_slice_nil w _ _ a n c n' c' Tryz.underlying25
  have A := Lib.hid hc
  clear hc
  go_enter Tryz.func73, Tryz.ntmps73
  go_wp2_with (at_builtin; refine wpList_append_own _ rfl _ _ 25 rfl w.heap.size 5 i0 (.int .u8 0) 1 1 Tryz.underlying25 hi hz0 hz1 hz2 rfl (by decide) _ _ _ rfl (World.ownsRow_made w #[] 0 (Nat.le_refl _) (Nat.zero_le _) rfl) a n c xs rfl ?qc1 ?qc2 ?qc3 ?qc4 ?qc5 ?qc6 ?_)
  case qc1 => simp; omega
  case qc2 =>
    intro j u hj
    exact Lib.cell?_alloc_some _ (A.out j u hj)
  case qc3 => exact h1
  case qc4 => unfold maxLen; omega
  case qc5 => omega
  case qc6 => simp
  intro v' w1 hown hgrow hnil
  go_wp2
  go_ret
  refine ⟨v', rfl, by simpa using hown, ?_⟩
  exact ((Below.refl _ w).alloc (Nat.le_refl _) _).grown hgrow (by simp) (by intro k hk; simp [Value.ownBlock] at hk; omega)

set_option maxHeartbeats 1000000 in
theorem bytesClone_nil (n c : Nat) (w : World) :
    Calls Tryz.prog 73 #[.slice none n c] w fun e w' => e = .returned (.slice none 0 0) ∧ w = w' := by
  have q22 : ∀ (w : World) (a : Option Addr) (n c n' c' : Nat), (binOp .eql 25 (.slice a n c) (.slice none n' c')).run Tryz.prog w = .ok (.bool a.isNone) w := fun w a n c n' c' => Lib.run_eql_slice_nil w _ _ a n c n' c' Tryz.underlying25
  go_enter Tryz.func73, Tryz.ntmps73
  go_wp2
  go_ret
  exact ⟨rfl, rfl⟩
end Go.Proofs.YtmhiekbpmoikfaaGreatDoor
namespace Go.Proofs.YtmhiekbpmoikfaaGreatDoor
open Go.RowKit Go.Maps Go.Sort

theorem before_lt : ∀ a b : List UInt8, bytesBefore a b = true ↔ a < b
  | [], [] => by simp [bytesBefore]
  | [], _ :: _ => by simp [bytesBefore]
  | _ :: _, [] => by simp [bytesBefore]
  | a :: r, b :: s => by
    simp only [bytesBefore, Bool.or_eq_true, Bool.and_eq_true, beq_iff_eq, decide_eq_true_eq, before_lt r s, List.cons_lt_cons_iff]
end Go.Proofs.YtmhiekbpmoikfaaGreatDoor
namespace Go.Proofs.YtmhiekbpmoikfaaGreatDoor
open Go.RowKit Go.Maps Go.WideMaps

/-- A directory of the call's own. -/
def EntRow (w : World) (base : Nat) (v : Value) (d : Dir) : Prop := w.ownsRow base 127 2 v d.length (entCells d)
theorem ddel_snoc (d : Dir) (k : Nm) (p : Nm × Nat) : ddel (d ++ [p]) k = ddel d k ++ (if p.1 == k then [] else [p]) := by
  unfold ddel
  rw [List.filter_append]
  congr 1
  by_cases h : (p.1 == k) = true
  · simp [h]
  · simp [h]
theorem ent_cells_new (w : World) (k : Nm) (j : Nat) : ∀ i u, ([.string ⟨k.toArray⟩, .int .i64 j] : List Value)[i]? = some u → (w.alloc (.cells #[.string ⟨k.toArray⟩, .int .i64 j] 127)).cell? ((⟨w.heap.size, 0, none⟩ : Addr).add i) = some u := by
  intro i u hu
  rw [Addr.add_mid, cell_of_row _ _ _ _ _ _ (heap_alloc_new w _)]
  simpa using hu
theorem ent_one (k : Nm) (j : Nat) : ∀ u ∈ ([.string ⟨k.toArray⟩, .int .i64 j] : List Value), u.oneCell' = true := by
  intro u hu
  simp at hu
  rcases hu with rfl | rfl <;> rfl
theorem EntRow.snoc {w : World} {base : Nat} {v : Value} {d : Dir} {k : Nm} {j m : Nat} (h : w.ownsRow base 127 2 v (m + 1) (entCells d ++ [.string ⟨k.toArray⟩, .int .i64 j])) (hm : d.length = m) : EntRow w base v (d ++ [(k, j)]) := by
  unfold EntRow
  rw [entCells_app, List.length_append, hm]
  exact h

set_option maxHeartbeats 4000000 in
set_option maxRecDepth 100000 in
theorem r1without_any (w : World) (A : Option Addr) (n c : Nat) (d : Dir) (hd : DirIn w A n d) (k0 : Nm) :
    Calls Tryz.prog 128 #[.slice A n c, .string ⟨k0.toArray⟩] w fun e w' => ∃ v, e = .returned v ∧ EntRow w' w.heap.size v (ddel d k0) ∧ Below w.heap.size w w' := by
  obtain ⟨i0, hi, hz0, hz1, hz2⟩ := info_parts entInfo
  have HD := Lib.hid hd
  have hfit := hd.fit
  clear hd
  go_enter Tryz.func128, Tryz.ntmps128
  go_wp2
  go_loopw [5, 6] (fun v i wr => ∃ k : Nat, k ≤ n ∧ i = .int .i64 k ∧ EntRow wr w.heap.size v (ddel (d.take k) k0) ∧ Below w.heap.size w wr) (fun _ i _ => n - (intOf i).toNat)
  case atStart => exact ⟨0, by omega, rfl, ⟨rfl, .inl ⟨rfl, rfl⟩⟩, Below.refl _ _⟩
  case round =>
    obtain ⟨k, hk, rfl, hE, hB⟩ := hrel
    have HE := Lib.hid hE
    have HB := Lib.hid hB
    clear hE hB
    rcases Nat.lt_or_ge k n with hlt | hge
    · have hlt' : (k : Int) < (n : Int) := by omega
      have p0 : (0 : Int) ≤ (k : Int) := by omega
      obtain ⟨ad, ⟨pn, pf⟩, rfl, hp, c1, c2⟩ := (HD.out.below HB.out).at k hlt
      have HP := Lib.hid hp
      clear hp
      simp only at c1 c2
      have hstep : ddel (d.take (k + 1)) k0 = ddel (d.take k) k0 ++ (if pn == k0 then [] else [(pn, pf)]) := by rw [take_snocD HP.out, ddel_snoc]
      by_cases he : pn = k0
      · subst he
        rw [if_pos (by simp), List.append_nil] at hstep
        have HS := Lib.hid hstep
        clear hstep
        go_wp2
        go_roundw
        case rel => exact ⟨k + 1, by omega, by go_num, by rw [HS.out]; exact HE.out, HB.out⟩
        case measure => simp [intOf]; omega
      · have hne : (pn == k0) = false := by simpa using he
        rw [if_neg (by simpa using he)] at hstep
        have HS := Lib.hid hstep
        clear hstep he
        obtain ⟨m, hm⟩ : ∃ m, (ddel (d.take k) k0).length = m := ⟨_, rfl⟩
        have hmk : m ≤ k := by rw [← hm]; exact Nat.le_trans (length_ddel _ _) (by simp; omega)
        have hown := HE.out
        unfold EntRow at hown
        rw [hm] at hown
        have HO := Lib.hid hown
        have HM := Lib.hid hm
        clear hown hm
        go_wp2_with (at_builtin; refine wpList_append_own _ rfl _ _ 61 rfl w.heap.size 127 i0 _ 2 24 Tryz.underlying61 hi hz0 hz1 hz2 rfl (by decide) _ m _ rfl (World.ownsRow.alloc HO.out _) ⟨wr.heap.size, 0, none⟩ 1 1 [.string ⟨pn.toArray⟩, .int .i64 pf] rfl rfl (ent_cells_new wr pn pf) (ent_one pn pf) (by unfold maxLen; omega) (by omega) (by have := HB.out.size; simp; omega) ?_; intro v4 w4 hown4 hgrow4 hnil4; clear hnil4)
        have HB4 := Lib.hid ((HB.out.alloc HB.out.size _).grown hgrow4 (by have := HB.out.size; simp; omega) (fun g hg => (HO.out.lt g hg).1))
        have HO4 := Lib.hid (EntRow.snoc hown4 HM.out)
        clear hown4 hgrow4
        go_roundw
        case rel => exact ⟨k + 1, by omega, by go_num, by rw [HS.out]; exact HO4.out, HB4.out⟩
        case measure => simp [intOf]; omega
    · obtain rfl : k = n := by omega
      have hlz : ¬ ((k : Int) < (k : Int)) := by omega
      have htk : d.take k = d := List.take_of_length_le (by rw [HD.out.len]; exact Nat.le_refl _)
      have hE := HE.out
      rw [htk] at hE
      have HE2 := Lib.hid hE
      clear htk hE
      go_wp2
      go_ret
      exact ⟨_, rfl, HE2.out, HB.out⟩
theorem before_total : ∀ a b : List UInt8, a ≠ b → bytesBefore a b = false → bytesBefore b a = true
  | [], [], h, _ => absurd rfl h
  | [], _ :: _, _, h => by simp [bytesBefore] at h
  | _ :: _, [], _, _ => by simp [bytesBefore]
  | a :: r, b :: s, hn, h => by
    simp only [bytesBefore, Bool.or_eq_false_iff, decide_eq_false_iff_not, Bool.and_eq_false_iff] at h
    simp only [bytesBefore, Bool.or_eq_true, Bool.and_eq_true, decide_eq_true_eq, beq_iff_eq]
    by_cases hab : a = b
    · subst hab
      refine .inr ⟨rfl, before_total r s (fun e => hn (by rw [e])) ?_⟩
      rcases h.2 with h2 | h2
      · simp at h2
      · exact h2
    · refine .inl ?_
      have h1 : ¬ a.toNat < b.toNat := fun e => h.1 (UInt8.lt_iff_toNat_lt.2 e)
      have h2 : a.toNat ≠ b.toNat := fun e => hab (UInt8.toNat_inj.1 e)
      exact UInt8.lt_iff_toNat_lt.2 (by omega)
theorem less_before (a b : List UInt8) : Op.bytesLess a b = bytesBefore a b := by
  rw [Go.Proofs.bytesLess_eq]
  cases h : bytesBefore a b with
  | true => simpa using (before_lt a b).1 h
  | false =>
    refine decide_eq_false fun e => ?_
    have h1 := (before_lt a b).2 e
    rw [h] at h1
    cases h1
theorem before_irrefl : ∀ a : List UInt8, bytesBefore a a = false
  | [] => rfl
  | a :: r => by simp [bytesBefore, before_irrefl r]
theorem before_asymm : ∀ a b : List UInt8, bytesBefore a b = true → bytesBefore b a = false := fun a b h => by
  cases h2 : bytesBefore b a with
  | false => rfl
  | true => exact absurd ((before_lt b a).1 h2) (List.lt_asymm ((before_lt a b).1 h))
/-- Behind what is not ahead of it. -/
theorem dins_step (k : Nm) (v : Nat) (p : Nm × Nat) (r : Dir) (h : bytesBefore k p.1 = false) : dins k v (p :: r) = p :: dins k v r := by
  simp only [dins]
  rw [if_neg (by rw [h]; exact Bool.false_ne_true)]
theorem dins_stop (k : Nm) (v : Nat) (p : Nm × Nat) (r : Dir) (h : bytesBefore k p.1 = true) : dins k v (p :: r) = (k, v) :: p :: r := by
  simp only [dins]
  rw [if_pos h]
theorem drop_cons {α : Type} {l : List α} {k : Nat} {x : α} (h : l[k]? = some x) : l.drop k = x :: l.drop (k + 1) := by
  obtain ⟨h1, h2⟩ := List.getElem?_eq_some_iff.1 h
  rw [← h2, List.getElem_cons_drop]
theorem EntRow.slice {w : World} {base : Nat} {v : Value} {d : Dir} (h : EntRow w base v d) : ∃ A c, v = .slice A d.length c := own_slice h

set_option maxHeartbeats 8000000 in
set_option maxRecDepth 100000 in
theorem r1with_any (w : World) (A : Option Addr) (n c : Nat) (d : Dir) (hd : DirIn w A n d) (k0 : Nm) (j : Nat) :
    Calls Tryz.prog 78 #[.slice A n c, .agg #[.string ⟨k0.toArray⟩, .int .i64 j]] w fun e w' => ∃ v, e = .returned v ∧ EntRow w' w.heap.size v (dput d k0 j) ∧ Below w.heap.size w w' := by
  obtain ⟨i0, hi, hz0, hz1, hz2⟩ := info_parts entInfo
  have HD := Lib.hid hd
  have hfit := hd.fit
  have hdl := length_ddel d k0
  rw [hd.len] at hdl
  clear hd
  go_enter Tryz.func78, Tryz.ntmps78
  go_wp2_with fail
  refine (r1without_any _ A n c d (HD.out.below ((Below.refl _ w).alloc (Nat.le_refl _) _)) k0).mono ?_
  rintro e w1 ⟨v1, rfl, hE, hB⟩
  obtain ⟨D, hD⟩ : ∃ D, D = ddel d k0 := ⟨_, rfl⟩
  obtain ⟨m, hm⟩ : ∃ m, m = D.length := ⟨_, rfl⟩
  rw [← hD] at hE hdl
  rw [← hm] at hdl
  obtain ⟨A1, c1, hv⟩ := hE.slice
  subst hv
  rw [← hm]
  have hb0 := (Below.refl w.heap.size w).alloc (Nat.le_refl _) (.cells #[.string ⟨k0.toArray⟩, .int .i64 j] 127)
  have HX1 := Lib.hid (Blk.below (Blk.new w 127 #[.string ⟨k0.toArray⟩, .int .i64 j]) hB (by simp))
  have HB := Lib.hid (below_then hb0 hB hb0.size)
  have hw1s : w.heap.size < w1.heap.size := by have := hB.size; simp at this; omega
  have HD1 := Lib.hid (DirIn.own (d := D) (n := m) (by have := hE; unfold EntRow at this; rw [← hm] at this; exact this) hm.symm (by omega))
  have HP := Lib.hid (show dput d k0 j = dins k0 j D by rw [hD]; rfl)
  have HNK := Lib.hid (show ∀ p ∈ D, p.1 ≠ k0 from fun p hp => by rw [hD] at hp; exact (mem_ddel.1 hp).2)
  have HML := Lib.hid hm
  clear hE hB hb0 hD hm HD
  go_wp2
  go_loopw [5, 6, 7] (fun v dn i wr => ∃ (k : Nat) (O : Dir) (q : Bool), k ≤ m ∧ i = .int .i64 k ∧ dn = .bool q ∧ (q = false → O = D.take k ∧ dins k0 j D = D.take k ++ dins k0 j (D.drop k)) ∧ (q = true → O ++ D.drop k = dins k0 j D) ∧ O.length ≤ k + 1 ∧ EntRow wr w1.heap.size v O ∧ Below w1.heap.size w1 wr) (fun _ _ i _ => m - (intOf i).toNat)
  case atStart => exact ⟨0, [], false, by omega, rfl, rfl, fun _ => ⟨rfl, rfl⟩, (fun h => by cases h), by simp, ⟨rfl, .inl ⟨rfl, rfl⟩⟩, Below.refl _ _⟩
  case round =>
    obtain ⟨k, O, q, hk, rfl, rfl, hq0, hq1, hOl, hE, hB⟩ := hrel
    have HE := Lib.hid hE
    have HB2 := Lib.hid hB
    have HQ0 := Lib.hid hq0
    have HQ1 := Lib.hid hq1
    have HBw := Lib.hid (below_then HB.out hB HB.out.size)
    have hx := HX1.out.below hB hw1s
    have x0 := hx.cell 0
    have x1 := hx.cell 1
    simp at x0 x1
    obtain ⟨o, ho⟩ : ∃ o, O.length = o := ⟨_, rfl⟩
    have hown := HE.out
    unfold EntRow at hown
    rw [ho] at hown hOl
    have HO := Lib.hid hown
    have HOL := Lib.hid ho
    clear hE hB hq0 hq1 hx hown ho
    rcases Nat.lt_or_ge k m with hlt | hge
    · have hlt' : (k : Int) < (m : Int) := by omega
      have p0 : (0 : Int) ≤ (k : Int) := by omega
      obtain ⟨ad, ⟨pn, pf⟩, rfl, hp, c1', c2'⟩ := (HD1.out.below HB2.out).at k hlt
      have HPP := Lib.hid hp
      clear hp
      simp only at c1' c2'
      have hdc := drop_cons HPP.out
      have HDC := Lib.hid hdc
      clear hdc
      cases q with
      | true =>
        have hq := HQ1.out rfl
        have HQ := Lib.hid hq
        clear hq
        go_wp2_with fail
        go_quiet (fail)
        go_wp2_with (at_builtin; refine wpList_append_own _ rfl _ _ 61 rfl w1.heap.size 127 i0 _ 2 24 Tryz.underlying61 hi hz0 hz1 hz2 rfl (by decide) _ o _ rfl (World.ownsRow.alloc (w := wr.drewN nq) HO.out _) ⟨(wr.drewN nq).heap.size, 0, none⟩ 1 1 [.string ⟨pn.toArray⟩, .int .i64 pf] rfl rfl (ent_cells_new (wr.drewN nq) pn pf) (ent_one pn pf) (by unfold maxLen; omega) (by omega) (by have := HB2.out.size; simp; omega) ?_; intro v4 w4 hown hgrow hnil; clear hnil; have HB4 := Lib.hid ((((below_drewN HB2.out nq).alloc HB2.out.size _).grown hgrow (by have := HB2.out.size; simp; omega) (fun g hg => (HO.out.lt g hg).1))); have HO4 := Lib.hid (EntRow.snoc hown HOL.out); clear hown hgrow)
        go_roundw
        case rel =>
          refine ⟨k + 1, O ++ [(pn, pf)], true, by omega, by go_num, rfl, (fun h => by cases h), fun _ => ?_, by rw [List.length_append, HOL.out]; simp; omega, HO4.out, HB4.out⟩
          have := HQ.out
          rw [HDC.out] at this
          rw [List.append_assoc]
          exact this
        case measure => simp [intOf]; omega
      | false =>
        have hq := HQ0.out rfl
        have HQ := Lib.hid hq
        clear hq
        by_cases hb : bytesBefore k0 pn = true
        · have g1 : Op.bytesLess pn k0 = false := by rw [less_before]; exact before_asymm _ _ hb
          have g2 : (pn == k0) = false := by simpa using HNK.out (pn, pf) (List.mem_of_getElem? HPP.out)
          go_wp2_with fail
          go_quiet (fail)
          go_wp2_with (first
            | (at_builtin; refine wpList_append_own _ rfl _ _ 61 rfl w1.heap.size 127 i0 _ 2 24 Tryz.underlying61 hi hz0 hz1 hz2 rfl (by decide) _ o _ rfl (World.ownsRow.alloc (w := wr.drewN nq) HO.out _) ⟨(wr.drewN nq).heap.size, 0, none⟩ 1 1 [.string ⟨k0.toArray⟩, .int .i64 j] rfl rfl (ent_cells_new (wr.drewN nq) k0 j) (ent_one k0 j) (by unfold maxLen; omega) (by omega) (by have := HB2.out.size; simp; omega) ?_; intro v4 w4 hown hgrow hnil; clear hnil; have HB4 := Lib.hid ((((below_drewN HB2.out nq).alloc HB2.out.size _).grown hgrow (by have := HB2.out.size; simp; omega) (fun g hg => (HO.out.lt g hg).1))); have HO4 := Lib.hid (EntRow.snoc hown HOL.out); have hsz4 : w1.heap.size ≤ w4.heap.size := HB4.out.size; obtain ⟨ad', p', e1, e2, f1, f2⟩ := (HD1.out.below HB4.out).at k hlt; cases e1; rw [HPP.out] at e2; cases e2; simp only at f1 f2; have hO5 : w4.ownsRow w1.heap.size 127 2 v4 (o + 1) (entCells (O ++ [(k0, j)])) := (by have h := HO4.out; unfold EntRow at h; rw [List.length_append, HOL.out] at h; exact h); have HO5 := Lib.hid hO5; clear hown hgrow hO5)
            | (at_builtin; refine wpList_append_own _ rfl _ _ 61 rfl w1.heap.size 127 i0 _ 2 24 Tryz.underlying61 hi hz0 hz1 hz2 rfl (by decide) _ (o + 1) _ rfl (World.ownsRow.alloc (w := w4) HO5.out _) ⟨(w4).heap.size, 0, none⟩ 1 1 [.string ⟨pn.toArray⟩, .int .i64 pf] rfl rfl (ent_cells_new (w4) pn pf) (ent_one pn pf) (by unfold maxLen; omega) (by omega) (by simp; omega) ?_; intro v5 w5 hown hgrow hnil; clear hnil; have HB5 := Lib.hid ((HB4.out.alloc HB4.out.size _).grown hgrow (by simp; omega) (fun g hg => (HO5.out.lt g hg).1)); have HO6 := Lib.hid (EntRow.snoc (d := O ++ [(k0, j)]) hown (by rw [List.length_append, HOL.out]; rfl)); clear hown hgrow))
          go_roundw
          case rel =>
            refine ⟨k + 1, O ++ [(k0, j)] ++ [(pn, pf)], true, by omega, by go_num, rfl, (fun h => by cases h), fun _ => ?_, ?_, HO6.out, HB5.out⟩
            · obtain ⟨h1, h2⟩ := HQ.out
              rw [h2, HDC.out, dins_stop _ _ _ _ hb, h1]
              simp
            · rw [List.length_append, List.length_append, HOL.out]
              obtain ⟨h1, _⟩ := HQ.out
              have h3 := HOL.out
              rw [h1, List.length_take] at h3
              simp only [List.length_cons, List.length_nil]
              omega
          case measure => simp [intOf]; omega
        · have hb' : bytesBefore k0 pn = false := by simpa using hb
          have g1 : Op.bytesLess pn k0 = true := by
            rw [less_before]
            exact before_total _ _ (fun e => HNK.out (pn, pf) (List.mem_of_getElem? HPP.out) e.symm) hb'
          clear hb
          go_wp2_with fail
          go_quiet (fail)
          go_wp2_with (at_builtin; refine wpList_append_own _ rfl _ _ 61 rfl w1.heap.size 127 i0 _ 2 24 Tryz.underlying61 hi hz0 hz1 hz2 rfl (by decide) _ o _ rfl (World.ownsRow.alloc (w := wr.drewN nq) HO.out _) ⟨(wr.drewN nq).heap.size, 0, none⟩ 1 1 [.string ⟨pn.toArray⟩, .int .i64 pf] rfl rfl (ent_cells_new (wr.drewN nq) pn pf) (ent_one pn pf) (by unfold maxLen; omega) (by omega) (by have := HB2.out.size; simp; omega) ?_; intro v4 w4 hown hgrow hnil; clear hnil; have HB4 := Lib.hid ((((below_drewN HB2.out nq).alloc HB2.out.size _).grown hgrow (by have := HB2.out.size; simp; omega) (fun g hg => (HO.out.lt g hg).1))); have HO4 := Lib.hid (EntRow.snoc hown HOL.out); clear hown hgrow)
          go_roundw
          case rel =>
            refine ⟨k + 1, O ++ [(pn, pf)], false, by omega, by go_num, rfl, fun _ => ?_, (fun h => by cases h), by rw [List.length_append, HOL.out]; simp; omega, HO4.out, HB4.out⟩
            obtain ⟨h1, h2⟩ := HQ.out
            rw [h1, take_snocD HPP.out]
            refine ⟨rfl, ?_⟩
            rw [h2, HDC.out, dins_step _ _ _ _ hb']
            simp
          case measure => simp [intOf]; omega
    · obtain rfl : k = m := by omega
      have hlz : ¬ ((k : Int) < (k : Int)) := by omega
      cases q with
      | true =>
        have hfin : O = dput d k0 j := by
          have := HQ1.out rfl
          rw [List.drop_of_length_le (by rw [← HML.out]; exact Nat.le_refl _), List.append_nil] at this
          rw [HP.out]; exact this
        have HF := Lib.hid hfin
        clear hfin
        go_wp2
        go_ret
        exact ⟨_, rfl, by rw [← HF.out]; exact Go.Joins.ownsRow_le HE.out (by omega), HBw.out⟩
      | false =>
        have hfin : O ++ [(k0, j)] = dput d k0 j := by
          obtain ⟨h1, h2⟩ := HQ0.out rfl
          rw [HP.out, h2, h1, List.drop_of_length_le (by rw [← HML.out]; exact Nat.le_refl _)]
          rfl
        have HF := Lib.hid hfin
        clear hfin
        go_wp2_with (at_builtin; refine wpList_append_own _ rfl _ _ 61 rfl w1.heap.size 127 i0 _ 2 24 Tryz.underlying61 hi hz0 hz1 hz2 rfl (by decide) _ o _ rfl (World.ownsRow.alloc (w := wr) HO.out _) ⟨(wr).heap.size, 0, none⟩ 1 1 [.string ⟨k0.toArray⟩, .int .i64 j] rfl rfl (ent_cells_new (wr) k0 j) (ent_one k0 j) (by unfold maxLen; omega) (by omega) (by have := HB2.out.size; simp; omega) ?_; intro v4 w4 hown hgrow hnil; clear hnil; have HB4 := Lib.hid (((HB2.out.alloc HB2.out.size _).grown hgrow (by have := HB2.out.size; simp; omega) (fun g hg => (HO.out.lt g hg).1))); have HO4 := Lib.hid (EntRow.snoc hown HOL.out); clear hown hgrow)
        go_ret
        exact ⟨_, rfl, by rw [← HF.out]; exact Go.Joins.ownsRow_le HO4.out (by omega), below_then HB.out HB4.out HB.out.size⟩

/-- A change as the document keeps it. -/
structure RCh where
  frm : Nm
  to : Nm
  file : Nat
def RCh.val (c : RCh) : Value := .agg #[.string ⟨c.frm.toArray⟩, .string ⟨c.to.toArray⟩, .int .i64 c.file]
def RCh.eff (c : RCh) (d : Dir) : Dir :=
  if c.to = [] then (if c.frm = [] then d else ddel d c.frm) else dput (if c.frm = [] then d else ddel d c.frm) c.to c.file
/-- A directory that a call answers: a new one, or the one that came. -/
def DirOut (w : World) (A : Option Addr) (d0 d : Dir) (e : Ending) (w' : World) : Prop :=
  ∃ A' c', e = .returned (.slice A' d.length c') ∧ DirIn w' A' d.length d ∧ (A' = A ∧ d = d0 ∨ ∀ ad, A' = some ad → w.heap.size ≤ ad.block) ∧ Below w.heap.size w w'
theorem EntRow.out {w w' : World} {v : Value} {d : Dir} (h : EntRow w' w.heap.size v d) (hl : d.length ≤ 1099511627776) : ∃ A' c', v = .slice A' d.length c' ∧ DirIn w' A' d.length d ∧ ∀ ad, A' = some ad → w.heap.size ≤ ad.block := by
  obtain ⟨A', c', rfl⟩ := h.slice
  refine ⟨A', c', rfl, DirIn.own h rfl hl, fun ad e => ?_⟩
  exact (World.ownsRow.lt h ad.block (by rw [e]; rfl)).1

set_option maxHeartbeats 8000000 in
set_option maxRecDepth 100000 in
theorem r1changed_any (w : World) (A : Option Addr) (n c : Nat) (d : Dir) (hd : DirIn w A n d) (hn : n ≤ 1000000) (x : RCh) :
    Calls Tryz.prog 105 #[.slice A n c, x.val] w (DirOut w A d (x.eff d)) := by
  have HD := Lib.hid hd
  have hln := hd.len
  have HLN := Lib.hid hln
  obtain ⟨frm, to, file⟩ := x
  unfold RCh.val RCh.eff
  simp only
  clear hd hln
  have hB0 := (Below.refl w.heap.size w).alloc (Nat.le_refl _) (.cells #[.string ⟨frm.toArray⟩, .string ⟨to.toArray⟩, .int .i64 file] 137)
  have HD0 := Lib.hid (HD.out.below hB0)
  by_cases hf : frm = []
  · subst hf
    rw [if_pos rfl]
    by_cases ht : to = []
    · subst ht
      rw [if_pos rfl]
      go_enter Tryz.func105, Tryz.ntmps105
      go_wp2
      go_ret
      exact ⟨A, c, by rw [HLN.out]; rfl, by rw [HLN.out]; exact HD0.out, .inl ⟨rfl, rfl⟩, hB0⟩
    · rw [if_neg ht]
      have ht1 : (to == []) = false := by simpa using ht
      have HT := Lib.hid ht
      clear ht
      have HB0 := Lib.hid hB0
      clear hB0
      go_enter Tryz.func105, Tryz.ntmps105
      go_wp2_with fail
      refine (r1with_any _ A n c d HD0.out to file).mono ?_
      rintro e w2 ⟨v, rfl, hE, hB⟩
      have hl := length_dput d to file
      obtain ⟨A', c', rfl, h1, h2⟩ := EntRow.out hE (by rw [HLN.out] at hl; omega)
      have B2 := Lib.hid (below_then HB0.out hB HB0.out.size)
      have H1 := Lib.hid h1
      have H2 := Lib.hid h2
      clear hE hB h1 h2
      go_wp2
      go_ret
      refine ⟨A', c', rfl, H1.out, ?_, B2.out⟩
      exact .inr fun ad e => by have := H2.out ad e; simp at this; omega
  · rw [if_neg hf]
    have hf1 : (frm == []) = false := by simpa using hf
    have hl1 := length_ddel d frm
    rw [HLN.out] at hl1
    have HB0 := Lib.hid hB0
    have HX0 := Lib.hid (Blk.new w 137 #[.string ⟨frm.toArray⟩, .string ⟨to.toArray⟩, .int .i64 file])
    clear hf hB0
    by_cases ht : to = []
    · subst ht
      rw [if_pos rfl]
      go_enter Tryz.func105, Tryz.ntmps105
      go_wp2_with fail
      refine (r1without_any _ A n c d HD0.out frm).mono ?_
      rintro e w2 ⟨v, rfl, hE, hB⟩
      obtain ⟨A', c', rfl, h1, h2⟩ := EntRow.out hE (by omega)
      have B2 := Lib.hid (below_then HB0.out hB HB0.out.size)
      have hx := HX0.out.below hB (by simp)
      have x1 := hx.cell 1
      simp at x1
      have H1 := Lib.hid h1
      have H2 := Lib.hid h2
      clear hE hB h1 h2 hx
      go_wp2
      go_ret
      refine ⟨A', c', rfl, H1.out, ?_, B2.out⟩
      exact .inr fun ad e => by have := H2.out ad e; simp at this; omega
    · rw [if_neg ht]
      have ht1 : (to == []) = false := by simpa using ht
      clear ht
      go_enter Tryz.func105, Tryz.ntmps105
      go_wp2_with fail
      refine (r1without_any _ A n c d HD0.out frm).mono ?_
      rintro e w2 ⟨v, rfl, hE, hB⟩
      obtain ⟨A', c', rfl, h1, h2⟩ := EntRow.out hE (by omega)
      have B2 := Lib.hid (below_then HB0.out hB HB0.out.size)
      have hx := HX0.out.below hB (by simp)
      have x1 := hx.cell 1
      have x2 := hx.cell 2
      simp at x1 x2
      have H1 := Lib.hid h1
      obtain ⟨m, hm⟩ : ∃ m, (ddel d frm).length = m := ⟨_, rfl⟩
      rw [hm] at H1 hl1 ⊢
      clear hE hB h1 h2 hx
      go_wp2_with fail
      refine (r1with_any _ A' m c' (ddel d frm) H1.out to file).mono ?_
      rintro e w3 ⟨v, rfl, hE, hB⟩
      have hl := length_dput (ddel d frm) to file
      obtain ⟨A3, c3, rfl, h3, h4⟩ := EntRow.out hE (by rw [hm] at hl; omega)
      have B3 := Lib.hid (below_then B2.out hB B2.out.size)
      have hs2 := B2.out.size
      have H3 := Lib.hid h3
      have H4 := Lib.hid h4
      clear hE hB h3 h4
      go_wp2
      go_ret
      refine ⟨A3, c3, rfl, H3.out, ?_, B3.out⟩
      exact .inr fun ad e => by have := H4.out ad e; omega
end Go.Proofs.YtmhiekbpmoikfaaGreatDoor
namespace Go.Proofs.YtmhiekbpmoikfaaGreatDoor
open Go.RowKit Go.Maps Go.WideMaps

set_option maxHeartbeats 1000000 in
set_option maxRecDepth 100000 in
theorem Right_any (s : ByteArray) (w : World) (hs : s.size ≤ maxLen) :
    Calls Tryz.prog 50 #[.string s] w fun e w' => e = .returned (.bool (okName s.data.toList)) ∧ w = w' := by
  unfold maxLen at hs
  have hsz : s.data.toList.length = s.size := by simp
  by_cases h1 : s.size < 1
  · have hf : okName s.data.toList = false := by simp [okName, hsz]; omega
    rw [hf]
    clear hsz hf
    go_enter Tryz.func50, Tryz.ntmps50
    go_wp2
    go_ret
    exact ⟨rfl, rfl⟩
  by_cases h2 : 24 < s.size
  · have hf : okName s.data.toList = false := by simp [okName, hsz]; omega
    rw [hf]
    clear hsz hf
    go_enter Tryz.func50, Tryz.ntmps50
    go_wp2
    go_ret
    exact ⟨rfl, rfl⟩
  have hall : okName s.data.toList = s.data.toList.all fun c => okByte c.toNat := by simp [okName, hsz]; omega
  have HALL := Lib.hid hall; clear hall
  have HSZ := Lib.hid hsz; clear hsz
  go_enter Tryz.func50, Tryz.ntmps50
  go_wp2
  go_loop [3] (fun i => ∃ k : Nat, k ≤ s.size ∧ i = .int .i64 k ∧ ((s.data.toList.take k).all fun c => okByte c.toNat) = true) (fun i => s.size - (intOf i).toNat)
  case atStart => exact ⟨0, Nat.zero_le _, rfl, by simp⟩
  case round =>
    obtain ⟨k, hk, rfl, hp⟩ := hrel
    have HP := Lib.hid hp; clear hp
    by_cases hlt : k < s.size
    · have hsn := Lib.hid (all_take_snoc s k hlt fun c => okByte c.toNat)
      have key : ∀ b : Bool, okByte (s[k]).toNat = b → (b = false → okName s.data.toList = false) ∧ (b = true → ((s.data.toList.take (k + 1)).all fun c => okByte c.toNat) = true) := fun b hb => by
        refine ⟨fun e => ?_, fun e => by rw [hsn.out, HP.out, hb, e]; rfl⟩
        rw [HALL.out, ← List.take_append_drop (k + 1) s.data.toList, List.all_append, hsn.out, HP.out, hb, e]; rfl
      have KEY := Lib.hid key
      clear key
      by_cases h5 : (s[k]).toNat = 46
      · have hv : okByte (s[k]).toNat = true := by simp [okByte, h5]
        have KV := Lib.hid ((KEY.out _ hv).2 rfl)
        have t5 : (((s[k]).toNat : Int) != 46) = false := by simp; omega
        clear hv h5
        go_wp2
        go_round
        case rel => exact ⟨k + 1, by omega, by go_num, KV.out⟩
        case measure => simp [intOf]; omega
      · have t5 : (((s[k]).toNat : Int) != 46) = true := by simp; omega
        by_cases hL : (s[k]).toNat < 97 ∨ 122 < (s[k]).toNat
        · by_cases hD : (s[k]).toNat < 48 ∨ 57 < (s[k]).toNat
          · have hv : okByte (s[k]).toNat = false := by simp [okByte, h5]; omega
            have KV := Lib.hid ((KEY.out _ hv).1 rfl)
            clear hv h5
            rcases hL with hL | hL <;> rcases hD with hD | hD
            all_goals
              first | omega | skip
            all_goals
              go_wp2
              go_ret
              exact ⟨by rw [KV.out]; rfl, rfl⟩
          · have hv : okByte (s[k]).toNat = true := by simp [okByte]; omega
            have KV := Lib.hid ((KEY.out _ hv).2 rfl)
            have d1 : ¬ (s[k]).toNat < 48 := by omega
            have d2 : ¬ 57 < (s[k]).toNat := by omega
            clear hv h5 hD
            rcases hL with hL | hL
            all_goals
              first | omega | skip
            all_goals
              go_wp2
              go_round
              case rel => exact ⟨k + 1, by omega, by go_num, KV.out⟩
              case measure => simp [intOf]; omega
        · have hv : okByte (s[k]).toNat = true := by simp [okByte]; omega
          have KV := Lib.hid ((KEY.out _ hv).2 rfl)
          have d1 : ¬ (s[k]).toNat < 97 := by omega
          have d2 : ¬ 122 < (s[k]).toNat := by omega
          clear hv h5 hL
          go_wp2
          go_round
          case rel => exact ⟨k + 1, by omega, by go_num, KV.out⟩
          case measure => simp [intOf]; omega
    · go_wp2
      go_ret
      refine ⟨?_, rfl⟩
      have e : s.data.toList.take k = s.data.toList := List.take_of_length_le (by rw [HSZ.out]; omega)
      have h := HP.out
      rw [e] at h
      rw [HALL.out, h]; rfl

end Go.Proofs.YtmhiekbpmoikfaaGreatDoor
namespace Go.Proofs.YtmhiekbpmoikfaaGreatDoor

def filesOf (s : St) : List (Nm × Nm) := s.now.map fun p => (p.1, s.dat p.2)
end Go.Proofs.YtmhiekbpmoikfaaGreatDoor
