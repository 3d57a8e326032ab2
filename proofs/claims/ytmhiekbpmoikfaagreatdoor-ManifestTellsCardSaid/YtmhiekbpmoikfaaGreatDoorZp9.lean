/- The document's disk and the program's: one call keeps them alike. A disk of the call's own, step by step. What a call has just made is a row to read. What comes in: bytes and integers in slices, as lists; a crash. Calls that came in: a slice of Op, as a list; how much they are. Strings of slices. What one call of the laws' scripts comes to. Files: all of the directory's files, as a list of the call's own. -/
import Derived.Test.YtmhiekbpmoikfaaGreatDoorZp4
import Derived.Test.YtmhiekbpmoikfaaGreatDoorZp7
import Derived.Test.YtmhiekbpmoikfaaGreatDoorZp8
import Derived.Test.YtmhiekbpmoikfaaGreatDoorZp3
import Derived.Test.YtmhiekbpmoikfaaGreatDoorZp5
import Derived.Test.YtmhiekbpmoikfaaGreatDoorZp6
import Derived.WideAt
import Derived.WideShapes
import Derived.Laws.BytesString
import Derived.Laws.IdiomStrings
import Derived.Lib.SlBytesConst
import Derived.Lib.BufferRead
import Derived.LaidEqlPtr
import Derived.Test.YtmhiekbpmoikfaaGreatDoorRows
import Derived.ProofKit
import Derived.OpenShut
import Derived.ChangeOld
import Derived.Lib.SmallJoins
import Derived.Deep.Slices
import Derived.Deep.Fields
import Derived.ChangeSame
import Derived.Deep.QuietTactic
import Derived.BigQuiet
import Derived.SizedLaws
import Derived.Deep.MidRow
namespace Go.Proofs.YtmhiekbpmoikfaaGreatDoor
open Go.RowKit Go.Maps Go.WideMaps

theorem lt_trans' (x y z : Nm) (h : bytesBefore x y = true) (k : bytesBefore y z = true) : bytesBefore x z = true := Go.WideShapes.bytes_trans x y z h k
def Sorted (d : Dir) : Prop := d.Pairwise (fun p q => bytesBefore p.1 q.1 = true)
theorem sorted_dins (k : Nm) (v : Nat) : ∀ d : Dir, Sorted d → (∀ p ∈ d, p.1 ≠ k) → Sorted (dins k v d)
  | [], _, _ => List.pairwise_singleton _ _
  | p :: r, hs, hk => by
    obtain ⟨h1, h2⟩ := List.pairwise_cons.1 hs
    by_cases h : bytesBefore k p.1 = true
    · rw [dins_stop k v p r h]
      refine List.pairwise_cons.2 ⟨fun q hq => ?_, hs⟩
      rcases List.mem_cons.1 hq with e | e
      · rw [e]; exact h
      · exact lt_trans' _ _ _ h (h1 q e)
    · have h' : bytesBefore k p.1 = false := by simpa using h
      rw [dins_step k v p r h']
      refine List.pairwise_cons.2 ⟨fun q hq => ?_, sorted_dins k v r h2 fun q hq => hk q (List.mem_cons_of_mem _ hq)⟩
      rcases (mem_dins k v q r).1 hq with e | e
      · rw [e]; exact before_total k p.1 (fun e => hk p (List.mem_cons_self ..) e.symm) h'
      · exact h1 q e
/-- A directory in order, whose names are names, of n files. -/
structure Good (n : Nat) (d : Dir) : Prop where
  sorted : Sorted d
  mem : ∀ p ∈ d, p.1 ≠ [] ∧ p.2 < n
theorem Good.nil (n : Nat) : Good n [] := ⟨List.Pairwise.nil, fun p h => by cases h⟩
theorem Good.more {n m : Nat} {d : Dir} (h : Good n d) (hm : n ≤ m) : Good m d := ⟨h.sorted, fun p hp => ⟨(h.mem p hp).1, Nat.lt_of_lt_of_le (h.mem p hp).2 hm⟩⟩
theorem Good.del {n : Nat} {d : Dir} (h : Good n d) (k : Nm) : Good n (ddel d k) := ⟨h.sorted.filter _, fun p hp => h.mem p (mem_ddel.1 hp).1⟩
theorem Good.put {n : Nat} {d : Dir} (h : Good n d) {k : Nm} {v : Nat} (hk : k ≠ []) (hv : v < n) : Good n (dput d k v) :=
  ⟨sorted_dins k v _ (h.del k).sorted fun p hp => (mem_ddel.1 hp).2, fun p hp => by
    rcases mem_dput.1 hp with e | e
    · rw [e]; exact ⟨hk, hv⟩
    · exact h.mem p e.1⟩
theorem Good.eff {n : Nat} {d : Dir} (h : Good n d) {x : RCh} (hx : x.to = [] ∨ x.file < n) : Good n (x.eff d) := by
  unfold RCh.eff
  by_cases h1 : x.to = []
  · rw [if_pos h1]
    split
    · exact h
    · exact h.del _
  · rw [if_neg h1]
    have h2 : x.file < n := hx.resolve_left h1
    split
    · exact h.put h1 h2
    · exact (h.del _).put h1 h2
theorem dmap_congr {f g : Nat → Nat} {d : Dir} (h : ∀ p ∈ d, f p.2 = g p.2) : dmap f d = dmap g d := List.map_congr_left fun p hp => by rw [h p hp]
theorem sorted_dmap {f : Nat → Nat} {d : Dir} (h : Sorted d) : Sorted (dmap f d) := List.pairwise_map.2 h

/-- Both disks alike: f tells where the program's file lies that has the document's number. -/
structure Sim (s : St) (r : RSt) (f : Nat → Nat) : Prop where
  room : r.room = s.room
  len : r.chs.length = s.chs.length
  effr : rEffAll r.old r.chs = r.dir
  all : ∀ m, Good r.ino.length (rEffAll r.old (r.chs.take m)) ∧ dmap f (rEffAll r.old (r.chs.take m)) = effAll s.old (s.chs.take m)
  ids : ∀ j, j < r.ino.length → f j ∈ s.ids
  inj : ∀ i j, i < r.ino.length → j < r.ino.length → f i = f j → i = j
  dat : ∀ (j : Nat) (x : Nm × Nat), r.ino[j]? = some x → s.dat (f j) = x.1 ∧ s.syn (f j) = x.2
  acts : r.done = s.acts
  fuse : s.fuse = if r.fused = true then (r.left : Int) else -1
  off : r.off = s.down
section
variable {s : St} {r : RSt} {f : Nat → Nat}
theorem Sim.good (h : Sim s r f) : Good r.ino.length r.dir := by
  have := (h.all r.chs.length).1
  rw [List.take_length, h.effr] at this
  exact this
theorem Sim.effs (h : Sim s r f) : dmap f r.dir = effAll s.old s.chs := by
  have := (h.all r.chs.length).2
  rw [List.take_length, h.effr, h.len, List.take_length] at this
  exact this
theorem Sim.now (h : Sim s r f) (hw : WF s) (hm : s.mid = false) : dmap f r.dir = s.now := h.effs.trans (hw.eff hm)
theorem Sim.get (h : Sim s r f) (hw : WF s) (hm : s.mid = false) (k : Nm) : dget s.now k = (dget r.dir k).map f := by rw [← h.now hw hm, dget_dmap]
theorem Sim.at (h : Sim s r f) {k : Nm} {j : Nat} (hk : dget r.dir k = some j) : k ≠ [] ∧ j < r.ino.length := h.good.mem _ (dget_mem hk)
theorem Sim.datAt (h : Sim s r f) {j : Nat} (hj : j < r.ino.length) : rDat r j = s.dat (f j) := by
  have e := List.getElem?_eq_getElem hj
  rw [rDat_at e, (h.dat j _ e).1]
theorem Sim.sum (h : Sim s r f) (hw : WF s) (hm : s.mid = false) : rSum r r.dir = lenSum s.dat s.now := by
  rw [← h.now hw hm]
  unfold rSum lenSum dmap
  rw [List.map_map]
  congr 1
  refine List.map_congr_left fun p hp => ?_
  show _ = (s.dat (f p.2)).length
  rw [h.datAt (h.good.mem p hp).2]
theorem Sim.power (h : Sim s r f) : (rPower r).off = true ↔ s.fuse = 0 ∨ s.down = true := by
  unfold rPower
  simp only [Bool.or_eq_true, Bool.and_eq_true, beq_iff_eq, h.off, h.fuse]
  cases r.fused with
  | true => simp; exact Or.comm
  | false => simp
theorem Sim.offed (h : Sim s r f) (ho : (rPower r).off = true) : Sim { s with down := true } (rPower r) f :=
  { h with off := ho }
theorem Sim.did (h : Sim s r f) (hf : s.fuse ≠ 0) : Sim { s with acts := s.acts + 1, fuse := if 0 < s.fuse then s.fuse - 1 else s.fuse } (rDid r) f :=
  { h with
    acts := by show r.done + 1 = s.acts + 1; rw [h.acts]
    fuse := by
      have h1 := h.fuse
      show (if 0 < s.fuse then s.fuse - 1 else s.fuse) = if r.fused = true then (((if r.fused = true then r.left - 1 else r.left) : Nat) : Int) else -1
      cases hfu : r.fused with
      | true =>
        rw [hfu, if_pos rfl] at h1
        rw [if_pos (by omega), if_pos rfl, if_pos rfl]
        omega
      | false =>
        rw [hfu, if_neg (by simp)] at h1
        rw [if_neg (by omega), if_neg (by simp), h1] }
theorem Sim.change (h : Sim s r f) (hn : effAll s.old s.chs = s.now) (x : RCh) (c : Ch) (hx : x.to = [] ∨ x.file < r.ino.length) (he : dmap f (x.eff r.dir) = c.eff s.now) :
    Sim { s with now := c.eff s.now, chs := s.chs ++ [c] } { r with dir := x.eff r.dir, chs := r.chs ++ [x] } f :=
  { h with
    len := by simp [h.len]
    effr := by show rEffAll r.old (r.chs ++ [x]) = x.eff r.dir; rw [rEffAll_snoc, h.effr]
    all := fun m => by
      show Good r.ino.length (rEffAll r.old ((r.chs ++ [x]).take m)) ∧ dmap f (rEffAll r.old ((r.chs ++ [x]).take m)) = effAll s.old ((s.chs ++ [c]).take m)
      rcases Nat.lt_or_ge r.chs.length m with hm | hm
      · rw [List.take_of_length_le (by simp; omega), List.take_of_length_le (by simp; have := h.len; omega), rEffAll_snoc, effAll_snoc, h.effr, hn]
        exact ⟨h.good.eff hx, he⟩
      · rw [List.take_append_of_le_length hm, List.take_append_of_le_length (by have := h.len; omega)]
        exact h.all m }
theorem Sim.add (h : Sim s r f) {i : Nat} (hi : i ∉ s.ids) : Sim (s.addFile i) { r with ino := r.ino ++ [([], 0)] } (upd f r.ino.length i) :=
  { h with
    all := fun m => by
      obtain ⟨h1, h2⟩ := h.all m
      refine ⟨h1.more (by simp), ?_⟩
      refine (dmap_congr fun p hp => ?_).trans h2
      show upd f r.ino.length i p.2 = f p.2
      unfold upd
      rw [if_neg (by have := (h1.mem p hp).2; omega)]
    ids := fun j hj => by
      show upd f r.ino.length i j ∈ i :: s.ids
      unfold upd
      split
      · exact List.mem_cons_self ..
      · have : j < r.ino.length + 1 := by simpa using hj
        exact List.mem_cons_of_mem _ (h.ids j (by omega))
    inj := fun a b ha hb e => by
      have ha' : a < r.ino.length + 1 := by simpa using ha
      have hb' : b < r.ino.length + 1 := by simpa using hb
      unfold upd at e
      split at e
      · split at e
        · omega
        · exact absurd (e ▸ h.ids b (by omega)) hi
      · split at e
        · exact absurd (e.symm ▸ h.ids a (by omega)) hi
        · exact h.inj a b (by omega) (by omega) e
    dat := fun j x hx => by
      show upd s.dat i [] (upd f r.ino.length i j) = x.1 ∧ upd s.syn i 0 (upd f r.ino.length i j) = x.2
      have hx' : (r.ino ++ [([], 0)])[j]? = some x := hx
      rcases Nat.lt_or_ge j r.ino.length with hj | hj
      · rw [List.getElem?_append_left hj] at hx'
        have e : upd f r.ino.length i j = f j := by unfold upd; rw [if_neg (by omega)]
        have hne : f j ≠ i := fun e => hi (e ▸ h.ids j hj)
        rw [e]
        unfold upd
        rw [if_neg hne, if_neg hne]
        exact h.dat j x hx'
      · have hl := (List.getElem?_eq_some_iff.1 hx').1
        simp at hl
        obtain rfl : j = r.ino.length := by omega
        simp at hx'
        subst hx'
        simp [upd] }
theorem Sim.set (h : Sim s r f) {j : Nat} (hj : j < r.ino.length) (x : Nm × Nat) : Sim { s with dat := upd s.dat (f j) x.1, syn := upd s.syn (f j) x.2 } { r with ino := r.ino.set j x } f :=
  { h with
    all := fun m => by
      show Good (r.ino.set j x).length _ ∧ _
      rw [List.length_set]
      exact h.all m
    ids := fun i hi => h.ids i (by simpa using hi)
    inj := fun a b ha hb e => h.inj a b (by simpa using ha) (by simpa using hb) e
    dat := fun i y hy => by
      show upd s.dat (f j) x.1 (f i) = y.1 ∧ upd s.syn (f j) x.2 (f i) = y.2
      have hy' : (r.ino.set j x)[i]? = some y := hy
      have hi : i < r.ino.length := by have := (List.getElem?_eq_some_iff.1 hy').1; simpa using this
      by_cases hij : i = j
      · subst hij
        rw [List.getElem?_set_self hj] at hy'
        cases hy'
        simp [upd]
      · rw [List.getElem?_set_ne (fun e => hij e.symm)] at hy'
        have hne : f i ≠ f j := fun e => hij (h.inj i j hi hj e)
        unfold upd
        rw [if_neg hne, if_neg hne]
        exact h.dat i y hy' }
theorem Sim.same {s' : St} (h : Sim s r f) (e1 : s'.room = s.room) (e2 : s'.old = s.old) (e3 : s'.chs = s.chs) (e4 : s'.ids = s.ids) (e5 : s'.dat = s.dat) (e6 : s'.syn = s.syn) (e7 : s'.acts = s.acts) (e8 : s'.fuse = s.fuse) (e9 : s'.down = s.down) : Sim s' r f :=
  ⟨by rw [e1]; exact h.room, by rw [e3]; exact h.len, h.effr, by rw [e2, e3]; exact h.all, by rw [e4]; exact h.ids, h.inj, by rw [e5, e6]; exact h.dat, by rw [e7]; exact h.acts, by rw [e8]; exact h.fuse, by rw [e9]; exact h.off⟩

theorem cutN_room (s : St) (cs : List Int) (d : Dir) : ∀ j, (cutN s cs d j).room = s.room
  | 0 => rfl
  | j + 1 => by
    simp only [cutN]
    split <;> exact cutN_room s cs d j
theorem cutN_acts' (s : St) (cs : List Int) (d : Dir) : ∀ j, (cutN s cs d j).acts = s.acts
  | 0 => rfl
  | j + 1 => by
    simp only [cutN]
    split <;> exact cutN_acts' s cs d j
theorem cut_sim {s : St} {ino : List (Nm × Nat)} {f : Nat → Nat} {d : Dir} (cs : List Int) (hd : ∀ p ∈ d, p.2 < ino.length) (hinj : ∀ i j, i < ino.length → j < ino.length → f i = f j → i = j)
    (h : ∀ (j : Nat) (x : Nm × Nat), ino[j]? = some x → s.dat (f j) = x.1 ∧ s.syn (f j) = x.2) : ∀ (k : Nat) (j : Nat) (x : Nm × Nat), (rCutN ino cs d k)[j]? = some x → (cutN s cs (dmap f d) k).dat (f j) = x.1 ∧ (cutN s cs (dmap f d) k).syn (f j) = x.2
  | 0, j, x, hx => h j x hx
  | k + 1, j, x, hx => by
    have ih := cut_sim cs hd hinj h k
    cases hp : d[k]? with
    | none =>
      have e1 : rCutN ino cs d (k + 1) = rCutN ino cs d k := by simp only [rCutN, hp]
      have e2 : cutN s cs (dmap f d) (k + 1) = cutN s cs (dmap f d) k := by
        have : (dmap f d)[k]? = none := by simp [dmap, hp]
        simp only [cutN, this]
      rw [e1] at hx
      rw [e2]
      exact ih j x hx
    | some p =>
      have hpl := hd p (List.mem_of_getElem? hp)
      obtain ⟨y, hy⟩ : ∃ y, (rCutN ino cs d k)[p.2]? = some y := ⟨_, List.getElem?_eq_getElem (by rw [rCutN_len]; exact hpl)⟩
      rw [rCutN_succ ino cs d k hp hy] at hx
      have hp2 : (dmap f d)[k]? = some (p.1, f p.2) := by simp [dmap, hp]
      rw [cutN_succ s cs (dmap f d) k hp2]
      obtain ⟨i1, i2⟩ := ih p.2 y hy
      have hj : j < ino.length := by have := (List.getElem?_eq_some_iff.1 hx).1; rw [List.length_set, rCutN_len] at this; exact this
      have hkl : keepLen (cutN s cs (dmap f d) k) (f p.2) (cutOf cs k) = rKeep y (cutOf cs k) := by unfold keepLen rKeep; rw [i1, i2]
      show upd (cutN s cs (dmap f d) k).dat (f p.2) (((cutN s cs (dmap f d) k).dat (f p.2)).take (keepLen (cutN s cs (dmap f d) k) (f p.2) (cutOf cs k))) (f j) = x.1 ∧ upd (cutN s cs (dmap f d) k).syn (f p.2) (keepLen (cutN s cs (dmap f d) k) (f p.2) (cutOf cs k)) (f j) = x.2
      rw [hkl, i1]
      by_cases hjp : j = p.2
      · subst hjp
        rw [List.getElem?_set_self (by rw [rCutN_len]; exact hj)] at hx
        cases hx
        simp [upd, rCut]
      · rw [List.getElem?_set_ne (fun e => hjp e.symm)] at hx
        have hne : f j ≠ f p.2 := fun e => hjp (hinj j p.2 hj hpl e)
        unfold upd
        rw [if_neg hne, if_neg hne]
        exact ih j x hx
theorem Sim.crashed (h : Sim s r f) (acts : Int) (cs : List Int) : Sim (s.crashed acts cs) (rCrashed r acts cs) f := by
  obtain ⟨g1, g2⟩ := h.all (partN acts r.chs.length)
  have hb : rBack r acts = rEffAll r.old (r.chs.take (partN acts r.chs.length)) := rfl
  have hn : (s.replayed acts).now = dmap f (rBack r acts) := by
    show effAll s.old (s.chs.take (partN acts s.chs.length)) = _
    rw [hb, g2, h.len]
  have hlen : (rCutN r.ino cs (rBack r acts) (rBack r acts).length).length = r.ino.length := rCutN_len _ _ _ _
  have hc := cut_sim (s := s.replayed acts) cs (d := rBack r acts) (fun p hp => (g1.mem p hp).2) h.inj h.dat (rBack r acts).length
  rw [← hn] at hc
  have hl : (rBack r acts).length = (s.replayed acts).now.length := by rw [hn, dmap_len]
  refine ⟨?_, rfl, rfl, ?_, ?_, ?_, ?_, ?_, rfl, rfl⟩
  · show r.room = (cutN (s.replayed acts) cs (s.replayed acts).now (s.replayed acts).now.length).room
    rw [cutN_room]
    exact h.room
  · intro m
    show Good (rCutN r.ino cs (rBack r acts) (rBack r acts).length).length (rEffAll (rBack r acts) (([] : List RCh).take m)) ∧ dmap f (rEffAll (rBack r acts) (([] : List RCh).take m)) = effAll (s.replayed acts).now (([] : List Ch).take m)
    rw [hlen, List.take_nil, List.take_nil, hn]
    exact ⟨g1, rfl⟩
  · intro j hj
    have hj' : j < r.ino.length := by have : j < (rCutN r.ino cs (rBack r acts) (rBack r acts).length).length := hj; rw [hlen] at this; exact this
    show f j ∈ (cutN (s.replayed acts) cs (s.replayed acts).now (s.replayed acts).now.length).ids
    rw [cutN_ids]
    exact h.ids j hj'
  · intro a b ha hb' e
    have ha' : a < (rCutN r.ino cs (rBack r acts) (rBack r acts).length).length := ha
    have hb'' : b < (rCutN r.ino cs (rBack r acts) (rBack r acts).length).length := hb'
    rw [hlen] at ha' hb''
    exact h.inj a b ha' hb'' e
  · intro j x hx
    rw [hl] at hc
    exact hc j x (by rw [← hl]; exact hx)
  · show r.done = (cutN (s.replayed acts) cs (s.replayed acts).now (s.replayed acts).now.length).acts
    rw [cutN_acts']
    exact h.acts
/-- Either the power is gone, on both, or the own part is done. -/
theorem Sim.act (h : Sim s r f) {T : Int → St → Prop} {n : Int} {s' : St} (ha : ActEnd s T n s') :
    ((rPower r).off = true ∧ n = 14 ∧ Sim s' (rPower r) f) ∨ ((rPower r).off = false ∧ s.fuse ≠ 0 ∧ ∃ s1, T n s1 ∧ s1.fuse = s.fuse ∧ ((n ≠ 0 ∧ s' = s1) ∨ (n = 0 ∧ s' = { s1 with acts := s1.acts + 1, fuse := if 0 < s1.fuse then s1.fuse - 1 else s1.fuse }))) := by
  rcases ha with ⟨h1, rfl, rfl⟩ | ⟨h1, h2, s1, hT, e1, e2, e3, h3⟩
  · have ho := h.power.2 h1
    exact .inl ⟨ho, rfl, h.offed ho⟩
  · refine .inr ⟨?_, h1, s1, hT, e2, h3⟩
    cases ho : (rPower r).off with
    | false => rfl
    | true =>
      rcases h.power.1 ho with h4 | h4
      · exact absurd h4 h1
      · rw [h2] at h4; cases h4
theorem name_ne {k : Nm} (h : okName k = true) : k ≠ [] := by
  rintro rfl
  simp [okName] at h
theorem Sim.create (h : Sim s r f) (hw : WF s) (hm : s.mid = false) {k : Nm} {n : Int} {s' : St} (ha : ActEnd s (TCreate s k) n s') : n = (rCreate r k).1 ∧ ∃ f', Sim s' (rCreate r k).2 f' := by
  have hg := h.get hw hm k
  have hnl : s.now.length = r.dir.length := by rw [← h.now hw hm, dmap_len]
  rcases h.act ha with ⟨ho, rfl, h2⟩ | ⟨ho, hf, s1, hT, ef, h3⟩
  · unfold rCreate
    rw [if_pos ho]
    exact ⟨rfl, f, h2⟩
  · unfold rCreate
    rw [if_neg (by simp [ho])]
    rcases hT with ⟨t1, rfl, rfl⟩ | ⟨t1, t2, rfl, rfl⟩ | ⟨t1, t2, t3, rfl, rfl⟩ | ⟨t1, t2, t3, rfl, i, hi, rfl⟩
    · rw [if_pos t1]
      rcases h3 with ⟨_, rfl⟩ | ⟨h0, _⟩
      · exact ⟨rfl, f, h⟩
      · omega
    · rw [if_neg (by simp [t1])]
      rw [hg] at t2
      cases hd : dget r.dir k with
      | none => rw [hd] at t2; cases t2
      | some j =>
        rcases h3 with ⟨_, rfl⟩ | ⟨h0, _⟩
        · exact ⟨rfl, f, h⟩
        · omega
    · rw [if_neg (by simp [t1])]
      rw [hg] at t2
      cases hd : dget r.dir k with
      | some j => rw [hd] at t2; cases t2
      | none =>
        simp only
        rw [if_pos (by omega)]
        rcases h3 with ⟨_, rfl⟩ | ⟨h0, _⟩
        · exact ⟨rfl, f, h⟩
        · omega
    · rw [if_neg (by simp [t1])]
      rw [hg] at t2
      cases hd : dget r.dir k with
      | some j => rw [hd] at t2; cases t2
      | none =>
        simp only
        rw [if_neg (by omega)]
        rcases h3 with ⟨h0, _⟩ | ⟨_, rfl⟩
        · exact absurd rfl h0
        · refine ⟨rfl, upd f r.ino.length i, ?_⟩
          have ha := h.add hi
          have hx : (⟨[], k, r.ino.length⟩ : RCh).eff r.dir = dput r.dir k r.ino.length := by
            unfold RCh.eff
            rw [if_neg (name_ne t1), if_pos rfl]
          have hc := ha.change (hw.eff hm) ⟨[], k, r.ino.length⟩ (.create k i) (.inr (by simp)) (by
            show dmap (upd f r.ino.length i) ((⟨[], k, r.ino.length⟩ : RCh).eff r.dir) = dput s.now k i
            rw [hx, ← dput_dmap]
            have e1 : dmap (upd f r.ino.length i) r.dir = s.now := by
              refine (dmap_congr fun p hp => ?_).trans (h.now hw hm)
              unfold upd
              rw [if_neg (by have := (h.good.mem p hp).2; omega)]
            have e2 : upd f r.ino.length i r.ino.length = i := by simp [upd]
            rw [e1, e2])
          exact hc.did (by rw [ef]; exact hf)
theorem Sim.remove (h : Sim s r f) (hw : WF s) (hm : s.mid = false) {k : Nm} {n : Int} {s' : St} (ha : ActEnd s (TRemove s k) n s') : n = (rRemove r k).1 ∧ ∃ f', Sim s' (rRemove r k).2 f' := by
  have hg := h.get hw hm k
  rcases h.act ha with ⟨ho, rfl, h2⟩ | ⟨ho, hf, s1, hT, ef, h3⟩
  · unfold rRemove
    rw [if_pos ho]
    exact ⟨rfl, f, h2⟩
  · unfold rRemove
    rw [if_neg (by simp [ho])]
    rcases hT with ⟨t1, rfl, rfl⟩ | ⟨t1, rfl, rfl⟩
    · rw [hg] at t1
      cases hd : dget r.dir k with
      | some j => rw [hd] at t1; cases t1
      | none =>
        rcases h3 with ⟨_, rfl⟩ | ⟨h0, _⟩
        · exact ⟨rfl, f, h⟩
        · omega
    · rw [hg] at t1
      cases hd : dget r.dir k with
      | none => rw [hd] at t1; cases t1
      | some j =>
        rcases h3 with ⟨h0, _⟩ | ⟨_, rfl⟩
        · exact absurd rfl h0
        · refine ⟨rfl, f, ?_⟩
          have hk := (h.at hd).1
          have hx : (⟨k, [], 0⟩ : RCh).eff r.dir = ddel r.dir k := by
            unfold RCh.eff
            rw [if_pos rfl, if_neg hk]
          have hc := h.change (hw.eff hm) ⟨k, [], 0⟩ (.remove k) (.inl rfl) (by
            show dmap f ((⟨k, [], 0⟩ : RCh).eff r.dir) = ddel s.now k
            rw [hx, ← ddel_dmap, h.now hw hm])
          exact hc.did (by rw [ef]; exact hf)
theorem Sim.rename (h : Sim s r f) (hw : WF s) (hm : s.mid = false) {x y : Nm} {n : Int} {s' : St} (ha : ActEnd s (TRename s x y) n s') : n = (rRename r x y).1 ∧ ∃ f', Sim s' (rRename r x y).2 f' := by
  have hg := h.get hw hm x
  rcases h.act ha with ⟨ho, rfl, h2⟩ | ⟨ho, hf, s1, hT, ef, h3⟩
  · unfold rRename
    rw [if_pos ho]
    exact ⟨rfl, f, h2⟩
  · unfold rRename
    rw [if_neg (by simp [ho])]
    rcases hT with ⟨t1, rfl, rfl⟩ | ⟨t1, t2, rfl, rfl⟩ | ⟨t1, t2, t3, rfl, rfl⟩ | ⟨t1, t2, rfl, i, t3, rfl⟩
    · rw [if_pos t1]
      rcases h3 with ⟨_, rfl⟩ | ⟨h0, _⟩
      · exact ⟨rfl, f, h⟩
      · omega
    · rw [if_neg (by simp [t1])]
      rw [hg] at t2
      cases hd : dget r.dir x with
      | some j => rw [hd] at t2; cases t2
      | none =>
        rcases h3 with ⟨_, rfl⟩ | ⟨h0, _⟩
        · exact ⟨rfl, f, h⟩
        · omega
    · rw [if_neg (by simp [t1])]
      rw [hg] at t2
      cases hd : dget r.dir x with
      | none => rw [hd] at t2; cases t2
      | some j =>
        simp only
        rw [if_pos t3]
        rcases h3 with ⟨h0, _⟩ | ⟨_, rfl⟩
        · exact absurd rfl h0
        · exact ⟨rfl, f, h.did hf⟩
    · rw [if_neg (by simp [t1])]
      have t4 := t3
      rw [hg] at t4
      cases hd : dget r.dir x with
      | none => rw [hd] at t4; cases t4
      | some j =>
        rw [hd] at t4
        have hij : f j = i := Option.some.inj t4
        simp only
        rw [if_neg t2]
        rcases h3 with ⟨h0, _⟩ | ⟨_, rfl⟩
        · exact absurd rfl h0
        · refine ⟨rfl, f, ?_⟩
          obtain ⟨hk, hj⟩ := h.at hd
          have hx : (⟨x, y, j⟩ : RCh).eff r.dir = dput (ddel r.dir x) y j := by
            unfold RCh.eff
            rw [if_neg (name_ne t1), if_neg hk]
          have hc := h.change (hw.eff hm) ⟨x, y, j⟩ (.rename x y) (.inr hj) (by
            show dmap f ((⟨x, y, j⟩ : RCh).eff r.dir) = ddel (dput s.now y ((dget s.now x).getD 0)) x
            rw [hx, t3, ← dput_dmap, ← ddel_dmap, h.now hw hm, hij]
            refine rename_alike s.now x y i t2 lt_trans' ?_
            rw [← h.now hw hm]
            exact sorted_dmap h.good.sorted)
          have e : (Ch.rename x y).eff s.now = ddel (dput s.now y i) x := by
            show ddel (dput s.now y ((dget s.now x).getD 0)) x = _
            rw [t3]
            rfl
          rw [e] at hc
          exact hc.did (by rw [ef]; exact hf)
theorem Sim.sync (h : Sim s r f) (hw : WF s) (hm : s.mid = false) {k : Nm} {n : Int} {s' : St} (ha : ActEnd s (TSync s k) n s') : n = (rSync r k).1 ∧ ∃ f', Sim s' (rSync r k).2 f' := by
  have hg := h.get hw hm k
  rcases h.act ha with ⟨ho, rfl, h2⟩ | ⟨ho, hf, s1, hT, ef, h3⟩
  · unfold rSync
    rw [if_pos ho]
    exact ⟨rfl, f, h2⟩
  · unfold rSync
    rw [if_neg (by simp [ho])]
    rcases hT with ⟨t1, rfl, rfl⟩ | ⟨i, t1, _, rfl, rfl⟩
    · rw [hg] at t1
      cases hd : dget r.dir k with
      | some j => rw [hd] at t1; cases t1
      | none =>
        rcases h3 with ⟨_, rfl⟩ | ⟨h0, _⟩
        · exact ⟨rfl, f, h⟩
        · omega
    · rw [hg] at t1
      cases hd : dget r.dir k with
      | none => rw [hd] at t1; cases t1
      | some j =>
        rw [hd] at t1
        have hij : f j = i := Option.some.inj t1
        subst hij
        obtain ⟨_, hj⟩ := h.at hd
        rcases h3 with ⟨h0, _⟩ | ⟨_, rfl⟩
        · exact absurd rfl h0
        · refine ⟨rfl, f, ?_⟩
          have hs := h.set hj (rDat r j, (rDat r j).length)
          simp only at hs
          rw [h.datAt hj] at hs
          have hd2 := hs.did (by show s.fuse ≠ 0; exact hf)
          show Sim _ (rDid { r with ino := r.ino.set j (rDat r j, (rDat r j).length) }) f
          rw [h.datAt hj]
          exact hd2
theorem Sim.append (h : Sim s r f) (hw : WF s) (hm : s.mid = false) {k bs : Nm} {n : Int} {s' : St} (ha : ActEnd s (TAppend s k bs) n s') : n = (rAppend r k bs).1 ∧ ∃ f', Sim s' (rAppend r k bs).2 f' := by
  have hg := h.get hw hm k
  have hsum := h.sum hw hm
  have hroom := h.room
  rcases h.act ha with ⟨ho, rfl, h2⟩ | ⟨ho, hf, s1, hT, ef, h3⟩
  · unfold rAppend
    rw [if_pos ho]
    exact ⟨rfl, f, h2⟩
  · unfold rAppend
    rw [if_neg (by simp [ho])]
    rcases hT with ⟨t1, rfl, rfl⟩ | ⟨i, t1, _, t2, rfl, rfl⟩ | ⟨i, t1, _, t2, t3, rfl, rfl⟩ | ⟨i, t1, _, t2, t3, rfl, rfl⟩
    · rw [hg] at t1
      cases hd : dget r.dir k with
      | some j => rw [hd] at t1; cases t1
      | none =>
        rcases h3 with ⟨_, rfl⟩ | ⟨h0, _⟩
        · exact ⟨rfl, f, h⟩
        · omega
    all_goals
      rw [hg] at t1
      cases hd : dget r.dir k with
      | none => rw [hd] at t1; cases t1
      | some j =>
        rw [hd] at t1
        have hij : f j = i := Option.some.inj t1
        subst hij
        obtain ⟨_, hj⟩ := h.at hd
        have hdat := h.datAt hj
        simp only
        rw [hdat, hsum]
        first
          | (rw [if_pos t2]
             rcases h3 with ⟨_, rfl⟩ | ⟨h0, _⟩
             · exact ⟨rfl, f, h⟩
             · omega)
          | (rw [if_neg (by omega), if_pos (by omega)]
             rcases h3 with ⟨_, rfl⟩ | ⟨h0, _⟩
             · exact ⟨rfl, f, h⟩
             · omega)
          | (rw [if_neg (by omega), if_neg (by omega)]
             rcases h3 with ⟨h0, _⟩ | ⟨_, rfl⟩
             · exact absurd rfl h0
             · refine ⟨rfl, f, ?_⟩
               have hx := List.getElem?_eq_getElem hj
               have e : ((r.ino[j]?).map (·.2)).getD 0 = s.syn (f j) := by rw [hx]; exact (h.dat j _ hx).2.symm
               rw [e]
               exact (h.set hj (s.dat (f j) ++ bs, s.syn (f j))).did hf)
theorem Sim.syncDir (h : Sim s r f) (hw : WF s) (hm : s.mid = false) {n : Int} {s' : St} (ha : ActEnd s (TSyncDir s) n s') : n = (rSyncDir r).1 ∧ ∃ f', Sim s' (rSyncDir r).2 f' := by
  rcases h.act ha with ⟨ho, rfl, h2⟩ | ⟨ho, hf, s1, hT, ef, h3⟩
  · unfold rSyncDir
    rw [if_pos ho]
    exact ⟨rfl, f, h2⟩
  · unfold rSyncDir
    rw [if_neg (by simp [ho])]
    obtain ⟨rfl, rfl⟩ := hT
    rcases h3 with ⟨h0, _⟩ | ⟨_, rfl⟩
    · exact absurd rfl h0
    · refine ⟨rfl, f, ?_⟩
      have hs : Sim { s with old := s.now, chs := [], mid := false } { r with old := r.dir, chs := [] } f :=
        { h with
          len := rfl
          effr := rfl
          all := fun m => by
            show Good r.ino.length (rEffAll r.dir (([] : List RCh).take m)) ∧ dmap f (rEffAll r.dir (([] : List RCh).take m)) = effAll s.now (([] : List Ch).take m)
            rw [List.take_nil, List.take_nil]
            exact ⟨h.good, h.now hw hm⟩ }
      exact hs.did hf
/-- What both answer when asked. -/
theorem Sim.read (h : Sim s r f) (hw : WF s) (hm : s.mid = false) (k : Nm) : rRead r k = readOf s k := by
  unfold rRead readOf
  rw [h.off, h.get hw hm k]
  cases s.down with
  | true => rfl
  | false =>
    cases hd : dget r.dir k with
    | none => rfl
    | some j =>
      show (rDat r j, (0 : Int)) = (s.dat (f j), 0)
      rw [h.datAt (h.at hd).2]
theorem Sim.files (h : Sim s r f) (hw : WF s) (hm : s.mid = false) : rFiles r = filesOf s := by
  unfold rFiles filesOf
  rw [← h.now hw hm]
  unfold dmap
  rw [List.map_map]
  refine List.map_congr_left fun p hp => ?_
  show (p.1, rDat r p.2) = (p.1, s.dat (f p.2))
  rw [h.datAt (h.good.mem p hp).2]
theorem Sim.names (h : Sim s r f) (hw : WF s) (hm : s.mid = false) : r.dir.map (·.1) = s.now.map (·.1) := by
  rw [← h.now hw hm]
  unfold dmap
  rw [List.map_map]
  rfl
end
end Go.Proofs.YtmhiekbpmoikfaaGreatDoor
namespace Go.Proofs.YtmhiekbpmoikfaaGreatDoor
open Go.RowKit Go.Maps Go.WideMaps

/-- The disk lies in what the call itself has made; nothing of old has turned. -/
structure Mine (w0 w : World) (F : Nat → Prop) (b : Nat) (s : St) : Prop where
  disk : Disk w F b s
  new : ∀ i, F i → w0.heap.size ≤ i
  below : Below w0.heap.size w0 w
theorem Mine.left {w0 w : World} {F : Nat → Prop} {b : Nat} {s : St} (h : Mine w0 w F b s) {T : Int → St → Prop} {e : Ending} {w' : World} (hl : Left w F b T e w') :
    ∃ (n : Int) (s' : St) (F' : Nat → Prop), e = .returned (.int .i64 n) ∧ T n s' ∧ Mine w0 w' F' b s' := by
  obtain ⟨n, s', F', he, hT, hD, hk, hF⟩ := hl
  refine ⟨n, s', F', he, hT, hD, fun i hi => ?_, h.below.trans (hk.toBelow h.below.size h.new)⟩
  rcases hF i hi with h1 | h1
  · exact h.new i h1
  · exact Nat.le_trans h.below.size h1
theorem Mine.later {w0 w w' : World} {F : Nat → Prop} {b : Nat} {s : St} (h : Mine w0 w F b s) (hb : Below w.heap.size w w') : Mine w0 w' F b s :=
  ⟨h.disk.kept (Kept.below (F := fun _ => False) hb) (fun _ _ => id), h.new, h.below.trans (hb.mono h.below.size)⟩
theorem Disk.size {w : World} {F : Nat → Prop} {b : Nat} {s : St} (h : Disk w F b s) : ∀ i, F i → i < w.heap.size := by
  obtain ⟨bn, bo, cv, cls, fv, hd⟩ := h; exact hd.lt
theorem Disk.wf {w : World} {F : Nat → Prop} {b : Nat} {s : St} (h : Disk w F b s) : WF s := by
  obtain ⟨bn, bo, cv, cls, fv, hd⟩ := h; exact hd.wf

/-- With the power on, and no fuse. -/
theorem live_end {s s' : St} {T : Int → St → Prop} {n : Int} (h : ActEnd s T n s') (hf : s.fuse = -1) (hd : s.down = false) : ∃ s1, T n s1 ∧ ((n ≠ 0 ∧ s' = s1) ∨ (n = 0 ∧ s' = { s1 with acts := s.acts + 1, fuse := -1 })) := by
  rcases h with ⟨h1, _⟩ | ⟨_, _, s1, hT, ea, ef, ed, h2⟩
  · rcases h1 with h1 | h1
    · omega
    · rw [hd] at h1; cases h1
  · refine ⟨s1, hT, ?_⟩
    rcases h2 with ⟨h3, h4⟩ | ⟨h3, h4⟩
    · exact .inl ⟨h3, h4⟩
    · refine .inr ⟨h3, ?_⟩
      rw [h4, ef, hf, ea]
      rfl

/-- 'string(b)'. -/
theorem string_of_row {w : World} {v : Value} {d : Nm} {base : Nat} (h : w.ownsRow base 5 1 v d.length (d.map byteV)) : (convert 25 9 v).run Tryz.prog w = .ok (.string ⟨d.toArray⟩) w := by
  rcases h.2 with ⟨rfl, h0⟩ | ⟨g, cap, cur, rfl, _⟩
  · have hd : d = [] := List.eq_nil_of_length_eq_zero h0
    subst hd
    exact Lib.run_convert_nil_bytes w 25 9 5 0 Tryz.underlying25 Tryz.underlying5 Tryz.underlying9
  · refine run_convert_bytes_back w 25 9 5 ⟨g, 0, none⟩ cap d Tryz.underlying25 Tryz.underlying5 Tryz.underlying9 ?_
    intro j hj
    exact h.cells rfl j _ (by rw [List.getElem?_map, List.getElem?_eq_getElem hj]; rfl)

theorem create_ok {s s' : St} {k : Nm} {n : Int} (h : ActEnd s (TCreate s k) n s') (hf : s.fuse = -1) (hd : s.down = false) (hk : okName k = true) (hg : dget s.now k = none) (hl : s.now.length < 64) :
    n = 0 ∧ ∃ i, i ∉ s.ids ∧ s' = { (s.addFile i) with now := dput s.now k i, chs := s.chs ++ [.create k i], acts := s.acts + 1, fuse := -1 } := by
  obtain ⟨s1, hT, h2⟩ := live_end h hf hd
  rcases hT with ⟨h1, _⟩ | ⟨_, h1, _⟩ | ⟨_, _, h1, _⟩ | ⟨_, _, _, h1, i, hi, hs⟩
  · rw [hk] at h1; cases h1
  · rw [hg] at h1; cases h1
  · omega
  · rcases h2 with ⟨h3, _⟩ | ⟨_, h4⟩
    · exact absurd h1 h3
    · exact ⟨h1, i, hi, by rw [h4, hs]⟩
theorem append_ok {s s' : St} {k bs : Nm} {n : Int} {i : Nat} (h : ActEnd s (TAppend s k bs) n s') (hf : s.fuse = -1) (hd : s.down = false) (hg : dget s.now k = some i) (hl : bs.length + (s.dat i).length ≤ 262144) (hr : lenSum s.dat s.now + bs.length ≤ s.room) :
    n = 0 ∧ s' = { s with dat := upd s.dat i (s.dat i ++ bs), syn := upd s.syn i (s.syn i), acts := s.acts + 1, fuse := -1 } := by
  obtain ⟨s1, hT, h2⟩ := live_end h hf hd
  rcases hT with ⟨h1, _⟩ | ⟨j, h1, _, h3, _⟩ | ⟨j, h1, _, _, h3, _⟩ | ⟨j, h1, _, _, _, h3, hs⟩
  · rw [hg] at h1; cases h1
  · rw [hg] at h1; cases h1; omega
  · rw [hg] at h1; cases h1; omega
  · rw [hg] at h1; cases h1
    rcases h2 with ⟨h4, _⟩ | ⟨_, h4⟩
    · exact absurd h3 h4
    · exact ⟨h3, by rw [h4, hs]⟩
theorem append_full {s s' : St} {k bs : Nm} {n : Int} {i : Nat} (h : ActEnd s (TAppend s k bs) n s') (hf : s.fuse = -1) (hd : s.down = false) (hg : dget s.now k = some i) (hl : bs.length + (s.dat i).length ≤ 262144) (hr : s.room < lenSum s.dat s.now + bs.length) :
    n = 11 ∧ s' = s := by
  obtain ⟨s1, hT, h2⟩ := live_end h hf hd
  rcases hT with ⟨h1, _⟩ | ⟨j, h1, _, h3, _⟩ | ⟨j, h1, _, _, _, h3, hs⟩ | ⟨j, h1, _, _, h3, _⟩
  · rw [hg] at h1; cases h1
  · rw [hg] at h1; cases h1; omega
  · rcases h2 with ⟨_, h4⟩ | ⟨h4, _⟩
    · exact ⟨h3, by rw [h4, hs]⟩
    · omega
  · rw [hg] at h1; cases h1; omega
theorem sync_ok {s s' : St} {k : Nm} {n : Int} {i : Nat} (h : ActEnd s (TSync s k) n s') (hf : s.fuse = -1) (hd : s.down = false) (hg : dget s.now k = some i) :
    n = 0 ∧ s' = { s with dat := upd s.dat i (s.dat i), syn := upd s.syn i (s.dat i).length, acts := s.acts + 1, fuse := -1 } := by
  obtain ⟨s1, hT, h2⟩ := live_end h hf hd
  rcases hT with ⟨h1, _⟩ | ⟨j, h1, _, h3, hs⟩
  · rw [hg] at h1; cases h1
  · rw [hg] at h1; cases h1
    rcases h2 with ⟨h4, _⟩ | ⟨_, h4⟩
    · exact absurd h3 h4
    · exact ⟨h3, by rw [h4, hs]⟩
theorem syncDir_ok {s s' : St} {n : Int} (h : ActEnd s (TSyncDir s) n s') (hf : s.fuse = -1) (hd : s.down = false) :
    n = 0 ∧ s' = { s with old := s.now, chs := [], mid := false, acts := s.acts + 1, fuse := -1 } := by
  obtain ⟨s1, ⟨h3, hs⟩, h2⟩ := live_end h hf hd
  rcases h2 with ⟨h4, _⟩ | ⟨_, h4⟩
  · exact absurd h3 h4
  · exact ⟨h3, by rw [h4, hs]⟩

end Go.Proofs.YtmhiekbpmoikfaaGreatDoor
namespace Go.Proofs.YtmhiekbpmoikfaaGreatDoor
open Go.RowKit Go.Maps Go.WideMaps

theorem src_new {w : World} {C : Array Value} {t : TypeId} {fr : Nat × Nat} (n : Nat) (h : C.size = n) : Src (w.alloc (.cells C t fr)) (some ⟨w.heap.size, 0, none⟩) n C.toList :=
  ⟨by simpa using h, fun ad e j u hu => by
    injection e with e
    subst e
    have e1 : ((⟨w.heap.size, 0, none⟩ : Addr).add j) = ⟨w.heap.size, j, none⟩ := by
      unfold Addr.add
      split
      · rename_i h0; subst h0; rfl
      · simp
    rw [e1, World.cell?_alloc_mark]
    simpa using hu, fun e => by cases e⟩

end Go.Proofs.YtmhiekbpmoikfaaGreatDoor
namespace Go.Proofs.YtmhiekbpmoikfaaGreatDoor
open Go.ChangeShapes Go.WideShapes Go.ChangeAt Go.RowKit

/-- A slice of integers that came in. -/
def CutsIn (w : World) (A : Option Addr) (n : Nat) (cs : List Int) : Prop := n ≤ maxLen ∧ Src w A n (cs.map i64v) ∧ (∀ j, cutOf cs j ≤ 9223372036854775807) ∧ ∀ ad, A = some ad → 0 < n → ad.block < w.heap.size

section
variable {H : Type} {enc : TypeId × Value → H} {w : World}
theorem cuts_in {A : Option Addr} {n c : Nat} {x : DataW H × List MemPlace} {fuel : Nat} {base : Nat} {spare : Nat → Bool} {held : Bool} (h : DataW.trod enc Tryz.prog w base spare held fuel 46 [.slice A n c] = some x) : ∃ cs, CutsIn w A n cs := by
  rcases open_ints Tryz.underlying46 Tryz.underlying3 (by kernel_rfl) h with ⟨hcs, _⟩ | ⟨a, l, cp, zs, hcs, _, hl, hm, hz, _, hcell, hwz⟩
  · simp only [List.cons.injEq, Value.slice.injEq, and_true] at hcs
    obtain ⟨rfl, rfl, rfl⟩ := hcs
    exact ⟨[], by unfold maxLen; omega, ⟨rfl, (fun ad e => by cases e), fun _ => rfl⟩, fun j => by simp [cutOf], fun ad e => by cases e⟩
  · simp only [List.cons.injEq, Value.slice.injEq, and_true] at hcs
    obtain ⟨rfl, rfl, rfl⟩ := hcs
    have hzl : n ≤ zs.length := by rw [hz]; split <;> omega
    refine ⟨zs.take n, by omega, ⟨by simp; omega, fun ad e j u hu => ?_, (fun e => by cases e)⟩, fun j => ?_, fun ad e hn => ?_⟩
    · injection e with e
      subst e
      rw [List.getElem?_map, List.getElem?_take] at hu
      split at hu
      · have hjz : j < zs.length := by omega
        rw [List.getElem?_eq_getElem hjz] at hu
        simp only [Option.map_some, Option.some.injEq] at hu
        rw [hcell j hjz, ← hu]
        simp [i64v, List.getElem?_eq_getElem hjz]
      · cases hu
    · unfold cutOf
      rw [List.getD_eq_getElem?_getD, List.getElem?_take]
      split
      · by_cases hjz : j < zs.length
        · rw [List.getElem?_eq_getElem hjz]
          have := hwz zs[j] (List.getElem_mem hjz)
          simp [Lit.wf, IntKind.min, IntKind.max, IntKind.signed, IntKind.bits] at this
          simp
          omega
        · rw [List.getElem?_eq_none (by omega)]
          simp
      · simp
    · injection e with e
      subst e
      have h0 := hcell 0 (by omega)
      have h1 : a.add 0 = a := by simp [Addr.add]
      rw [h1] at h0
      exact World.block_lt_of_cell? w a h0
end
end Go.Proofs.YtmhiekbpmoikfaaGreatDoor
namespace Go.Proofs.YtmhiekbpmoikfaaGreatDoor
open Go.ChangeShapes Go.WideShapes Go.ChangeAt Go.RowKit Go.Deep

structure OpV where
  what : Int
  a : ByteArray
  B : Option Addr
  bn : Nat
  bc : Nat
  bs : Nm
  n : Int
  acts : Int
  C : Option Addr
  k : Nat
  cc : Nat
  cs : List Int
def OpV.cells (o : OpV) : List Value := [.int .i64 o.what, .string o.a, .slice o.B o.bn o.bc, .int .i64 o.n, .int .i64 o.acts, .slice o.C o.k o.cc]
structure OpIn (w : World) (o : OpV) : Prop where
  a : o.a.size ≤ maxLen
  b : BytesIn w o.B o.bn o.bs
  bc : o.bn ≤ o.bc
  n : o.n ≤ 9223372036854775807
  acts : o.acts ≤ 9223372036854775807
  c : CutsIn w o.C o.k o.cs
  na : o.a.size ≤ 140737488351232
  nb : o.bn ≤ 140737488351232
  nk : o.k * 8 ≤ 140737488351232
/-- A slice of calls that came in. -/
structure OpsIn (w : World) (A : Option Addr) (n : Nat) (l : List OpV) : Prop where
  len : l.length = n
  big : n * 88 ≤ 140737488351232
  op : ∀ o ∈ l, OpIn w o
  nil : A = none → n = 0
  cells : ∀ ad, A = some ad → ∀ (i : Nat) (o : OpV), l[i]? = some o → ∀ (j : Nat) (v : Value), o.cells[j]? = some v → w.cell? (ad.add (i * 6 + j)) = some v
  lt : ∀ ad, A = some ad → 0 < n → ad.block < w.heap.size

theorem add_pos (ad : Addr) (i j : Nat) (h : 0 < j) : ad.add (i + j) = ⟨(ad.add i).block, (ad.add i).off + j, none⟩ := by
  rw [← add_add]
  generalize ad.add i = b
  unfold Addr.add
  rw [if_neg (by omega)]
theorem OpsIn.head {w : World} {ad : Addr} {n : Nat} {l : List OpV} (h : OpsIn w (some ad) n l) {k : Nat} {o : OpV} (ho : l[k]? = some o) : w.cell? (ad.add (k * 6)) = some (.int .i64 o.what) := h.cells ad rfl k o ho 0 _ rfl
theorem OpsIn.field {w : World} {ad : Addr} {n : Nat} {l : List OpV} (h : OpsIn w (some ad) n l) {k : Nat} {o : OpV} (ho : l[k]? = some o) (j : Nat) {v : Value} (hv : o.cells[j + 1]? = some v) : w.cell? ⟨(ad.add (k * 6)).block, (ad.add (k * 6)).off + (j + 1), none⟩ = some v := by
  rw [← add_pos _ _ _ (by omega)]
  exact h.cells ad rfl k o ho _ _ hv
theorem take_drop1 (cs : List Value) (j : Nat) (h : j < cs.length) : (cs.drop j).take 1 = [cs[j]] := by
  rw [List.drop_eq_getElem_cons h]; rfl
theorem take_drop2 (cs : List Value) (j : Nat) (h : j + 1 < cs.length) : (cs.drop j).take 2 = [cs[j], cs[j + 1]] := by
  rw [List.drop_eq_getElem_cons (by omega), List.take_succ_cons, take_drop1 cs (j + 1) h]

section
variable {H : Type} {enc : TypeId × Value → H} {w : World}
theorem ints_shape {A : Value} {x : DataW H × List MemPlace} {fuel : Nat} {base : Nat} {spare : Nat → Bool} {held : Bool} (h : DataW.trod enc Tryz.prog w base spare held fuel 46 [A] = some x) : ∃ C k cc, A = .slice C k cc := by
  rcases open_ints Tryz.underlying46 Tryz.underlying3 (by kernel_rfl) h with ⟨hcs, _⟩ | ⟨a, l, cp, zs, hcs, _⟩
  · simp only [List.cons.injEq, and_true] at hcs
    exact ⟨_, _, _, hcs⟩
  · simp only [List.cons.injEq, and_true] at hcs
    exact ⟨_, _, _, hcs⟩
set_option maxRecDepth 100000 in
theorem op_in {cs : List Value} {x : DataW H × List MemPlace} {fuel : Nat} {base : Nat} {spare : Nat → Bool} {held : Bool} (h : DataW.trod enc Tryz.prog w base spare held fuel 73 cs = some x) (hs : Sized 73 x.1) :
    ∃ o : OpV, cs = o.cells ∧ OpIn w o := by
  obtain ⟨ys, m, _, hx, hlen, _, hf⟩ := DataW.trod_struct Tryz.underlying73 h
  have hl6 : cs.length = 6 := by rw [hlen]; kernel_rfl
  have cI : Tryz.prog.cellsOf 3 = 1 := by kernel_rfl
  have cS : Tryz.prog.cellsOf 9 = 1 := by kernel_rfl
  have cB : Tryz.prog.cellsOf 25 = 1 := by kernel_rfl
  have cN : Tryz.prog.cellsOf 46 = 1 := by kernel_rfl
  have cC : Tryz.prog.cellsOf 48 = 2 := by kernel_rfl
  have f0 : DataW.trod enc Tryz.prog w base spare held m 3 ((cs.drop 0).take (Tryz.prog.cellsOf 3)) = ys[0]? := hf 0 _ rfl
  have f1 : DataW.trod enc Tryz.prog w base spare held m 9 ((cs.drop 1).take (Tryz.prog.cellsOf 9)) = ys[1]? := hf 1 _ rfl
  have f2 : DataW.trod enc Tryz.prog w base spare held m 25 ((cs.drop 2).take (Tryz.prog.cellsOf 25)) = ys[2]? := hf 2 _ rfl
  have f3 : DataW.trod enc Tryz.prog w base spare held m 3 ((cs.drop 3).take (Tryz.prog.cellsOf 3)) = ys[3]? := hf 3 _ rfl
  have f4 : DataW.trod enc Tryz.prog w base spare held m 48 ((cs.drop 4).take (Tryz.prog.cellsOf 48)) = ys[4]? := hf 4 _ rfl
  have hy : ys.length = 5 := by assumption
  rw [cI, take_drop1 _ _ (by omega), List.getElem?_eq_getElem (by omega)] at f0 f3
  rw [cS, take_drop1 _ _ (by omega), List.getElem?_eq_getElem (by omega)] at f1
  rw [cB, take_drop1 _ _ (by omega), List.getElem?_eq_getElem (by omega)] at f2
  rw [cC, take_drop2 _ _ (by omega), List.getElem?_eq_getElem (by omega)] at f4
  rw [hx] at hs
  have s1 : Sized 9 (ys[1]).1 := hs.field Tryz.underlying73 (j := 1) rfl (by rw [List.getElem?_map, List.getElem?_eq_getElem (by omega)]; rfl)
  have s2 : Sized 25 (ys[2]).1 := hs.field Tryz.underlying73 (j := 2) rfl (by rw [List.getElem?_map, List.getElem?_eq_getElem (by omega)]; rfl)
  have s4 : Sized 48 (ys[4]).1 := hs.field Tryz.underlying73 (j := 4) rfl (by rw [List.getElem?_map, List.getElem?_eq_getElem (by omega)]; rfl)
  obtain ⟨zs, m', _, hx4, _, hz, hg⟩ := DataW.trod_struct Tryz.underlying48 f4
  have hz2 : zs.length = 2 := hz
  have g0 : DataW.trod enc Tryz.prog w base spare held m' 3 (([cs[4], cs[5]].drop 0).take (Tryz.prog.cellsOf 3)) = zs[0]? := hg 0 _ rfl
  have g1 : DataW.trod enc Tryz.prog w base spare held m' 46 (([cs[4], cs[5]].drop 1).take (Tryz.prog.cellsOf 46)) = zs[1]? := hg 1 _ rfl
  rw [cI, List.getElem?_eq_getElem (by omega)] at g0
  rw [cN, List.getElem?_eq_getElem (by omega)] at g1
  simp only [List.drop_zero, List.drop_succ_cons, List.take_succ_cons, List.take_zero] at g0 g1
  obtain ⟨what, e0, _, w0⟩ := DataW.trod_int Tryz.underlying3 f0
  rw [hx4] at s4
  have s5 : Sized 46 (zs[1]).1 := s4.field Tryz.underlying48 (j := 1) rfl (by rw [List.getElem?_map, List.getElem?_eq_getElem (by omega)]; rfl)
  obtain ⟨nm, e1, x1, w1⟩ := DataW.trod_string Tryz.underlying9 f1
  obtain ⟨B, bn, bc, e2, hbc⟩ := bytes_shape f2
  obtain ⟨n, e3, _, w3⟩ := DataW.trod_int Tryz.underlying3 f3
  obtain ⟨acts, e4, _, w4⟩ := DataW.trod_int Tryz.underlying3 g0
  obtain ⟨C, k, cc, e5⟩ := ints_shape g1
  rw [e2] at f2
  rw [e5] at g1
  obtain ⟨bs, hbs⟩ := bytes_in f2
  obtain ⟨js, hjs⟩ := cuts_in g1
  simp only [List.cons.injEq, and_true] at e0 e1 e3 e4
  simp [Lit.wf, IntKind.min, IntKind.max, IntKind.signed, IntKind.bits] at w3 w4
  rw [x1] at s1
  have b1 := s1.str
  have b2 := s2.ints Tryz.underlying25 Tryz.underlying5 (by kernel_rfl) f2
  have b5 := s5.ints Tryz.underlying46 Tryz.underlying3 (by kernel_rfl) g1
  rw [show Tryz.prog.bytesOf 5 = 1 by kernel_rfl] at b2
  rw [show Tryz.prog.bytesOf 3 = 8 by kernel_rfl] at b5
  simp at b1
  refine ⟨⟨what, nm, B, bn, bc, bs, n, acts, C, k, cc, js⟩, ?_, ⟨w1, hbs, hbc, by show n ≤ _; omega, by show acts ≤ _; omega, hjs, b1, by show bn ≤ _; omega, b5⟩⟩
  apply List.ext_getElem
  · rw [hl6]; rfl
  · intro j hj _
    have : j < 6 := by omega
    match j, this with
    | 0, _ => exact e0
    | 1, _ => exact e1
    | 2, _ => exact e2
    | 3, _ => exact e3
    | 4, _ => exact e4
    | 5, _ => exact e5
set_option maxRecDepth 100000 in
theorem ops_in {A : Value} {x : DataW H × List MemPlace} {fuel : Nat} {base : Nat} {spare : Nat → Bool} {held : Bool} (h : DataW.trod enc Tryz.prog w base spare held fuel 70 [A] = some x) (hs : Sized 70 x.1) :
    ∃ (C : Option Addr) (n c : Nat) (l : List OpV), A = .slice C n c ∧ n ≤ c ∧ OpsIn w C n l := by
  rcases open_slice Tryz.underlying70 h with ⟨hcs, _⟩ | ⟨a, len, cap, m, f, D, Pl, hcs, _, hl, hm, hmm, hx, hi⟩
  · simp only [List.cons.injEq, and_true] at hcs
    exact ⟨none, 0, 0, [], hcs, Nat.le_refl _, rfl, by omega, by simp, fun _ => rfl, (fun ad e => by cases e), fun ad e => by cases e⟩
  · simp only [List.cons.injEq, and_true] at hcs
    have hlm : len ≤ m := by rw [hmm]; split <;> omega
    have cO : Tryz.prog.cellsOf 73 = 6 := by kernel_rfl
    rw [hx] at hs
    have hlen := hs.len Tryz.underlying70
    rw [show Tryz.prog.bytesOf 73 = 88 by kernel_rfl] at hlen
    simp only [List.length_map, List.length_range] at hlen
    have hex : ∀ i, i < len → ∃ o : OpV, OpIn w o ∧ ∀ (j : Nat) (v : Value), o.cells[j]? = some v → w.cell? (a.add (i * 6 + j)) = some v := by
      intro i hlt
      obtain ⟨cs', hc, ht⟩ := hi i (by omega)
      rw [cO] at hc
      obtain ⟨o, rfl, ho⟩ := op_in ht (hs.elem Tryz.underlying70 (List.mem_map.2 ⟨i, List.mem_range.2 hlt, rfl⟩))
      obtain ⟨_, _, hat⟩ := World.cells?_some hc
      refine ⟨o, ho, fun j v hv => ?_⟩
      have hj : j < 6 := (List.getElem?_eq_some_iff.1 hv).1
      rw [← add_add]
      rw [hat j hj]
      exact hv
    have hw : ∀ k, k ≤ len → ∃ l : List OpV, l.length = k ∧ (∀ o ∈ l, OpIn w o) ∧ ∀ (i : Nat) (o : OpV), l[i]? = some o → ∀ (j : Nat) (v : Value), o.cells[j]? = some v → w.cell? (a.add (i * 6 + j)) = some v := by
      intro k
      induction k with
      | zero => intro _; exact ⟨[], rfl, by simp, by simp⟩
      | succ k ih =>
        intro hk
        obtain ⟨l, h1, h2, h3⟩ := ih (by omega)
        obtain ⟨o, h4, h5⟩ := hex k (by omega)
        refine ⟨l ++ [o], by simp [h1], fun x hx => ?_, fun i y hy j v hv => ?_⟩
        · rcases List.mem_append.1 hx with h | h
          · exact h2 x h
          · rw [List.mem_singleton.1 h]; exact h4
        · rcases Nat.lt_or_ge i k with hik | hik
          · rw [List.getElem?_append_left (by omega)] at hy
            exact h3 i y hy j v hv
          · have hlt := (List.getElem?_eq_some_iff.1 hy).1
            simp [h1] at hlt
            obtain rfl : i = k := by omega
            rw [List.getElem?_append_right (by omega), h1, Nat.sub_self] at hy
            simp at hy
            subst hy
            exact h5 j v hv
    obtain ⟨l, h1, h2, h3⟩ := hw len (Nat.le_refl _)
    refine ⟨some a, len, cap, l, hcs, hl, h1, by omega, h2, (fun e => by cases e), fun ad e => by cases e; exact h3, fun ad e hn => ?_⟩
    cases e
    obtain ⟨o, _, h5⟩ := hex 0 hn
    have := h5 0 _ rfl
    simp [Addr.add] at this
    exact World.block_lt_of_cell? w a this
end
theorem take_snoc' {α : Type} (l : List α) (i : Nat) (x : α) (h : l[i]? = some x) : l.take (i + 1) = l.take i ++ [x] := by
  rw [List.take_add_one, h]; rfl
end Go.Proofs.YtmhiekbpmoikfaaGreatDoor
namespace Go.Proofs.YtmhiekbpmoikfaaGreatDoor
open Go.RowKit Go.Maps Go.WideMaps

/-- 'string(a[:p])' of a slice that came in. -/
theorem string_of_src {w : World} {A : Option Addr} {n : Nat} {d : Nm} (h : Src w A n (d.map byteV)) (p c : Nat) (hp : p ≤ n) : (convert 25 9 (.slice A p c)).run Tryz.prog w = .ok (.string ⟨(d.take p).toArray⟩) w := by
  have hl : d.length = n := by have := h.len; simpa using this
  cases A with
  | none =>
    have h0 := h.nil rfl
    have hp0 : p = 0 := by omega
    subst hp0
    rw [List.take_zero]
    exact Lib.run_convert_nil_bytes w 25 9 5 c Tryz.underlying25 Tryz.underlying5 Tryz.underlying9
  | some ad =>
    have hlt : (d.take p).length = p := by simp; omega
    have := run_convert_bytes_back (P := Tryz.prog) w 25 9 5 ad c (d.take p) Tryz.underlying25 Tryz.underlying5 Tryz.underlying9 (fun j hj => by
      refine h.cells ad rfl j _ ?_
      rw [hlt] at hj
      rw [List.getElem?_map, List.getElem?_eq_getElem (show j < d.length by omega)]
      simp [byteV])
    rw [hlt] at this
    exact this
theorem src_of_row {w : World} {A : Option Addr} {n c base : Nat} {d : Nm} (h : w.ownsRow base 5 1 (.slice A n c) n (d.map byteV)) : Src w A n (d.map byteV) := by
  refine ⟨by have := h.1; simpa using this, fun ad e j u hu => ?_, fun e => ?_⟩
  · rcases h.2 with ⟨h1, h0⟩ | ⟨g, cap, cur, h1, _⟩
    · injection h1 with h1
      rw [h1] at e; cases e
    · injection h1 with h1
      rw [h1] at e
      injection e with e
      subst e
      exact h.cells (by rw [h1]; rfl) j u hu
  · rcases h.2 with ⟨_, h0⟩ | ⟨g, cap, cur, h1, _⟩
    · exact h0
    · injection h1 with h1
      rw [h1] at e; cases e

end Go.Proofs.YtmhiekbpmoikfaaGreatDoor
namespace Go.Proofs.YtmhiekbpmoikfaaGreatDoor
open Go.RowKit Go.Maps Go.WideMaps

def OpV.key (o : OpV) : Nm := o.a.data.toList
/-- What one call comes to. -/
def Step (s : St) (o : OpV) (n : Int) (s' : St) : Prop :=
  (o.what = 0 ∧ ActEnd s (TCreate s o.key) n s') ∨
  ((o.what = 1 ∨ o.what = 2) ∧ ActEnd s (TAppend s o.key o.bs) n s') ∨
  (o.what = 3 ∧ ActEnd s (TSync s o.key) n s') ∨
  (o.what = 4 ∧ ActEnd s (TRename s o.key o.bs) n s') ∨
  (o.what = 5 ∧ ActEnd s (TRemove s o.key) n s') ∨
  (o.what = 6 ∧ ActEnd s (TSyncDir s) n s') ∨
  (o.what = 7 ∧ n = 0 ∧ s' = { s with fuse := max o.n (-1) }) ∨
  (o.what = 8 ∧ n = 0 ∧ s' = s.crashed o.acts o.cs) ∨
  ((o.what < 0 ∨ 8 < o.what) ∧ n = 0 ∧ s' = s)

theorem Left.mono {w : World} {F : Nat → Prop} {b : Nat} {T T' : Int → St → Prop} {e : Ending} {w' : World} (h : Left w F b T e w') (hT : ∀ n s', T n s' → T' n s') : Left w F b T' e w' := by
  obtain ⟨n, s', F', he, h1, h2⟩ := h
  exact ⟨n, s', F', he, hT n s' h1, h2⟩
/-- Where what a call takes lies: not in the disk. -/
def Away (F : Nat → Prop) (A : Option Addr) (n : Nat) : Prop := ∀ ad, A = some ad → 0 < n → ¬ F ad.block

theorem srcAt {w W : World} {A : Option Addr} {n : Nat} {xs : List Value} (h : Src w A n xs) (hl : ∀ ad, A = some ad → 0 < n → ad.block < w.heap.size) {F : Nat → Prop} (hk : Kept F w W) (hF : Away F A n) : Src W A n xs :=
  h.keep fun ad e hn => hk.block _ (hl ad e hn) (hF ad e hn)

end Go.Proofs.YtmhiekbpmoikfaaGreatDoor
namespace Go.Proofs.YtmhiekbpmoikfaaGreatDoor
open Go.RowKit Go.Maps Go.WideMaps

/-- The cells of a row of files. -/
def fileCells : List (Nm × Nm) → List Value → List Value
  | x :: l, v :: r => encStr x.1 :: v :: fileCells l r
  | _, _ => []
theorem fileCells_snoc (x : Nm × Nm) (v : Value) : ∀ (l : List (Nm × Nm)) (r : List Value), l.length = r.length → fileCells (l ++ [x]) (r ++ [v]) = fileCells l r ++ [encStr x.1, v]
  | [], [], _ => rfl
  | y :: l, u :: r, h => by
    simp only [List.cons_append, fileCells]
    rw [fileCells_snoc x v l r (by simpa using h)]
theorem fileCells_at : ∀ (l : List (Nm × Nm)) (r : List Value) (i : Nat) (x : Nm × Nm) (v : Value), l[i]? = some x → r[i]? = some v → (fileCells l r)[i * 2]? = some (encStr x.1) ∧ (fileCells l r)[i * 2 + 1]? = some v
  | y :: l, u :: r, 0, x, v, h, h' => by
    simp at h h'
    subst h h'
    exact ⟨rfl, rfl⟩
  | y :: l, u :: r, i + 1, x, v, h, h' => by
    have := fileCells_at l r i x v (by simpa using h) (by simpa using h')
    simpa [fileCells, Nat.add_mul] using this
/-- A row of files of the call's own, with the bytes of each. -/
def FilesRow (w : World) (base : Nat) (v : Value) (l : List (Nm × Nm)) : Prop :=
  ∃ svs : List Value, svs.length = l.length ∧ w.ownsRow base 40 2 v l.length (fileCells l svs) ∧ ∀ (i : Nat) (sv : Value) (x : Nm × Nm), svs[i]? = some sv → l[i]? = some x → w.ownsRow base 5 1 sv x.2.length (x.2.map byteV)
theorem FilesRow.frame {w w' : World} {base : Nat} {v : Value} {l : List (Nm × Nm)} (h : FilesRow w base v l) (hb : ∀ g, base ≤ g → g < w.heap.size → w'.heap[g]? = w.heap[g]?) : FilesRow w' base v l := by
  obtain ⟨svs, h1, h2, h3⟩ := h
  exact ⟨svs, h1, ownsRow_block h2 fun g hg => hb g (h2.lt g hg).1 (h2.lt g hg).2, fun i sv x e1 e2 => by
    have h4 := h3 i sv x e1 e2
    exact ownsRow_block h4 fun g hg => hb g (h4.lt g hg).1 (h4.lt g hg).2⟩
theorem FilesRow.kept {F : Nat → Prop} {w w' : World} {base : Nat} {v : Value} {l : List (Nm × Nm)} (h : FilesRow w base v l) (hk : Kept F w w') (hF : ∀ i, F i → i < base) : FilesRow w' base v l :=
  h.frame fun g hb hl => hk.block g hl (fun hf => by have := hF g hf; omega)
theorem FilesRow.below {w w' : World} {base : Nat} {v : Value} {l : List (Nm × Nm)} (h : FilesRow w base v l) (hk : Below w.heap.size w w') : FilesRow w' base v l :=
  h.frame fun g _ hl => hk.block g hl

theorem FilesRow.snoc {w : World} {base : Nat} {v : Value} {l : List (Nm × Nm)} {svs : List Value} (h1 : svs.length = l.length) (h3 : ∀ (i : Nat) (sv : Value) (x : Nm × Nm), svs[i]? = some sv → l[i]? = some x → w.ownsRow base 5 1 sv x.2.length (x.2.map byteV)) {x : Nm × Nm} {sv : Value}
    (h2 : w.ownsRow base 40 2 v (l.length + 1) (fileCells l svs ++ [encStr x.1, sv])) (h4 : w.ownsRow base 5 1 sv x.2.length (x.2.map byteV)) : FilesRow w base v (l ++ [x]) := by
  refine ⟨svs ++ [sv], by simp [h1], by rw [fileCells_snoc x sv l svs h1.symm]; simpa using h2, fun i sv' x' e1 e2 => ?_⟩
  rcases Nat.lt_or_ge i l.length with hl | hl
  · rw [List.getElem?_append_left (by omega)] at e1 e2
    exact h3 i sv' x' e1 e2
  · have hlt := (List.getElem?_eq_some_iff.1 e2).1
    simp at hlt
    obtain rfl : i = l.length := by omega
    rw [List.getElem?_append_right (by omega)] at e1 e2
    simp [h1] at e1 e2
    subst e1 e2
    exact h4
theorem own_mono {w : World} {base base' : Nat} {e : TypeId} {size n : Nat} {v : Value} {xs : List Value} (h : w.ownsRow base e size v n xs) (hb : base' ≤ base) : w.ownsRow base' e size v n xs := by
  refine ⟨h.1, ?_⟩
  rcases h.2 with h1 | ⟨g, cap, cur, e, h1, h2⟩
  · exact .inl h1
  · exact .inr ⟨g, cap, cur, e, Nat.le_trans hb h1, h2⟩
theorem fileInfo : (Tryz.prog.info? 40).map (fun i => (i.zero, i.size, i.bytes)) = some (some (.agg #[.string ⟨#[]⟩, .slice none 0 0]), 2, 40) := by kernel_rfl

set_option maxHeartbeats 4000000 in
set_option maxRecDepth 100000 in
theorem Files_any {w : World} {F : Nat → Prop} {b : Nat} {s : St} (hD : Disk w F b s) :
    Calls Tryz.prog 41 #[at0 b] w fun e w' => ∃ v, e = .returned v ∧ FilesRow w' w.heap.size v (filesOf s) ∧ Below w.heap.size w w' := by
  obtain ⟨bn, bo, cv, cls, fv, hd⟩ := hD
  obtain ⟨i0, hi, hz0, hz1, hz2⟩ := info_parts fileInfo
  have hlen := hd.now.len (t := 116) Tryz.underlying116 3
  rw [toD_size] at hlen
  have h64 := hd.wf.nnow
  have hmk := fun W => run_make (P := Tryz.prog) W 37 40 i0 _ Tryz.underlying37 hi hz0 .i64 .i64 0 s.now.length (by omega) (by omega) (by rw [hz2]; omega) (by omega)
  have c1 := hd.blk.cell 1
  simp at c1
  have c2 : ∀ o, (w.alloc o).cell? ⟨b, 1, none⟩ = some (.map (some bn)) := fun o => by
    have := (hd.blk.alloc o).cell 1
    simpa using this
  have hnames := fun o => names_any (hd.now.alloc o) (by omega)
  have hpw := Lib.hid (pairs_ne (dir_sorted hd.now))
  have hnl := Lib.hid (dir_names_len hd.now)
  have HN := Lib.hid hnames
  have HI := Lib.hid hd
  clear hd hnames
  unfold at0
  go_enter Tryz.func41, Tryz.ntmps41
  go_wp2_with (go_at_call 102; refine (HN.out _).mono ?_; rintro e w2 ⟨v, rfl, hrow, hbl2⟩; obtain ⟨An, cpn, hvn⟩ := own_slice hrow; rw [hvn]; rw [hvn] at hrow; have HROW := Lib.hid hrow; clear hrow hvn)
  have hb1 : Below w.heap.size w (w.alloc (.cells (madeCells (Value.agg #[.string ⟨#[]⟩, .slice none 0 0]).cells ((s.now.length : Int).toNat * i0.size)) 40)) := (Below.refl _ w).alloc (Nat.le_refl _) _
  have hs1 : (w.alloc (.cells (madeCells (Value.agg #[.string ⟨#[]⟩, .slice none 0 0]).cells ((s.now.length : Int).toNat * i0.size)) 40)).heap.size = w.heap.size + 1 := by simp
  have hown1 := World.ownsRow_made (base := w.heap.size) (e := 40) (size := 2) w (madeCells (Value.agg #[.string ⟨#[]⟩, .slice none 0 0]).cells ((s.now.length : Int).toNat * i0.size)) s.now.length (Nat.le_refl _) (by unfold maxLen; omega) (by rw [size_madeCells, hz1]; simp)
  simp only [Value.cells, Int.toNat_natCast, hz1] at hb1 hs1 hown1
  generalize hW1 : w.alloc (.cells (madeCells #[Value.string ⟨#[]⟩, .slice none 0 0] (s.now.length * 2)) 40) = W1 at *
  have hown2 := ownsRow_block hown1 (w' := w2) fun g hg => hbl2.block g (hown1.lt g hg).2
  have hbel2 : Below w.heap.size w w2 := hb1.trans (hbl2.mono (by omega))
  have hsz2 := hbel2.size
  have hlen3 : w.heap.size + 1 ≤ w2.heap.size := by have := hbl2.size; omega
  have HS1 := Lib.hid hs1
  have HBL := Lib.hid hbl2
  clear hmk hW1 c1 c2 hs1 hb1 hown1 hbl2
  go_loopw [3, 18] (fun v i wr => ∃ k : Nat, k ≤ s.now.length ∧ i = .int .i64 k ∧ FilesRow wr w.heap.size v ((filesOf s).take k) ∧ Below w.heap.size w wr ∧ wr.ownsRow (w.heap.size + 1) 9 1 (.slice An s.now.length cpn) s.now.length (s.now.map fun p => encStr p.1))
    (fun _ i _ => s.now.length - (intOf i).toNat)
  case atStart => exact ⟨0, Nat.zero_le _, rfl, ⟨[], rfl, hown2, by simp⟩, hbel2, by have h := HROW.out; rw [HS1.out] at h; exact h⟩
  case round =>
    obtain ⟨k, hk, rfl, hrow, hbr, hnr⟩ := hrel
    have HNR := Lib.hid hnr
    have HFR := Lib.hid hrow
    have hsr := hbr.size
    clear hnr hrow
    by_cases hlt : k < s.now.length
    · have hp : s.now[k]? = some s.now[k] := List.getElem?_eq_getElem hlt
      have hmem : s.now[k] ∈ s.now := List.getElem_mem hlt
      have hd := HI.out
      have hi' : s.now[k].2 ∈ s.ids := hd.wf.now_id _ hmem
      have hdr : ∀ i, F i → wr.heap[i]? = w.heap[i]? := fun i hi => hbr.block i (hd.lt i hi)
      have hd' := hd.frame hdr hsr
      have hlk : (Instr.lookup 116 (.map (some bn)) (.string ⟨s.now[k].1.toArray⟩) false).run Tryz.prog wr = .ok (.pointer (some ⟨s.now[k].2, 0, none⟩)) wr := by
        have h := look_at (w := wr) (bn := bn) (d := s.now) hd'.now (nm := ⟨s.now[k].1.toArray⟩) (by have := hnl.out _ hmem; simpa [ByteArray.size] using this)
        have h2 := dget_of_mem hpw.out _ hmem
        simp only [h2, ptrOf, at0] at h
        exact h
      have f1 := hd'.blk.cell 1
      simp at f1
      have hf := hd'.files _ hi'
      have f0 := hf.1.cell 0
      simp at f0
      have hfit := (hd'.wf.fit _ hi').2
      have hc := cloneFile_any hf hfit
      rcases HNR.out.2 with ⟨_, h0⟩ | ⟨gn, capn, cur, hvn, hgn, hgh, _⟩
      · omega
      have hAn : An = some ⟨gn, 0, none⟩ := by injection hvn
      have hnc : wr.cell? ⟨gn, k, none⟩ = some (.string ⟨s.now[k].1.toArray⟩) := by
        have h1 := HNR.out.cells (g := gn) (by rw [hAn]; rfl) k (.string ⟨s.now[k].1.toArray⟩) (by rw [List.getElem?_map, hp]; rfl)
        rw [Addr.add_mid] at h1
        simpa using h1
      have htk : (filesOf s).take (k + 1) = (filesOf s).take k ++ [(s.now[k].1, s.dat s.now[k].2)] := take_snoc' _ k _ (by simp [filesOf, hp])
      have hlk2 : ((filesOf s).take k).length = k := by simp [filesOf]; omega
      have HC := Lib.hid hc
      have HP := Lib.hid hp
      have HAN := Lib.hid hAn
      have HTK := Lib.hid htk
      have HL2 := Lib.hid hlk2
      have HK := Lib.hid hk
      clear hd hd' hdr hc hf hp hAn htk hlk2 hvn hgh hmem hk
      rw [HAN.out]
      generalize hq : s.now[k] = q at *
      have HQ := Lib.hid hq
      clear hq
      obtain ⟨svs, g1, g2, g3⟩ := HFR.out
      have G1 := Lib.hid g1
      have G2 := Lib.hid g2
      have G3 := Lib.hid g3
      clear g1 g2 g3
      go_wp2_with (first
        | (go_at_call 73; refine (Hid.out HC).mono ?_; rintro e w3 ⟨v', rfl, hrow3, hb3⟩; obtain ⟨A3, cp3, hv3⟩ := own_slice hrow3; have HB3 := Lib.hid hb3; have HR3 := Lib.hid hrow3; have hs3 := hb3.size; have G2' := Lib.hid (fun o : Obj => ownsRow_block G2.out (w' := w3.alloc o) (fun g hg => (hb3.alloc hb3.size o).block g (G2.out.lt g hg).2)); rw [HL2.out] at G2'; subst hv3; clear hb3 hrow3)
        | (at_builtin; refine wpList_append_own _ rfl _ _ 37 rfl w.heap.size 40 i0 _ 2 40 Tryz.underlying37 hi hz0 hz1 hz2 rfl (by decide) _ k _ rfl (G2'.out _) ⟨w3.heap.size, 0, none⟩ 1 1 [encStr q.1, .slice A3 (s.dat q.2).length cp3] rfl rfl (by intro j u hu; rw [Addr.add_mid, cell_of_row _ _ _ _ _ _ (heap_alloc_new w3 _)]; simpa [encStr] using hu) (by intro u hu; simp at hu; rcases hu with rfl | rfl <;> rfl) (by unfold maxLen; omega) (by omega) (by simp; omega) ?_; intro v4 w4 hown4 hgrow4 hnil4; clear hnil4))
      go_roundw
      case rel =>
        have hg4 : (w3.alloc (.cells #[.string ⟨q.1.toArray⟩, .slice A3 (s.dat q.2).length cp3] 40)).grownBy w4 u3.ownBlock := hgrow4
        have hb4 : Below wr.heap.size wr (w3.alloc (.cells #[.string ⟨q.1.toArray⟩, .slice A3 (s.dat q.2).length cp3] 40)) := HB3.out.alloc hs3 _
        have hfr : ∀ g, g < wr.heap.size → u3.ownBlock ≠ some g → w4.heap[g]? = wr.heap[g]? := fun g hg hn => (hg4.block g (Nat.lt_of_lt_of_le hg hb4.size) (fun e => hn e.symm)).trans (hb4.block g hg)
        have g2 := G2.out
        have g1 := G1.out
        have hr4 : w4.ownsRow w.heap.size 5 1 (.slice A3 (s.dat q.2).length cp3) (s.dat q.2).length ((s.dat q.2).map byteV) := by
          refine own_mono (ownsRow_block HR3.out fun g hg => ?_) hsr
          have h1 := HR3.out.lt g hg
          rw [hg4.block g (by simp; omega) (fun e => by have := (g2.lt g e.symm).2; omega)]
          exact Below.heap_alloc w3 _ g h1.2
        refine ⟨k + 1, by omega, by go_num, ?_, (hbr.trans (hb4.mono hsr)).grown hg4 (by simp; omega) (fun j hj => (g2.lt j hj).1), ?_⟩
        · rw [HTK.out]
          refine FilesRow.snoc g1 (fun i sv x e1 e2 => ?_) ?_ hr4
          · have h3 := G3.out i sv x e1 e2
            exact ownsRow_block h3 fun g hg => hfr g (h3.lt g hg).2 (own_row_ne h3 g2 (by decide) g hg)
          · rw [HL2.out]
            exact hown4
        · have h5 := HNR.out
          rw [HAN.out] at h5
          exact ownsRow_block h5 fun g hg => hfr g (h5.lt g hg).2 (own_row_ne h5 g2 (by decide) g hg)
      case measure => simp [intOf]; omega
    · obtain rfl : k = s.now.length := by omega
      go_wp2
      go_ret
      have h := HFR.out
      rw [List.take_of_length_le (by simp [filesOf])] at h
      exact ⟨_, rfl, h, hbr⟩
end Go.Proofs.YtmhiekbpmoikfaaGreatDoor
