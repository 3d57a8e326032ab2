/- The document's disk and the program's: one call keeps them alike. -/
import Derived.Test.YtblpppeppgfbpaaR1Alike
import Derived.Test.YtblpppeppgfbpaaR1Twin
import Derived.WideAt
import Derived.WideShapes
namespace Go.Proofs.Ytblpppeppgfbpaa
open Go.RowKit Go.Maps Go.WideMaps

theorem lt_trans' (x y z : Nm) (h : bytesBefore x y = true) (k : bytesBefore y z = true) : bytesBefore x z = true := Go.WideShapes.bytes_trans x y z h k
def Sorted (d : Dir) : Prop := d.Pairwise (fun p q => bytesBefore p.1 q.1 = true)
theorem sorted_dins (k : Nm) (v : Nat) : ∀ d : Dir, Sorted d → (∀ p ∈ d, p.1 ≠ k) → Sorted (dins k v d)
  | [], _, _ => List.pairwise_singleton _ _
  | p :: r, hs, hk => by
    obtain ⟨h1, h2⟩ := List.pairwise_cons.1 hs
    by_cases h : bytesBefore k p.1 = true
    · rw [dins_stop k v p r h]
      refine List.pairwise_cons.2 ⟨fun q hq => ?_, hs⟩
      rcases List.mem_cons.1 hq with e | e
      · rw [e]; exact h
      · exact lt_trans' _ _ _ h (h1 q e)
    · have h' : bytesBefore k p.1 = false := by simpa using h
      rw [dins_step k v p r h']
      refine List.pairwise_cons.2 ⟨fun q hq => ?_, sorted_dins k v r h2 fun q hq => hk q (List.mem_cons_of_mem _ hq)⟩
      rcases (mem_dins k v q r).1 hq with e | e
      · rw [e]; exact before_total k p.1 (fun e => hk p (List.mem_cons_self ..) e.symm) h'
      · exact h1 q e
/-- A directory in order, whose names are names, of n files. -/
structure Good (n : Nat) (d : Dir) : Prop where
  sorted : Sorted d
  mem : ∀ p ∈ d, p.1 ≠ [] ∧ p.2 < n
theorem Good.nil (n : Nat) : Good n [] := ⟨List.Pairwise.nil, fun p h => by cases h⟩
theorem Good.more {n m : Nat} {d : Dir} (h : Good n d) (hm : n ≤ m) : Good m d := ⟨h.sorted, fun p hp => ⟨(h.mem p hp).1, Nat.lt_of_lt_of_le (h.mem p hp).2 hm⟩⟩
theorem Good.del {n : Nat} {d : Dir} (h : Good n d) (k : Nm) : Good n (ddel d k) := ⟨h.sorted.filter _, fun p hp => h.mem p (mem_ddel.1 hp).1⟩
theorem Good.put {n : Nat} {d : Dir} (h : Good n d) {k : Nm} {v : Nat} (hk : k ≠ []) (hv : v < n) : Good n (dput d k v) :=
  ⟨sorted_dins k v _ (h.del k).sorted fun p hp => (mem_ddel.1 hp).2, fun p hp => by
    rcases mem_dput.1 hp with e | e
    · rw [e]; exact ⟨hk, hv⟩
    · exact h.mem p e.1⟩
theorem Good.eff {n : Nat} {d : Dir} (h : Good n d) {x : RCh} (hx : x.to = [] ∨ x.file < n) : Good n (x.eff d) := by
  unfold RCh.eff
  by_cases h1 : x.to = []
  · rw [if_pos h1]
    split
    · exact h
    · exact h.del _
  · rw [if_neg h1]
    have h2 : x.file < n := hx.resolve_left h1
    split
    · exact h.put h1 h2
    · exact (h.del _).put h1 h2
theorem dmap_congr {f g : Nat → Nat} {d : Dir} (h : ∀ p ∈ d, f p.2 = g p.2) : dmap f d = dmap g d := List.map_congr_left fun p hp => by rw [h p hp]
theorem sorted_dmap {f : Nat → Nat} {d : Dir} (h : Sorted d) : Sorted (dmap f d) := List.pairwise_map.2 h

/-- Both disks alike: f tells where the program's file lies that has the document's number. -/
structure Sim (s : St) (r : RSt) (f : Nat → Nat) : Prop where
  room : r.room = s.room
  len : r.chs.length = s.chs.length
  effr : rEffAll r.old r.chs = r.dir
  all : ∀ m, Good r.ino.length (rEffAll r.old (r.chs.take m)) ∧ dmap f (rEffAll r.old (r.chs.take m)) = effAll s.old (s.chs.take m)
  ids : ∀ j, j < r.ino.length → f j ∈ s.ids
  inj : ∀ i j, i < r.ino.length → j < r.ino.length → f i = f j → i = j
  dat : ∀ (j : Nat) (x : Nm × Nat), r.ino[j]? = some x → s.dat (f j) = x.1 ∧ s.syn (f j) = x.2
  acts : r.done = s.acts
  fuse : s.fuse = if r.fused = true then (r.left : Int) else -1
  off : r.off = s.down
section
variable {s : St} {r : RSt} {f : Nat → Nat}
theorem Sim.good (h : Sim s r f) : Good r.ino.length r.dir := by
  have := (h.all r.chs.length).1
  rw [List.take_length, h.effr] at this
  exact this
theorem Sim.effs (h : Sim s r f) : dmap f r.dir = effAll s.old s.chs := by
  have := (h.all r.chs.length).2
  rw [List.take_length, h.effr, h.len, List.take_length] at this
  exact this
theorem Sim.now (h : Sim s r f) (hw : WF s) (hm : s.mid = false) : dmap f r.dir = s.now := h.effs.trans (hw.eff hm)
theorem Sim.get (h : Sim s r f) (hw : WF s) (hm : s.mid = false) (k : Nm) : dget s.now k = (dget r.dir k).map f := by rw [← h.now hw hm, dget_dmap]
theorem Sim.at (h : Sim s r f) {k : Nm} {j : Nat} (hk : dget r.dir k = some j) : k ≠ [] ∧ j < r.ino.length := h.good.mem _ (dget_mem hk)
theorem Sim.datAt (h : Sim s r f) {j : Nat} (hj : j < r.ino.length) : rDat r j = s.dat (f j) := by
  have e := List.getElem?_eq_getElem hj
  rw [rDat_at e, (h.dat j _ e).1]
theorem Sim.sum (h : Sim s r f) (hw : WF s) (hm : s.mid = false) : rSum r r.dir = lenSum s.dat s.now := by
  rw [← h.now hw hm]
  unfold rSum lenSum dmap
  rw [List.map_map]
  congr 1
  refine List.map_congr_left fun p hp => ?_
  show _ = (s.dat (f p.2)).length
  rw [h.datAt (h.good.mem p hp).2]
theorem Sim.power (h : Sim s r f) : (rPower r).off = true ↔ s.fuse = 0 ∨ s.down = true := by
  unfold rPower
  simp only [Bool.or_eq_true, Bool.and_eq_true, beq_iff_eq, h.off, h.fuse]
  cases r.fused with
  | true => simp; exact Or.comm
  | false => simp
theorem Sim.offed (h : Sim s r f) (ho : (rPower r).off = true) : Sim { s with down := true } (rPower r) f :=
  { h with off := ho }
theorem Sim.did (h : Sim s r f) (hf : s.fuse ≠ 0) : Sim { s with acts := s.acts + 1, fuse := if 0 < s.fuse then s.fuse - 1 else s.fuse } (rDid r) f :=
  { h with
    acts := by show r.done + 1 = s.acts + 1; rw [h.acts]
    fuse := by
      have h1 := h.fuse
      show (if 0 < s.fuse then s.fuse - 1 else s.fuse) = if r.fused = true then (((if r.fused = true then r.left - 1 else r.left) : Nat) : Int) else -1
      cases hfu : r.fused with
      | true =>
        rw [hfu, if_pos rfl] at h1
        rw [if_pos (by omega), if_pos rfl, if_pos rfl]
        omega
      | false =>
        rw [hfu, if_neg (by simp)] at h1
        rw [if_neg (by omega), if_neg (by simp), h1] }
theorem Sim.change (h : Sim s r f) (hn : effAll s.old s.chs = s.now) (x : RCh) (c : Ch) (hx : x.to = [] ∨ x.file < r.ino.length) (he : dmap f (x.eff r.dir) = c.eff s.now) :
    Sim { s with now := c.eff s.now, chs := s.chs ++ [c] } { r with dir := x.eff r.dir, chs := r.chs ++ [x] } f :=
  { h with
    len := by simp [h.len]
    effr := by show rEffAll r.old (r.chs ++ [x]) = x.eff r.dir; rw [rEffAll_snoc, h.effr]
    all := fun m => by
      show Good r.ino.length (rEffAll r.old ((r.chs ++ [x]).take m)) ∧ dmap f (rEffAll r.old ((r.chs ++ [x]).take m)) = effAll s.old ((s.chs ++ [c]).take m)
      rcases Nat.lt_or_ge r.chs.length m with hm | hm
      · rw [List.take_of_length_le (by simp; omega), List.take_of_length_le (by simp; have := h.len; omega), rEffAll_snoc, effAll_snoc, h.effr, hn]
        exact ⟨h.good.eff hx, he⟩
      · rw [List.take_append_of_le_length hm, List.take_append_of_le_length (by have := h.len; omega)]
        exact h.all m }
theorem Sim.add (h : Sim s r f) {i : Nat} (hi : i ∉ s.ids) : Sim (s.addFile i) { r with ino := r.ino ++ [([], 0)] } (upd f r.ino.length i) :=
  { h with
    all := fun m => by
      obtain ⟨h1, h2⟩ := h.all m
      refine ⟨h1.more (by simp), ?_⟩
      refine (dmap_congr fun p hp => ?_).trans h2
      show upd f r.ino.length i p.2 = f p.2
      unfold upd
      rw [if_neg (by have := (h1.mem p hp).2; omega)]
    ids := fun j hj => by
      show upd f r.ino.length i j ∈ i :: s.ids
      unfold upd
      split
      · exact List.mem_cons_self ..
      · have : j < r.ino.length + 1 := by simpa using hj
        exact List.mem_cons_of_mem _ (h.ids j (by omega))
    inj := fun a b ha hb e => by
      have ha' : a < r.ino.length + 1 := by simpa using ha
      have hb' : b < r.ino.length + 1 := by simpa using hb
      unfold upd at e
      split at e
      · split at e
        · omega
        · exact absurd (e ▸ h.ids b (by omega)) hi
      · split at e
        · exact absurd (e.symm ▸ h.ids a (by omega)) hi
        · exact h.inj a b (by omega) (by omega) e
    dat := fun j x hx => by
      show upd s.dat i [] (upd f r.ino.length i j) = x.1 ∧ upd s.syn i 0 (upd f r.ino.length i j) = x.2
      have hx' : (r.ino ++ [([], 0)])[j]? = some x := hx
      rcases Nat.lt_or_ge j r.ino.length with hj | hj
      · rw [List.getElem?_append_left hj] at hx'
        have e : upd f r.ino.length i j = f j := by unfold upd; rw [if_neg (by omega)]
        have hne : f j ≠ i := fun e => hi (e ▸ h.ids j hj)
        rw [e]
        unfold upd
        rw [if_neg hne, if_neg hne]
        exact h.dat j x hx'
      · have hl := (List.getElem?_eq_some_iff.1 hx').1
        simp at hl
        obtain rfl : j = r.ino.length := by omega
        simp at hx'
        subst hx'
        simp [upd] }
theorem Sim.set (h : Sim s r f) {j : Nat} (hj : j < r.ino.length) (x : Nm × Nat) : Sim { s with dat := upd s.dat (f j) x.1, syn := upd s.syn (f j) x.2 } { r with ino := r.ino.set j x } f :=
  { h with
    all := fun m => by
      show Good (r.ino.set j x).length _ ∧ _
      rw [List.length_set]
      exact h.all m
    ids := fun i hi => h.ids i (by simpa using hi)
    inj := fun a b ha hb e => h.inj a b (by simpa using ha) (by simpa using hb) e
    dat := fun i y hy => by
      show upd s.dat (f j) x.1 (f i) = y.1 ∧ upd s.syn (f j) x.2 (f i) = y.2
      have hy' : (r.ino.set j x)[i]? = some y := hy
      have hi : i < r.ino.length := by have := (List.getElem?_eq_some_iff.1 hy').1; simpa using this
      by_cases hij : i = j
      · subst hij
        rw [List.getElem?_set_self hj] at hy'
        cases hy'
        simp [upd]
      · rw [List.getElem?_set_ne (fun e => hij e.symm)] at hy'
        have hne : f i ≠ f j := fun e => hij (h.inj i j hi hj e)
        unfold upd
        rw [if_neg hne, if_neg hne]
        exact h.dat i y hy' }
theorem Sim.same {s' : St} (h : Sim s r f) (e1 : s'.room = s.room) (e2 : s'.old = s.old) (e3 : s'.chs = s.chs) (e4 : s'.ids = s.ids) (e5 : s'.dat = s.dat) (e6 : s'.syn = s.syn) (e7 : s'.acts = s.acts) (e8 : s'.fuse = s.fuse) (e9 : s'.down = s.down) : Sim s' r f :=
  ⟨by rw [e1]; exact h.room, by rw [e3]; exact h.len, h.effr, by rw [e2, e3]; exact h.all, by rw [e4]; exact h.ids, h.inj, by rw [e5, e6]; exact h.dat, by rw [e7]; exact h.acts, by rw [e8]; exact h.fuse, by rw [e9]; exact h.off⟩

theorem cutN_room (s : St) (cs : List Int) (d : Dir) : ∀ j, (cutN s cs d j).room = s.room
  | 0 => rfl
  | j + 1 => by
    simp only [cutN]
    split <;> exact cutN_room s cs d j
theorem cutN_acts' (s : St) (cs : List Int) (d : Dir) : ∀ j, (cutN s cs d j).acts = s.acts
  | 0 => rfl
  | j + 1 => by
    simp only [cutN]
    split <;> exact cutN_acts' s cs d j
theorem cut_sim {s : St} {ino : List (Nm × Nat)} {f : Nat → Nat} {d : Dir} (cs : List Int) (hd : ∀ p ∈ d, p.2 < ino.length) (hinj : ∀ i j, i < ino.length → j < ino.length → f i = f j → i = j)
    (h : ∀ (j : Nat) (x : Nm × Nat), ino[j]? = some x → s.dat (f j) = x.1 ∧ s.syn (f j) = x.2) : ∀ (k : Nat) (j : Nat) (x : Nm × Nat), (rCutN ino cs d k)[j]? = some x → (cutN s cs (dmap f d) k).dat (f j) = x.1 ∧ (cutN s cs (dmap f d) k).syn (f j) = x.2
  | 0, j, x, hx => h j x hx
  | k + 1, j, x, hx => by
    have ih := cut_sim cs hd hinj h k
    cases hp : d[k]? with
    | none =>
      have e1 : rCutN ino cs d (k + 1) = rCutN ino cs d k := by simp only [rCutN, hp]
      have e2 : cutN s cs (dmap f d) (k + 1) = cutN s cs (dmap f d) k := by
        have : (dmap f d)[k]? = none := by simp [dmap, hp]
        simp only [cutN, this]
      rw [e1] at hx
      rw [e2]
      exact ih j x hx
    | some p =>
      have hpl := hd p (List.mem_of_getElem? hp)
      obtain ⟨y, hy⟩ : ∃ y, (rCutN ino cs d k)[p.2]? = some y := ⟨_, List.getElem?_eq_getElem (by rw [rCutN_len]; exact hpl)⟩
      rw [rCutN_succ ino cs d k hp hy] at hx
      have hp2 : (dmap f d)[k]? = some (p.1, f p.2) := by simp [dmap, hp]
      rw [cutN_succ s cs (dmap f d) k hp2]
      obtain ⟨i1, i2⟩ := ih p.2 y hy
      have hj : j < ino.length := by have := (List.getElem?_eq_some_iff.1 hx).1; rw [List.length_set, rCutN_len] at this; exact this
      have hkl : keepLen (cutN s cs (dmap f d) k) (f p.2) (cutOf cs k) = rKeep y (cutOf cs k) := by unfold keepLen rKeep; rw [i1, i2]
      show upd (cutN s cs (dmap f d) k).dat (f p.2) (((cutN s cs (dmap f d) k).dat (f p.2)).take (keepLen (cutN s cs (dmap f d) k) (f p.2) (cutOf cs k))) (f j) = x.1 ∧ upd (cutN s cs (dmap f d) k).syn (f p.2) (keepLen (cutN s cs (dmap f d) k) (f p.2) (cutOf cs k)) (f j) = x.2
      rw [hkl, i1]
      by_cases hjp : j = p.2
      · subst hjp
        rw [List.getElem?_set_self (by rw [rCutN_len]; exact hj)] at hx
        cases hx
        simp [upd, rCut]
      · rw [List.getElem?_set_ne (fun e => hjp e.symm)] at hx
        have hne : f j ≠ f p.2 := fun e => hjp (hinj j p.2 hj hpl e)
        unfold upd
        rw [if_neg hne, if_neg hne]
        exact ih j x hx
theorem Sim.crashed (h : Sim s r f) (acts : Int) (cs : List Int) : Sim (s.crashed acts cs) (rCrashed r acts cs) f := by
  obtain ⟨g1, g2⟩ := h.all (partN acts r.chs.length)
  have hb : rBack r acts = rEffAll r.old (r.chs.take (partN acts r.chs.length)) := rfl
  have hn : (s.replayed acts).now = dmap f (rBack r acts) := by
    show effAll s.old (s.chs.take (partN acts s.chs.length)) = _
    rw [hb, g2, h.len]
  have hlen : (rCutN r.ino cs (rBack r acts) (rBack r acts).length).length = r.ino.length := rCutN_len _ _ _ _
  have hc := cut_sim (s := s.replayed acts) cs (d := rBack r acts) (fun p hp => (g1.mem p hp).2) h.inj h.dat (rBack r acts).length
  rw [← hn] at hc
  have hl : (rBack r acts).length = (s.replayed acts).now.length := by rw [hn, dmap_len]
  refine ⟨?_, rfl, rfl, ?_, ?_, ?_, ?_, ?_, rfl, rfl⟩
  · show r.room = (cutN (s.replayed acts) cs (s.replayed acts).now (s.replayed acts).now.length).room
    rw [cutN_room]
    exact h.room
  · intro m
    show Good (rCutN r.ino cs (rBack r acts) (rBack r acts).length).length (rEffAll (rBack r acts) (([] : List RCh).take m)) ∧ dmap f (rEffAll (rBack r acts) (([] : List RCh).take m)) = effAll (s.replayed acts).now (([] : List Ch).take m)
    rw [hlen, List.take_nil, List.take_nil, hn]
    exact ⟨g1, rfl⟩
  · intro j hj
    have hj' : j < r.ino.length := by have : j < (rCutN r.ino cs (rBack r acts) (rBack r acts).length).length := hj; rw [hlen] at this; exact this
    show f j ∈ (cutN (s.replayed acts) cs (s.replayed acts).now (s.replayed acts).now.length).ids
    rw [cutN_ids]
    exact h.ids j hj'
  · intro a b ha hb' e
    have ha' : a < (rCutN r.ino cs (rBack r acts) (rBack r acts).length).length := ha
    have hb'' : b < (rCutN r.ino cs (rBack r acts) (rBack r acts).length).length := hb'
    rw [hlen] at ha' hb''
    exact h.inj a b ha' hb'' e
  · intro j x hx
    rw [hl] at hc
    exact hc j x (by rw [← hl]; exact hx)
  · show r.done = (cutN (s.replayed acts) cs (s.replayed acts).now (s.replayed acts).now.length).acts
    rw [cutN_acts']
    exact h.acts
/-- Either the power is gone, on both, or the own part is done. -/
theorem Sim.act (h : Sim s r f) {T : Int → St → Prop} {n : Int} {s' : St} (ha : ActEnd s T n s') :
    ((rPower r).off = true ∧ n = 14 ∧ Sim s' (rPower r) f) ∨ ((rPower r).off = false ∧ s.fuse ≠ 0 ∧ ∃ s1, T n s1 ∧ s1.fuse = s.fuse ∧ ((n ≠ 0 ∧ s' = s1) ∨ (n = 0 ∧ s' = { s1 with acts := s1.acts + 1, fuse := if 0 < s1.fuse then s1.fuse - 1 else s1.fuse }))) := by
  rcases ha with ⟨h1, rfl, rfl⟩ | ⟨h1, h2, s1, hT, e1, e2, e3, h3⟩
  · have ho := h.power.2 h1
    exact .inl ⟨ho, rfl, h.offed ho⟩
  · refine .inr ⟨?_, h1, s1, hT, e2, h3⟩
    cases ho : (rPower r).off with
    | false => rfl
    | true =>
      rcases h.power.1 ho with h4 | h4
      · exact absurd h4 h1
      · rw [h2] at h4; cases h4
theorem name_ne {k : Nm} (h : okName k = true) : k ≠ [] := by
  rintro rfl
  simp [okName] at h
theorem Sim.create (h : Sim s r f) (hw : WF s) (hm : s.mid = false) {k : Nm} {n : Int} {s' : St} (ha : ActEnd s (TCreate s k) n s') : n = (rCreate r k).1 ∧ ∃ f', Sim s' (rCreate r k).2 f' := by
  have hg := h.get hw hm k
  have hnl : s.now.length = r.dir.length := by rw [← h.now hw hm, dmap_len]
  rcases h.act ha with ⟨ho, rfl, h2⟩ | ⟨ho, hf, s1, hT, ef, h3⟩
  · unfold rCreate
    rw [if_pos ho]
    exact ⟨rfl, f, h2⟩
  · unfold rCreate
    rw [if_neg (by simp [ho])]
    rcases hT with ⟨t1, rfl, rfl⟩ | ⟨t1, t2, rfl, rfl⟩ | ⟨t1, t2, t3, rfl, rfl⟩ | ⟨t1, t2, t3, rfl, i, hi, rfl⟩
    · rw [if_pos t1]
      rcases h3 with ⟨_, rfl⟩ | ⟨h0, _⟩
      · exact ⟨rfl, f, h⟩
      · omega
    · rw [if_neg (by simp [t1])]
      rw [hg] at t2
      cases hd : dget r.dir k with
      | none => rw [hd] at t2; cases t2
      | some j =>
        rcases h3 with ⟨_, rfl⟩ | ⟨h0, _⟩
        · exact ⟨rfl, f, h⟩
        · omega
    · rw [if_neg (by simp [t1])]
      rw [hg] at t2
      cases hd : dget r.dir k with
      | some j => rw [hd] at t2; cases t2
      | none =>
        simp only
        rw [if_pos (by omega)]
        rcases h3 with ⟨_, rfl⟩ | ⟨h0, _⟩
        · exact ⟨rfl, f, h⟩
        · omega
    · rw [if_neg (by simp [t1])]
      rw [hg] at t2
      cases hd : dget r.dir k with
      | some j => rw [hd] at t2; cases t2
      | none =>
        simp only
        rw [if_neg (by omega)]
        rcases h3 with ⟨h0, _⟩ | ⟨_, rfl⟩
        · exact absurd rfl h0
        · refine ⟨rfl, upd f r.ino.length i, ?_⟩
          have ha := h.add hi
          have hx : (⟨[], k, r.ino.length⟩ : RCh).eff r.dir = dput r.dir k r.ino.length := by
            unfold RCh.eff
            rw [if_neg (name_ne t1), if_pos rfl]
          have hc := ha.change (hw.eff hm) ⟨[], k, r.ino.length⟩ (.create k i) (.inr (by simp)) (by
            show dmap (upd f r.ino.length i) ((⟨[], k, r.ino.length⟩ : RCh).eff r.dir) = dput s.now k i
            rw [hx, ← dput_dmap]
            have e1 : dmap (upd f r.ino.length i) r.dir = s.now := by
              refine (dmap_congr fun p hp => ?_).trans (h.now hw hm)
              unfold upd
              rw [if_neg (by have := (h.good.mem p hp).2; omega)]
            have e2 : upd f r.ino.length i r.ino.length = i := by simp [upd]
            rw [e1, e2])
          exact hc.did (by rw [ef]; exact hf)
theorem Sim.remove (h : Sim s r f) (hw : WF s) (hm : s.mid = false) {k : Nm} {n : Int} {s' : St} (ha : ActEnd s (TRemove s k) n s') : n = (rRemove r k).1 ∧ ∃ f', Sim s' (rRemove r k).2 f' := by
  have hg := h.get hw hm k
  rcases h.act ha with ⟨ho, rfl, h2⟩ | ⟨ho, hf, s1, hT, ef, h3⟩
  · unfold rRemove
    rw [if_pos ho]
    exact ⟨rfl, f, h2⟩
  · unfold rRemove
    rw [if_neg (by simp [ho])]
    rcases hT with ⟨t1, rfl, rfl⟩ | ⟨t1, rfl, rfl⟩
    · rw [hg] at t1
      cases hd : dget r.dir k with
      | some j => rw [hd] at t1; cases t1
      | none =>
        rcases h3 with ⟨_, rfl⟩ | ⟨h0, _⟩
        · exact ⟨rfl, f, h⟩
        · omega
    · rw [hg] at t1
      cases hd : dget r.dir k with
      | none => rw [hd] at t1; cases t1
      | some j =>
        rcases h3 with ⟨h0, _⟩ | ⟨_, rfl⟩
        · exact absurd rfl h0
        · refine ⟨rfl, f, ?_⟩
          have hk := (h.at hd).1
          have hx : (⟨k, [], 0⟩ : RCh).eff r.dir = ddel r.dir k := by
            unfold RCh.eff
            rw [if_pos rfl, if_neg hk]
          have hc := h.change (hw.eff hm) ⟨k, [], 0⟩ (.remove k) (.inl rfl) (by
            show dmap f ((⟨k, [], 0⟩ : RCh).eff r.dir) = ddel s.now k
            rw [hx, ← ddel_dmap, h.now hw hm])
          exact hc.did (by rw [ef]; exact hf)
theorem Sim.rename (h : Sim s r f) (hw : WF s) (hm : s.mid = false) {x y : Nm} {n : Int} {s' : St} (ha : ActEnd s (TRename s x y) n s') : n = (rRename r x y).1 ∧ ∃ f', Sim s' (rRename r x y).2 f' := by
  have hg := h.get hw hm x
  rcases h.act ha with ⟨ho, rfl, h2⟩ | ⟨ho, hf, s1, hT, ef, h3⟩
  · unfold rRename
    rw [if_pos ho]
    exact ⟨rfl, f, h2⟩
  · unfold rRename
    rw [if_neg (by simp [ho])]
    rcases hT with ⟨t1, rfl, rfl⟩ | ⟨t1, t2, rfl, rfl⟩ | ⟨t1, t2, t3, rfl, rfl⟩ | ⟨t1, t2, rfl, i, t3, rfl⟩
    · rw [if_pos t1]
      rcases h3 with ⟨_, rfl⟩ | ⟨h0, _⟩
      · exact ⟨rfl, f, h⟩
      · omega
    · rw [if_neg (by simp [t1])]
      rw [hg] at t2
      cases hd : dget r.dir x with
      | some j => rw [hd] at t2; cases t2
      | none =>
        rcases h3 with ⟨_, rfl⟩ | ⟨h0, _⟩
        · exact ⟨rfl, f, h⟩
        · omega
    · rw [if_neg (by simp [t1])]
      rw [hg] at t2
      cases hd : dget r.dir x with
      | none => rw [hd] at t2; cases t2
      | some j =>
        simp only
        rw [if_pos t3]
        rcases h3 with ⟨h0, _⟩ | ⟨_, rfl⟩
        · exact absurd rfl h0
        · exact ⟨rfl, f, h.did hf⟩
    · rw [if_neg (by simp [t1])]
      have t4 := t3
      rw [hg] at t4
      cases hd : dget r.dir x with
      | none => rw [hd] at t4; cases t4
      | some j =>
        rw [hd] at t4
        have hij : f j = i := Option.some.inj t4
        simp only
        rw [if_neg t2]
        rcases h3 with ⟨h0, _⟩ | ⟨_, rfl⟩
        · exact absurd rfl h0
        · refine ⟨rfl, f, ?_⟩
          obtain ⟨hk, hj⟩ := h.at hd
          have hx : (⟨x, y, j⟩ : RCh).eff r.dir = dput (ddel r.dir x) y j := by
            unfold RCh.eff
            rw [if_neg (name_ne t1), if_neg hk]
          have hc := h.change (hw.eff hm) ⟨x, y, j⟩ (.rename x y) (.inr hj) (by
            show dmap f ((⟨x, y, j⟩ : RCh).eff r.dir) = ddel (dput s.now y ((dget s.now x).getD 0)) x
            rw [hx, t3, ← dput_dmap, ← ddel_dmap, h.now hw hm, hij]
            refine rename_alike s.now x y i t2 lt_trans' ?_
            rw [← h.now hw hm]
            exact sorted_dmap h.good.sorted)
          have e : (Ch.rename x y).eff s.now = ddel (dput s.now y i) x := by
            show ddel (dput s.now y ((dget s.now x).getD 0)) x = _
            rw [t3]
            rfl
          rw [e] at hc
          exact hc.did (by rw [ef]; exact hf)
theorem Sim.sync (h : Sim s r f) (hw : WF s) (hm : s.mid = false) {k : Nm} {n : Int} {s' : St} (ha : ActEnd s (TSync s k) n s') : n = (rSync r k).1 ∧ ∃ f', Sim s' (rSync r k).2 f' := by
  have hg := h.get hw hm k
  rcases h.act ha with ⟨ho, rfl, h2⟩ | ⟨ho, hf, s1, hT, ef, h3⟩
  · unfold rSync
    rw [if_pos ho]
    exact ⟨rfl, f, h2⟩
  · unfold rSync
    rw [if_neg (by simp [ho])]
    rcases hT with ⟨t1, rfl, rfl⟩ | ⟨i, t1, _, rfl, rfl⟩
    · rw [hg] at t1
      cases hd : dget r.dir k with
      | some j => rw [hd] at t1; cases t1
      | none =>
        rcases h3 with ⟨_, rfl⟩ | ⟨h0, _⟩
        · exact ⟨rfl, f, h⟩
        · omega
    · rw [hg] at t1
      cases hd : dget r.dir k with
      | none => rw [hd] at t1; cases t1
      | some j =>
        rw [hd] at t1
        have hij : f j = i := Option.some.inj t1
        subst hij
        obtain ⟨_, hj⟩ := h.at hd
        rcases h3 with ⟨h0, _⟩ | ⟨_, rfl⟩
        · exact absurd rfl h0
        · refine ⟨rfl, f, ?_⟩
          have hs := h.set hj (rDat r j, (rDat r j).length)
          simp only at hs
          rw [h.datAt hj] at hs
          have hd2 := hs.did (by show s.fuse ≠ 0; exact hf)
          show Sim _ (rDid { r with ino := r.ino.set j (rDat r j, (rDat r j).length) }) f
          rw [h.datAt hj]
          exact hd2
theorem Sim.append (h : Sim s r f) (hw : WF s) (hm : s.mid = false) {k bs : Nm} {n : Int} {s' : St} (ha : ActEnd s (TAppend s k bs) n s') : n = (rAppend r k bs).1 ∧ ∃ f', Sim s' (rAppend r k bs).2 f' := by
  have hg := h.get hw hm k
  have hsum := h.sum hw hm
  have hroom := h.room
  rcases h.act ha with ⟨ho, rfl, h2⟩ | ⟨ho, hf, s1, hT, ef, h3⟩
  · unfold rAppend
    rw [if_pos ho]
    exact ⟨rfl, f, h2⟩
  · unfold rAppend
    rw [if_neg (by simp [ho])]
    rcases hT with ⟨t1, rfl, rfl⟩ | ⟨i, t1, _, t2, rfl, rfl⟩ | ⟨i, t1, _, t2, t3, rfl, rfl⟩ | ⟨i, t1, _, t2, t3, rfl, rfl⟩
    · rw [hg] at t1
      cases hd : dget r.dir k with
      | some j => rw [hd] at t1; cases t1
      | none =>
        rcases h3 with ⟨_, rfl⟩ | ⟨h0, _⟩
        · exact ⟨rfl, f, h⟩
        · omega
    all_goals
      rw [hg] at t1
      cases hd : dget r.dir k with
      | none => rw [hd] at t1; cases t1
      | some j =>
        rw [hd] at t1
        have hij : f j = i := Option.some.inj t1
        subst hij
        obtain ⟨_, hj⟩ := h.at hd
        have hdat := h.datAt hj
        simp only
        rw [hdat, hsum]
        first
          | (rw [if_pos t2]
             rcases h3 with ⟨_, rfl⟩ | ⟨h0, _⟩
             · exact ⟨rfl, f, h⟩
             · omega)
          | (rw [if_neg (by omega), if_pos (by omega)]
             rcases h3 with ⟨_, rfl⟩ | ⟨h0, _⟩
             · exact ⟨rfl, f, h⟩
             · omega)
          | (rw [if_neg (by omega), if_neg (by omega)]
             rcases h3 with ⟨h0, _⟩ | ⟨_, rfl⟩
             · exact absurd rfl h0
             · refine ⟨rfl, f, ?_⟩
               have hx := List.getElem?_eq_getElem hj
               have e : ((r.ino[j]?).map (·.2)).getD 0 = s.syn (f j) := by rw [hx]; exact (h.dat j _ hx).2.symm
               rw [e]
               exact (h.set hj (s.dat (f j) ++ bs, s.syn (f j))).did hf)
theorem Sim.syncDir (h : Sim s r f) (hw : WF s) (hm : s.mid = false) {n : Int} {s' : St} (ha : ActEnd s (TSyncDir s) n s') : n = (rSyncDir r).1 ∧ ∃ f', Sim s' (rSyncDir r).2 f' := by
  rcases h.act ha with ⟨ho, rfl, h2⟩ | ⟨ho, hf, s1, hT, ef, h3⟩
  · unfold rSyncDir
    rw [if_pos ho]
    exact ⟨rfl, f, h2⟩
  · unfold rSyncDir
    rw [if_neg (by simp [ho])]
    obtain ⟨rfl, rfl⟩ := hT
    rcases h3 with ⟨h0, _⟩ | ⟨_, rfl⟩
    · exact absurd rfl h0
    · refine ⟨rfl, f, ?_⟩
      have hs : Sim { s with old := s.now, chs := [], mid := false } { r with old := r.dir, chs := [] } f :=
        { h with
          len := rfl
          effr := rfl
          all := fun m => by
            show Good r.ino.length (rEffAll r.dir (([] : List RCh).take m)) ∧ dmap f (rEffAll r.dir (([] : List RCh).take m)) = effAll s.now (([] : List Ch).take m)
            rw [List.take_nil, List.take_nil]
            exact ⟨h.good, h.now hw hm⟩ }
      exact hs.did hf
theorem Sim.step (h : Sim s r f) (hw : WF s) (hm : s.mid = false) {o : OpV} {n : Int} {s' : St} (hs : Step s o n s') : n = (rTwin r o).1 ∧ ∃ f', Sim s' (rTwin r o).2 f' := by
  unfold rTwin
  rcases hs with ⟨e, h1⟩ | ⟨e, h1⟩ | ⟨e, h1⟩ | ⟨e, h1⟩ | ⟨e, h1⟩ | ⟨e, h1⟩ | ⟨e, rfl, rfl⟩ | ⟨e, rfl, rfl⟩ | ⟨e, rfl, rfl⟩
  · rw [if_pos e]
    exact h.create hw hm h1
  · rw [if_neg (by omega), if_pos e]
    exact h.append hw hm h1
  · rw [if_neg (by omega), if_neg (by omega), if_pos e]
    exact h.sync hw hm h1
  · rw [if_neg (by omega), if_neg (by omega), if_neg (by omega), if_pos e]
    exact h.rename hw hm h1
  · rw [if_neg (by omega), if_neg (by omega), if_neg (by omega), if_neg (by omega), if_pos e]
    exact h.remove hw hm h1
  · rw [if_neg (by omega), if_neg (by omega), if_neg (by omega), if_neg (by omega), if_neg (by omega), if_pos e]
    exact h.syncDir hw hm h1
  · rw [if_neg (by omega), if_neg (by omega), if_neg (by omega), if_neg (by omega), if_neg (by omega), if_neg (by omega), if_pos e]
    refine ⟨rfl, f, { h with fuse := ?_ }⟩
    show max o.n (-1) = if decide (0 ≤ o.n) = true then ((o.n.toNat : Nat) : Int) else -1
    by_cases h0 : 0 ≤ o.n
    · rw [if_pos (by simpa using h0)]; omega
    · rw [if_neg (by simpa using h0)]; omega
  · rw [if_neg (by omega), if_neg (by omega), if_neg (by omega), if_neg (by omega), if_neg (by omega), if_neg (by omega), if_neg (by omega), if_pos e]
    exact ⟨rfl, f, h.crashed _ _⟩
  · rw [if_neg (by omega), if_neg (by omega), if_neg (by omega), if_neg (by omega), if_neg (by omega), if_neg (by omega), if_neg (by omega), if_neg (by omega)]
    exact ⟨rfl, f, h⟩
/-- What both answer when asked. -/
theorem Sim.read (h : Sim s r f) (hw : WF s) (hm : s.mid = false) (k : Nm) : rRead r k = readOf s k := by
  unfold rRead readOf
  rw [h.off, h.get hw hm k]
  cases s.down with
  | true => rfl
  | false =>
    cases hd : dget r.dir k with
    | none => rfl
    | some j =>
      show (rDat r j, (0 : Int)) = (s.dat (f j), 0)
      rw [h.datAt (h.at hd).2]
theorem Sim.files (h : Sim s r f) (hw : WF s) (hm : s.mid = false) : rFiles r = filesOf s := by
  unfold rFiles filesOf
  rw [← h.now hw hm]
  unfold dmap
  rw [List.map_map]
  refine List.map_congr_left fun p hp => ?_
  show (p.1, rDat r p.2) = (p.1, s.dat (f p.2))
  rw [h.datAt (h.good.mem p hp).2]
theorem Sim.names (h : Sim s r f) (hw : WF s) (hm : s.mid = false) : r.dir.map (·.1) = s.now.map (·.1) := by
  rw [← h.now hw hm]
  unfold dmap
  rw [List.map_map]
  rfl
end
end Go.Proofs.Ytblpppeppgfbpaa
