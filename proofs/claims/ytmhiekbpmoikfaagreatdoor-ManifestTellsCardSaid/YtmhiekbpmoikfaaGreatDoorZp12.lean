/- The document's there, over its own disk. The document's Write, Save, Load in plain words, and the room that they need. What the document's Clean does, in plain words. Steps one after the other, up to the first that fails; Write, Save and Clean are such. The document's disk with its power on and no fuse: Write, Save and Clean do what they are asked. Clean with the power on: what is not kept is gone. The live question in plain words. slices.Contains of names, out of the library's contract. The program's Seg, Dels and files: the names of a manifest's files. -/
import Derived.Test.YtmhiekbpmoikfaaGreatDoorZp4
import Derived.Deep.QuietTactic
import Derived.Test.YtmhiekbpmoikfaaGreatDoorZp7
import Derived.Test.YtmhiekbpmoikfaaGreatDoorZp1
import Derived.Test.YtmhiekbpmoikfaaGreatDoorZp2
import Derived.Test.YtmhiekbpmoikfaaGreatDoorZp10
import Derived.Test.YtmhiekbpmoikfaaGreatDoorZp9
import Derived.Test.YtmhiekbpmoikfaaGreatDoorLay
namespace Go.Proofs.YtmhiekbpmoikfaaGreatDoor
open Go.RowKit Go.Maps Go.WideMaps
set_option linter.unusedSimpArgs false

def rThere (r : RSt) (k : Nm) : Bool := r.dir.any fun p => p.1 == k

set_option maxHeartbeats 4000000 in
set_option maxRecDepth 100000 in
theorem r15there_any (w : World) (F : Nat → Prop) (b : Nat) (r : RSt) (hR : R1At w F b r) (x : Nm) :
    Calls Tryz.prog 96 #[at0 b, .string ⟨x.toArray⟩] w fun e w' => e = .returned (.bool (rThere r x)) ∧ Below w.heap.size w w' := by
  have HC := Lib.hid (r1Names_any w F b r hR)
  have hnd : r.dir.length ≤ 100000 := by obtain ⟨G, vi, vc, A, c, B, cb, svs, h, _, _⟩ := hR; exact h.wf.ndir
  obtain ⟨L, hL⟩ : ∃ L, L = r.dir.map (·.1) := ⟨_, rfl⟩
  have hTH : rThere r x = L.any (· == x) := by rw [hL]; unfold rThere; rw [List.any_map]; rfl
  have hnc : nameCells r.dir = L.map encStr := by rw [hL]; unfold nameCells; rw [List.map_map]; rfl
  have hll : L.length = r.dir.length := by rw [hL, List.length_map]
  obtain ⟨n, hn⟩ : ∃ n, n = r.dir.length := ⟨_, rfl⟩
  rw [← hn] at HC hll hnd
  rw [hnc] at HC
  have HTH := Lib.hid hTH
  have HLL := Lib.hid hll
  clear hL hTH hnc hn hR hll
  unfold at0 at *
  go_enter Tryz.func96, Tryz.ntmps96
  go_wp2_with fail
  refine HC.out.mono ?_
  rintro e w1 ⟨v, rfl, hrow, hb1⟩
  obtain ⟨A, c, hv⟩ := own_slice hrow
  subst hv
  have HN := Lib.hid (NamesIn.own hrow hnd)
  have HB := Lib.hid hb1
  clear hrow hb1
  go_wp2
  go_loopw [6] (fun i wr => ∃ k q : Nat, k ≤ n ∧ i = .int .i64 k ∧ (L.take k).any (· == x) = false ∧ wr = w1.drewN q) (fun i _ => n - (intOf i).toNat)
  case atStart => exact ⟨0, 0, by omega, rfl, rfl, rfl⟩
  case round =>
    obtain ⟨k, q, hk, rfl, ht, rfl⟩ := hrel
    have HT := Lib.hid ht
    clear ht
    rcases Nat.lt_or_ge k n with hlt | hge
    · have hlt' : (k : Int) < (n : Int) := by omega
      have p0 : (0 : Int) ≤ (k : Int) := by omega
      obtain ⟨pa, xa, rfl, hxa, ca'⟩ := HN.out.at k hlt
      have hst : (L.take (k + 1)).any (· == x) = (xa == x) := by
        rw [List.take_add_one, hxa, List.any_append, HT.out]
        simp
      have HST := Lib.hid hst
      have HMEM := Lib.hid (List.mem_of_getElem? hxa)
      clear hxa hst
      cases hx : (xa == x) with
      | true =>
        have HX := Lib.hid hx
        go_wp2
        go_ret
        refine ⟨?_, below_drewN HB.out q⟩
        have h1 : rThere r x = true := by
          rw [HTH.out, List.any_eq_true]
          exact ⟨xa, HMEM.out, HX.out⟩
        rw [h1]
        rfl
      | false =>
        have HX := Lib.hid hx
        go_wp2
        go_roundw
        case rel => exact ⟨k + 1, q, by omega, by go_num, by rw [HST.out]; exact HX.out, rfl⟩
        case measure => simp [intOf]; omega
    · have hlz : ¬ ((k : Int) < (n : Int)) := by omega
      have HE : Hid (rThere r x = false) := Lib.hid (by
        have h1 := HT.out
        rw [List.take_of_length_le (by rw [HLL.out]; omega)] at h1
        rw [HTH.out, h1])
      go_wp2
      go_ret
      exact ⟨by rw [HE.out]; rfl, below_drewN HB.out q⟩
end Go.Proofs.YtmhiekbpmoikfaaGreatDoor
namespace Go.Proofs.YtmhiekbpmoikfaaGreatDoor
open Go.RowKit Go.Maps Go.WideMaps

/-- There is room for k more acts. -/
structure RCan (r : RSt) (k : Nat) : Prop where
  dir : r.dir.length + k ≤ 100000
  chs : r.chs.length + k ≤ 100000
  ino : r.ino.length + k ≤ 100000
  done : r.done + k ≤ 100000
theorem RCan.mono {r : RSt} {k j : Nat} (h : RCan r k) (hj : j ≤ k) : RCan r j := ⟨by have := h.dir; omega, by have := h.chs; omega, by have := h.ino; omega, by have := h.done; omega⟩
theorem RCan.power {r : RSt} {k : Nat} (h : RCan r k) : RCan (rPower r) k := ⟨h.dir, h.chs, h.ino, h.done⟩
theorem RCan.did {r : RSt} {k : Nat} (h : RCan r (k + 1)) : RCan (rDid r) k := ⟨by have := h.dir; show r.dir.length + k ≤ _; omega, by have := h.chs; show r.chs.length + k ≤ _; omega, by have := h.ino; show r.ino.length + k ≤ _; omega, by have := h.done; show r.done + 1 + k ≤ _; omega⟩
theorem RCan.change {r : RSt} {k : Nat} (h : RCan r (k + 1)) (x : RCh) : RCan (rChange r x) k := by
  have h1 := eff_len x r.dir
  have h2 : (r.chs ++ [x]).length = r.chs.length + 1 := by simp
  exact ⟨by have := h.dir; show (x.eff r.dir).length + k ≤ _; omega, by have := h.chs; show (r.chs ++ [x]).length + k ≤ _; omega, by have := h.ino; show r.ino.length + k ≤ _; omega, by have := h.done; show r.done + 1 + k ≤ _; omega⟩
theorem RCan.remove {r : RSt} {k : Nat} (h : RCan r (k + 1)) (x : Nm) : RCan (rRemove r x).2 k := by
  unfold rRemove
  split
  · exact (h.mono (Nat.le_succ k)).power
  · split
    · exact h.mono (Nat.le_succ k)
    · exact h.change _
theorem RCan.syncDir {r : RSt} {k : Nat} (h : RCan r (k + 1)) : RCan (rSyncDir r).2 k := by
  unfold rSyncDir
  split
  · exact (h.mono (Nat.le_succ k)).power
  · exact RCan.did ⟨h.dir, by have := h.dir; show 0 + (k + 1) ≤ _; omega, h.ino, h.done⟩
theorem RCan.rename {r : RSt} {k : Nat} (h : RCan r (k + 1)) (x y : Nm) : RCan (rRename r x y).2 k := by
  unfold rRename
  split
  · exact (h.mono (Nat.le_succ k)).power
  · split
    · exact h.mono (Nat.le_succ k)
    · split
      · exact h.mono (Nat.le_succ k)
      · split
        · exact h.did
        · exact h.change _
theorem RCan.sync {r : RSt} {k : Nat} (h : RCan r (k + 1)) (x : Nm) : RCan (rSync r x).2 k := by
  unfold rSync
  split
  · exact (h.mono (Nat.le_succ k)).power
  · split
    · exact h.mono (Nat.le_succ k)
    · exact RCan.did ⟨h.dir, h.chs, by have := h.ino; simpa using this, h.done⟩
theorem RCan.append {r : RSt} {k : Nat} (h : RCan r (k + 1)) (x bs : Nm) : RCan (rAppend r x bs).2 k := by
  unfold rAppend
  split
  · exact (h.mono (Nat.le_succ k)).power
  · split
    · exact h.mono (Nat.le_succ k)
    · split
      · exact h.mono (Nat.le_succ k)
      · split
        · exact h.mono (Nat.le_succ k)
        · exact RCan.did ⟨h.dir, h.chs, by have := h.ino; simpa using this, h.done⟩
theorem RCan.create {r : RSt} {k : Nat} (h : RCan r (k + 1)) (x : Nm) : RCan (rCreate r x).2 k := by
  unfold rCreate
  split
  · exact (h.mono (Nat.le_succ k)).power
  · split
    · exact h.mono (Nat.le_succ k)
    · split
      · exact h.mono (Nat.le_succ k)
      · split
        · exact h.mono (Nat.le_succ k)
        · have h1 := eff_len ⟨[], x, r.ino.length⟩ r.dir
          have h2 : (r.chs ++ [(⟨[], x, r.ino.length⟩ : RCh)]).length = r.chs.length + 1 := by simp
          have h3 : (r.ino ++ [(([] : Nm), 0)]).length = r.ino.length + 1 := by simp
          exact ⟨by have := h.dir; show (RCh.eff _ r.dir).length + k ≤ _; omega, by have := h.chs; show (r.chs ++ [_]).length + k ≤ _; omega, by have := h.ino; show (r.ino ++ [_]).length + k ≤ _; omega, by have := h.done; show r.done + 1 + k ≤ _; omega⟩
/-- From one state of memory to a later one, the disk's blocks with it. -/
structure R1Mov (w : World) (F : Nat → Prop) (w' : World) (F' : Nat → Prop) : Prop where
  kept : Kept F w w'
  new : ∀ i, F' i → F i ∨ w.heap.size ≤ i
theorem R1Mov.refl (w : World) (F : Nat → Prop) : R1Mov w F w F := ⟨Kept.refl _ _, fun _ h => .inl h⟩
theorem R1Mov.trans {w w1 w2 : World} {F F1 F2 : Nat → Prop} (h : R1Mov w F w1 F1) (k : R1Mov w1 F1 w2 F2) : R1Mov w F w2 F2 :=
  ⟨h.kept.trans k.kept (fun i hi h1 => by
    rcases h.new i h1 with h2 | h2
    · exact h2
    · omega), fun i hi => by
    rcases k.new i hi with h1 | h1
    · exact h.new i h1
    · exact .inr (Nat.le_trans h.kept.size h1)⟩
theorem R1Mov.below {w w1 w2 : World} {F F1 : Nat → Prop} (h : R1Mov w F w1 F1) (hb : Below w1.heap.size w1 w2) : R1Mov w F w2 F1 :=
  h.trans ⟨Kept.below hb, fun _ h => .inl h⟩
theorem R1Mov.bytes {w w' : World} {F F' : Nat → Prop} (h : R1Mov w F w' F') {A : Option Addr} {n : Nat} {l : Nm} (hb : BytesIn w A n l) (ha : ∀ ad, A = some ad → 0 < n → ¬ F ad.block) : BytesIn w' A n l ∧ ∀ ad, A = some ad → 0 < n → ¬ F' ad.block :=
  ⟨hb.keep h.kept ha, fun ad e h0 hf => by
    rcases h.new _ hf with h1 | h1
    · exact ha ad e h0 h1
    · have := hb.2.2 ad e h0; omega⟩
theorem R1Mov.left {w w' : World} {F F' : Nat → Prop} {b : Nat} {r : RSt} (h : R1Mov w F w' F') (hR : R1At w' F' b r) (n : Int) : R1Left w F b n r (.returned (.int .i64 n)) w' := ⟨rfl, F', hR, h.kept, h.new⟩
theorem R1Mov.left_ {w w1 w' : World} {F F1 : Nat → Prop} {b : Nat} {r : RSt} {n : Int} {e : Ending} (h : R1Mov w F w1 F1) (hl : R1Left w1 F1 b n r e w') : R1Left w F b n r e w' := by
  obtain ⟨he, F2, hR, hk, hn⟩ := hl
  have := h.trans ⟨hk, hn⟩
  exact ⟨he, F2, hR, this.kept, this.new⟩
/-- How the document writes a file. -/
def rWrite (r : RSt) (x bs : Nm) : Int × RSt :=
  let a := if rThere r x = true then rRemove r x else (0, r)
  if a.1 ≠ 0 then a else
  let c := rCreate a.2 x
  if c.1 ≠ 0 then c else
  let d := rAppend c.2 x bs
  if d.1 ≠ 0 then d else rSync d.2 x
theorem RCan.write {r : RSt} {k : Nat} (h : RCan r (k + 4)) (x bs : Nm) : RCan (rWrite r x bs).2 k := by
  unfold rWrite
  simp only
  have h0 : RCan (if rThere r x = true then rRemove r x else (0, r)).2 (k + 3) := by
    split
    · exact h.remove x
    · exact h.mono (by omega)
  obtain ⟨a, ha⟩ : ∃ a, a = (if rThere r x = true then rRemove r x else (0, r)) := ⟨_, rfl⟩
  rw [← ha] at h0 ⊢
  split
  · exact h0.mono (by omega)
  · split
    · exact (h0.create x).mono (by omega)
    · split
      · exact ((h0.create x).append x bs).mono (by omega)
      · exact (((h0.create x).append x bs).sync x).mono (by omega)
def manN : Nm := [109, 97, 110]
def manNewN : Nm := [109, 97, 110, 46, 110, 101, 119]
def rSave (r : RSt) (m : Mf) : Int × RSt :=
  if mErr m ≠ 0 then (mErr m, r) else
  let a := rWrite r manNewN (mPutB m)
  if a.1 ≠ 0 then a else
  let b := rSyncDir a.2
  if b.1 ≠ 0 then b else
  let c := rRename b.2 manNewN manN
  if c.1 ≠ 0 then c else rSyncDir c.2
/-- What the document's Load gives. -/
def rLoad (r : RSt) : Option Mf × Int :=
  if (rRead r manN).2 ≠ 0 then (none, (rRead r manN).2) else match mGetB (rRead r manN).1 with
  | none => (none, 3)
  | some m => (some m, 0)
end Go.Proofs.YtmhiekbpmoikfaaGreatDoor
namespace Go.Proofs.YtmhiekbpmoikfaaGreatDoor
open Go.RowKit Go.Maps Go.WideMaps

def rCleanL (keep : List Nm) : List Nm → Bool → RSt → Int × RSt
  | [], gone, r => if gone = true then rSyncDir r else (0, r)
  | x :: l, gone, r => if (keep.any (· == x)) = true then rCleanL keep l gone r else if (rRemove r x).1 ≠ 0 then rRemove r x else rCleanL keep l true (rRemove r x).2
def rClean (r : RSt) (m : Mf) : Int × RSt := rCleanL (mNames m) (r.dir.map (·.1)) false r
theorem NamesIn.keepK {w w' : World} {A : Option Addr} {n : Nat} {l : List Nm} (h : NamesIn w A n l) {F : Nat → Prop} (hk : Kept F w w') (ha : ∀ ad, A = some ad → 0 < n → ad.block < w.heap.size ∧ ¬ F ad.block) : NamesIn w' A n l :=
  ⟨h.len, h.fit, h.nil, fun ad e i x hx => by
    have h0 : 0 < n := by have := (List.getElem?_eq_some_iff.1 hx).1; have := h.len; omega
    obtain ⟨h1, h2⟩ := ha ad e h0
    exact (World.cell?_of_block (by rw [addBlock]; exact hk.block _ h1 h2)).trans (h.cells ad e i x hx)⟩
end Go.Proofs.YtmhiekbpmoikfaaGreatDoor
namespace Go.Proofs.YtmhiekbpmoikfaaGreatDoor

abbrev Stp := RSt → Int × RSt
def rDo : List Stp → RSt → Int × RSt
  | [], r => (0, r)
  | g :: gs, r => if (g r).1 ≠ 0 then g r else rDo gs (g r).2
theorem rDo_last (g : Stp) (r : RSt) : rDo [g] r = g r := by
  show (if (g r).1 ≠ 0 then g r else (0, (g r).2)) = g r
  split
  · rfl
  · rename_i h
    have h : (g r).1 = 0 := by simpa using h
    exact Prod.ext h.symm rfl
theorem rDo_cons (g : Stp) (gs : List Stp) (r : RSt) : rDo (g :: gs) r = if (g r).1 ≠ 0 then g r else rDo gs (g r).2 := rfl
def wSteps (r : RSt) (x bs : Nm) : List Stp := (if rThere r x = true then [fun r => rRemove r x] else []) ++ [fun r => rCreate r x, fun r => rAppend r x bs, fun r => rSync r x]
theorem rWrite_do (r : RSt) (x bs : Nm) : rWrite r x bs = rDo (wSteps r x bs) r := by
  unfold rWrite wSteps
  simp only
  split
  · rw [List.singleton_append, rDo_cons, rDo_cons, rDo_cons, rDo_last]
  · rw [List.nil_append, rDo_cons, rDo_cons, rDo_last]
    simp only
    rw [if_neg (by simp)]
def sSteps (m : Mf) : List Stp := [fun r => rWrite r manNewN (mPutB m), rSyncDir, fun r => rRename r manNewN manN, rSyncDir]
theorem rSave_do {m : Mf} (h : mErr m = 0) (r : RSt) : rSave r m = rDo (sSteps m) r := by
  unfold rSave sSteps
  rw [if_neg (by rw [h]; simp), rDo_cons, rDo_cons, rDo_cons, rDo_last]
/-- What the names of l that are not kept come to. -/
def cOut (keep l : List Nm) : List Nm := l.filter fun x => !keep.any (· == x)
def cSteps (keep l : List Nm) (gone : Bool) : List Stp := (cOut keep l).map (fun x r => rRemove r x) ++ if (gone || decide (0 < (cOut keep l).length)) = true then [rSyncDir] else []
theorem rCleanL_do (keep : List Nm) : ∀ (l : List Nm) (gone : Bool) (r : RSt), rCleanL keep l gone r = rDo (cSteps keep l gone) r
  | [], gone, r => by
    unfold cSteps cOut rCleanL
    cases gone
    · rfl
    · show rSyncDir r = rDo [rSyncDir] r
      exact (rDo_last _ _).symm
  | x :: l, gone, r => by
    unfold rCleanL
    by_cases h : (keep.any (· == x)) = true
    · rw [if_pos h, rCleanL_do keep l gone r]
      have e : cOut keep (x :: l) = cOut keep l := by unfold cOut; rw [List.filter_cons, if_neg (by simp [h])]
      unfold cSteps
      rw [e]
    · rw [if_neg h]
      have e : cOut keep (x :: l) = x :: cOut keep l := by unfold cOut; rw [List.filter_cons, if_pos (by simp [h])]
      have e2 : cSteps keep (x :: l) gone = (fun r => rRemove r x) :: cSteps keep l true := by
        unfold cSteps
        rw [e]
        simp
      rw [e2, rDo_cons]
      split
      · rfl
      · rw [rCleanL_do keep l true]
theorem rClean_do (r : RSt) (m : Mf) : rClean r m = rDo (cSteps (mNames m) (r.dir.map (·.1)) false) r := rCleanL_do _ _ _ _
/-- The program keeps a file of what is deleted unless its number is 0. -/
def qNames (l : List Rf) : Nat → List Nm
  | 0 => [manB]
  | k + 1 => (qNames l k ++ [nameN 115 (l.getD k refZ).num]) ++ if (l.getD k refZ).dels ≠ 0 then [nameN 100 (l.getD k refZ).dels] else []
theorem qNames_len (l : List Rf) : ∀ k, (qNames l k).length ≤ 1 + 2 * k
  | 0 => by simp [qNames]
  | k + 1 => by
    rw [qNames]
    have := qNames_len l k
    split <;> simp <;> omega
theorem nameN_neg {c : UInt8} {n : Int} (h : n < 0) : okName (nameN c n) = false := by
  have h0 : Lib.itoa n = 45 :: Lib.decDigits n.natAbs := by unfold Lib.itoa; rw [if_pos h]
  unfold nameN okName
  rw [h0]
  have : okByte (45 : UInt8).toNat = false := by decide
  simp only [List.all_cons, this, Bool.false_and, Bool.and_false]
theorem qNames_any (l : List Rf) {x : Nm} (hx : okName x = true) : ∀ k, (qNames l k).any (· == x) = (namesTo l k).any (· == x)
  | 0 => rfl
  | k + 1 => by
    rw [qNames, namesTo, List.any_append, List.any_append, List.any_append, List.any_append, qNames_any l hx k]
    congr 1
    by_cases h0 : 0 < (l.getD k refZ).dels
    · rw [if_pos h0, if_pos (by omega)]
    · rw [if_neg h0]
      by_cases h1 : (l.getD k refZ).dels ≠ 0
      · rw [if_pos h1]
        have hn : (nameN 100 (l.getD k refZ).dels == x) = false := by
          simp only [beq_eq_false_iff_ne]
          intro e
          rw [← e, nameN_neg (by omega)] at hx
          cases hx
        show ((nameN 100 (l.getD k refZ).dels == x) || false) = false
        rw [hn]
        rfl
      · rw [if_neg h1]
theorem qNames_out (m : Mf) (l : List Nm) (hl : ∀ x ∈ l, okName x = true) : cOut (qNames m.refs m.refs.length) l = cOut (mNames m) l := by
  unfold cOut
  refine List.filter_congr fun x hx => ?_
  rw [qNames_any _ (hl x hx)]
  rfl
theorem qClean_do (r : RSt) (m : Mf) (hl : ∀ p ∈ r.dir, okName p.1 = true) : rClean r m = rDo (cSteps (qNames m.refs m.refs.length) (r.dir.map (·.1)) false) r := by
  rw [rClean_do]
  unfold cSteps
  rw [qNames_out m _ fun x hx => by
    obtain ⟨p, hp, rfl⟩ := List.mem_map.1 hx
    exact hl p hp]
theorem mErr_put {m : Mf} (h : mErr m = 0) : (mPutB m).length ≤ 1004 ∧ mGetB (mPutB m) = some m ∧ mOk m := by
  have hk : mOk m := by
    unfold mErr at h
    split at h
    · assumption
    · simp at h
  refine ⟨?_, mGet_put hk, hk⟩
  have h1 := mBody_len hk
  have h2 := putL_len (mBody m).length (by omega)
  unfold mPutB
  rw [putF_len]
  omega
end Go.Proofs.YtmhiekbpmoikfaaGreatDoor
namespace Go.Proofs.YtmhiekbpmoikfaaGreatDoor
open Go.RowKit Go.Maps Go.WideMaps

theorem qget_none {d : Dir} {k : Nm} (h : ∀ p ∈ d, p.1 ≠ k) : dget d k = none := by
  unfold dget
  rw [List.find?_eq_none.2 fun p hp => by simpa using h p hp]
  rfl
theorem qget_none_iff {d : Dir} {k : Nm} : dget d k = none ↔ ∀ p ∈ d, p.1 ≠ k := by
  constructor
  · intro h p hp e
    unfold dget at h
    have h1 := List.find?_eq_none.1 (Option.map_eq_none_iff.1 h) p hp
    simp [e] at h1
  · exact qget_none
theorem qdel_none {d : Dir} {k : Nm} (h : dget d k = none) : ddel d k = d := by
  unfold ddel
  exact List.filter_eq_self.2 fun p hp => by simpa using qget_none_iff.1 h p hp
theorem qget_del (d : Dir) (k : Nm) : dget (ddel d k) k = none := qget_none fun _ hp => (mem_ddel.1 hp).2
theorem qget_del_ne (d : Dir) {k j : Nm} (h : j ≠ k) : dget (ddel d k) j = dget d j := by
  induction d with
  | nil => rfl
  | cons p d ih =>
    by_cases hp : p.1 = k
    · rw [ddel_cons_eq p d k hp, ih]
      unfold dget
      rw [List.find?_cons]
      have : (p.1 == j) = false := by simpa [hp] using fun e => h e.symm
      rw [this]
    · rw [ddel_cons_ne p d k hp]
      unfold dget at ih ⊢
      rw [List.find?_cons, List.find?_cons]
      split
      · rfl
      · exact ih
theorem qget_ins (k : Nm) (v : Nat) : ∀ {d : Dir}, (∀ p ∈ d, p.1 ≠ k) → dget (dins k v d) k = some v
  | [], _ => by simp [dins, dget]
  | p :: r, h => by
    have h1 := h p (List.mem_cons_self ..)
    by_cases hb : bytesBefore k p.1 = true
    · rw [dins_stop k v p r hb]
      simp [dget]
    · rw [dins_step k v p r (by simpa using hb)]
      have ih := qget_ins k v (d := r) fun q hq => h q (List.mem_cons_of_mem _ hq)
      unfold dget at ih ⊢
      rw [List.find?_cons]
      have : (p.1 == k) = false := by simpa using h1
      rw [this]
      exact ih
theorem qget_ins_ne (k : Nm) (v : Nat) {j : Nm} (h : j ≠ k) : ∀ {d : Dir}, dget (dins k v d) j = dget d j
  | [] => by
    have : (k == j) = false := by simpa using fun e => h e.symm
    simp [dins, dget, this]
  | p :: r => by
    have hkj : (k == j) = false := by simpa using fun e => h e.symm
    by_cases hb : bytesBefore k p.1 = true
    · rw [dins_stop k v p r hb]
      unfold dget
      rw [List.find?_cons]
      simp only [hkj]
    · rw [dins_step k v p r (by simpa using hb)]
      have ih := qget_ins_ne k v h (d := r)
      unfold dget at ih ⊢
      rw [List.find?_cons, List.find?_cons]
      split
      · rfl
      · exact ih
theorem qget_put (d : Dir) (k : Nm) (v : Nat) : dget (dput d k v) k = some v := qget_ins k v fun _ hp => (mem_ddel.1 hp).2
theorem qget_put_ne (d : Dir) {k j : Nm} (v : Nat) (h : j ≠ k) : dget (dput d k v) j = dget d j := by
  unfold dput
  rw [qget_ins_ne k v h, qget_del_ne d h]
theorem qdel_ins {k : Nm} (v : Nat) : ∀ {d : Dir}, (∀ p ∈ d, p.1 ≠ k) → ddel (dins k v d) k = d
  | [], _ => by simp [dins, ddel]
  | p :: r, h => by
    have h1 := h p (List.mem_cons_self ..)
    by_cases hb : bytesBefore k p.1 = true
    · rw [dins_stop k v p r hb, ddel_cons_eq _ _ _ rfl]
      exact qdel_none (qget_none h)
    · rw [dins_step k v p r (by simpa using hb), ddel_cons_ne p _ k h1, qdel_ins v fun q hq => h q (List.mem_cons_of_mem _ hq)]
theorem qdel_put (d : Dir) (k : Nm) (v : Nat) : ddel (dput d k v) k = ddel d k := qdel_ins v fun _ hp => (mem_ddel.1 hp).2
theorem qput_del (d : Dir) (k : Nm) (v : Nat) : dput (ddel d k) k v = dput d k v := by
  unfold dput
  rw [qdel_none (qget_del d k)]
theorem qlen_put {d : Dir} {k : Nm} (v : Nat) : (dput d k v).length = (ddel d k).length + 1 := by unfold dput; rw [length_dins]
theorem there_iff {r : RSt} {k : Nm} : rThere r k = true ↔ dget r.dir k ≠ none := by
  unfold rThere
  rw [List.any_eq_true]
  constructor
  · rintro ⟨p, hp, e⟩ h
    exact qget_none_iff.1 h p hp (by simpa using e)
  · intro h
    refine Classical.byContradiction fun h2 => h (qget_none fun p hp e => h2 ⟨p, hp, by simpa using e⟩)

/-- The power is on, and no fuse is lit. -/
structure On (r : RSt) : Prop where
  off : r.off = false
  fused : r.fused = false
theorem On.power {r : RSt} (h : On r) : (rPower r).off = false := by
  unfold rPower
  simp only [h.off, h.fused]
  rfl
theorem On.did {r : RSt} (h : On r) : On (rDid r) := ⟨h.off, h.fused⟩
def rMore (r : RSt) (k : Nm) : RSt := rChange { r with ino := r.ino ++ [([], 0)] } ⟨[], k, r.ino.length⟩
theorem rCreate_on {r : RSt} (h : On r) {k : Nm} (hk : okName k = true) (hg : dget r.dir k = none) (hl : r.dir.length < 64) : rCreate r k = (0, rMore r k) := by
  unfold rCreate
  rw [if_neg (by rw [h.power]; simp), if_neg (by rw [hk]; simp), hg]
  simp only
  rw [if_neg (by omega)]
  rfl
theorem rMore_dir {r : RSt} {k : Nm} (hk : okName k = true) : (rMore r k).dir = dput r.dir k r.ino.length := by
  show (RCh.eff ⟨[], k, r.ino.length⟩ r.dir) = _
  unfold RCh.eff
  rw [if_neg (name_ne hk), if_pos rfl]
theorem rSum_congr {r s : RSt} {d : Dir} (h : ∀ p ∈ d, rDat r p.2 = rDat s p.2) : rSum r d = rSum s d := by
  unfold rSum
  congr 1
  exact List.map_congr_left fun p hp => by rw [h p hp]
theorem rSum_ins (r : RSt) (k : Nm) (v : Nat) : ∀ d : Dir, rSum r (dins k v d) = (rDat r v).length + rSum r d
  | [] => by simp [dins, rSum]
  | p :: d => by
    have hc : ∀ (q : Nm × Nat) (e : Dir), rSum r (q :: e) = (rDat r q.2).length + rSum r e := fun q e => by simp [rSum]
    by_cases hb : bytesBefore k p.1 = true
    · rw [dins_stop k v p d hb, hc]
    · rw [dins_step k v p d (by simpa using hb), hc, hc, rSum_ins r k v d]
      omega
/-- A file written: what is left of a disk with its power on. -/
structure Wrote (r : RSt) (x bs : Nm) (r' : RSt) : Prop where
  on : On r'
  room : r'.room = r.room
  dir : r'.dir = dput r.dir x r.ino.length
  ino : r'.ino = r.ino ++ [(bs, bs.length)]
  old : r'.old = r.old
/-- The files of the directory are files. -/
def InoOk (r : RSt) : Prop := ∀ p ∈ r.dir, p.2 < r.ino.length
theorem rDat_left {r s : RSt} {l : List (Nm × Nat)} (h : s.ino = r.ino ++ l) {j : Nat} (hj : j < r.ino.length) : rDat s j = rDat r j := by
  unfold rDat
  rw [h, List.getElem?_append_left hj]
theorem write_new {r : RSt} (h : On r) (hi : InoOk r) {x bs : Nm} (hx : okName x = true) (hg : dget r.dir x = none) (hl : r.dir.length < 64) (hb : bs.length ≤ 262144) (hr : bs.length + rSum r r.dir ≤ r.room) :
    rDo [fun r => rCreate r x, fun r => rAppend r x bs, fun r => rSync r x] r = (0, (rDo [fun r => rCreate r x, fun r => rAppend r x bs, fun r => rSync r x] r).2) ∧ Wrote r x bs (rDo [fun r => rCreate r x, fun r => rAppend r x bs, fun r => rSync r x] r).2 := by
  have hdir := rMore_dir (r := r) hx
  have hon : On (rMore r x) := ⟨h.off, h.fused⟩
  have hgm : dget (rMore r x).dir x = some r.ino.length := by rw [hdir]; exact qget_put _ _ _
  have hino : (rMore r x).ino = r.ino ++ [([], 0)] := rfl
  have hat : (rMore r x).ino[r.ino.length]? = some ([], 0) := by rw [hino]; simp
  have hdat : rDat (rMore r x) r.ino.length = [] := rDat_at hat
  have hsum : rSum (rMore r x) (rMore r x).dir = rSum r r.dir := by
    rw [hdir]
    unfold dput
    rw [rSum_ins, hdat, qdel_none hg]
    rw [rSum_congr (s := r) fun p hp => rDat_left hino (hi p hp)]
    simp
  have hap : rAppend (rMore r x) x bs = (0, rDid { rMore r x with ino := (rMore r x).ino.set r.ino.length (bs, 0) }) := by
    unfold rAppend
    rw [if_neg (by rw [hon.power]; simp), hgm]
    simp only
    rw [hdat, hsum, hat, if_neg (by simp; omega), if_neg (by show ¬ r.room < _; omega)]
    rfl
  obtain ⟨s, hs⟩ : ∃ s, s = rDid { rMore r x with ino := (rMore r x).ino.set r.ino.length (bs, 0) } := ⟨_, rfl⟩
  rw [← hs] at hap
  have hons : On s := by rw [hs]; exact ⟨h.off, h.fused⟩
  have hsd : s.dir = (rMore r x).dir := by rw [hs]; rfl
  have hsi : s.ino = r.ino ++ [(bs, 0)] := by
    rw [hs]
    show ((r.ino ++ [([], 0)]).set r.ino.length (bs, 0)) = _
    simp
  have hsat : rDat s r.ino.length = bs := rDat_at (x := (bs, 0)) (by rw [hsi]; simp)
  have hsy : rSync s x = (0, rDid { s with ino := s.ino.set r.ino.length (bs, bs.length) }) := by
    unfold rSync
    rw [if_neg (by rw [hons.power]; simp), hsd, hgm]
    simp only
    rw [hsat]
  have hall : rDo [fun r => rCreate r x, fun r => rAppend r x bs, fun r => rSync r x] r = (0, rDid { s with ino := s.ino.set r.ino.length (bs, bs.length) }) := by
    rw [rDo_cons, rCreate_on h hx hg hl, if_neg (by simp), rDo_cons]
    simp only
    rw [hap, if_neg (by simp), rDo_last]
    simp only
    rw [hsy]
  rw [hall]
  refine ⟨rfl, ⟨⟨hons.off, hons.fused⟩, ?_, ?_, ?_, ?_⟩⟩
  · show s.room = r.room
    rw [hs]
    rfl
  · show s.dir = _
    rw [hsd, hdir]
  · show s.ino.set r.ino.length (bs, bs.length) = _
    rw [hsi]
    simp
  · show s.old = r.old
    rw [hs]
    rfl
theorem write_on {r : RSt} (h : On r) (hi : InoOk r) {x bs : Nm} (hx : okName x = true) (hl : (ddel r.dir x).length < 64) (hb : bs.length ≤ 262144) (hr : bs.length + rSum r (ddel r.dir x) ≤ r.room) :
    (rWrite r x bs).1 = 0 ∧ Wrote r x bs (rWrite r x bs).2 := by
  rw [rWrite_do]
  unfold wSteps
  by_cases ht : rThere r x = true
  · rw [if_pos ht, List.singleton_append, rDo_cons]
    cases hd : dget r.dir x with
    | none => exact absurd hd (there_iff.1 ht)
    | some j =>
      have hrm : rRemove r x = (0, rChange r ⟨x, [], 0⟩) := by
        unfold rRemove
        rw [if_neg (by rw [h.power]; simp), hd]
      have he : (rChange r ⟨x, [], 0⟩).dir = ddel r.dir x := by
        show RCh.eff ⟨x, [], 0⟩ r.dir = _
        unfold RCh.eff
        rw [if_pos rfl, if_neg (name_ne hx)]
      rw [hrm, if_neg (by simp)]
      have hi' : InoOk (rChange r ⟨x, [], 0⟩) := fun p hp => by rw [he] at hp; exact hi p (mem_ddel.1 hp).1
      have hs : rSum (rChange r ⟨x, [], 0⟩) (rChange r ⟨x, [], 0⟩).dir = rSum r (ddel r.dir x) := by rw [he]; rfl
      obtain ⟨h1, h2⟩ := write_new (r := rChange r ⟨x, [], 0⟩) ⟨h.off, h.fused⟩ hi' hx (by rw [he]; exact qget_del _ _) (by rw [he]; exact hl) hb (by rw [hs]; exact hr)
      refine ⟨by rw [h1], ⟨h2.on, h2.room, ?_, h2.ino, h2.old⟩⟩
      rw [h2.dir, he]
      exact qput_del _ _ _
  · rw [if_neg ht, List.nil_append]
    have hn : dget r.dir x = none := by
      cases hd : dget r.dir x with
      | none => rfl
      | some j => exact absurd (there_iff.2 (by rw [hd]; simp)) ht
    rw [qdel_none hn] at hl hr
    obtain ⟨h1, h2⟩ := write_new h hi hx hn hl hb hr
    exact ⟨by rw [h1], h2⟩
theorem syncDir_on {r : RSt} (h : On r) : rSyncDir r = (0, rDid { r with old := r.dir, chs := [] }) := by
  unfold rSyncDir
  rw [if_neg (by rw [h.power]; simp)]
/-- A manifest saved: what is left of a disk with its power on. -/
structure Saved (r : RSt) (bs : Nm) (r' : RSt) : Prop where
  on : On r'
  room : r'.room = r.room
  dir : r'.dir = dput (ddel r.dir manNewN) manN r.ino.length
  ino : r'.ino = r.ino ++ [(bs, bs.length)]
  old : r'.old = r'.dir
  chs : r'.chs = []
theorem okMan : okName manN = true := by decide
theorem okManNew : okName manNewN = true := by decide
theorem save_on {r : RSt} (h : On r) (hi : InoOk r) {m : Mf} (hm : mErr m = 0) (hl : (ddel r.dir manNewN).length < 64) (hb : (mPutB m).length ≤ 262144) (hr : (mPutB m).length + rSum r (ddel r.dir manNewN) ≤ r.room) :
    (rSave r m).1 = 0 ∧ Saved r (mPutB m) (rSave r m).2 := by
  obtain ⟨h1, h2⟩ := write_on h hi okManNew hl hb hr
  rw [rSave_do hm]
  unfold sSteps
  obtain ⟨s, hs⟩ : ∃ s, s = (rWrite r manNewN (mPutB m)).2 := ⟨_, rfl⟩
  rw [← hs] at h2
  rw [rDo_cons, rDo_cons, rDo_cons, rDo_last]
  rw [h1, if_neg (by simp), ← hs, syncDir_on h2.on]
  simp only
  rw [if_neg (by simp)]
  obtain ⟨t, ht⟩ : ∃ t, t = rDid { s with old := s.dir, chs := [] } := ⟨_, rfl⟩
  rw [← ht]
  have hton : On t := by rw [ht]; exact ⟨h2.on.off, h2.on.fused⟩
  have htd : t.dir = dput r.dir manNewN r.ino.length := by rw [ht]; exact h2.dir
  have hti : t.ino = r.ino ++ [(mPutB m, (mPutB m).length)] := by rw [ht]; exact h2.ino
  have hren : rRename t manNewN manN = (0, rChange t ⟨manNewN, manN, r.ino.length⟩) := by
    unfold rRename
    rw [if_neg (by rw [hton.power]; simp), if_neg (by rw [okMan]; simp), htd, qget_put]
    simp only
    rw [if_neg (by decide)]
  rw [hren]
  simp only
  rw [if_neg (by simp)]
  have hon2 : On (rChange t ⟨manNewN, manN, r.ino.length⟩) := ⟨hton.off, hton.fused⟩
  rw [syncDir_on hon2]
  refine ⟨rfl, ⟨⟨hton.off, hton.fused⟩, ?_, ?_, hti, rfl, rfl⟩⟩
  · show t.room = r.room
    rw [ht]
    exact h2.room
  · show RCh.eff ⟨manNewN, manN, r.ino.length⟩ t.dir = _
    unfold RCh.eff
    rw [if_neg (show ¬ manN = [] by decide), if_neg (show ¬ manNewN = [] by decide), htd, qdel_put]
theorem Saved.read {r r' : RSt} {bs : Nm} (h : Saved r bs r') : rRead r' manN = (bs, 0) := by
  unfold rRead
  rw [if_neg (by rw [h.on.off]; simp), h.dir, qget_put]
  simp only
  rw [rDat_at (x := (bs, bs.length)) (by rw [h.ino]; simp)]
theorem Wrote.read {r r' : RSt} {x bs : Nm} (h : Wrote r x bs r') : rRead r' x = (bs, 0) := by
  unfold rRead
  rw [if_neg (by rw [h.on.off]; simp), h.dir, qget_put]
  simp only
  rw [rDat_at (x := (bs, bs.length)) (by rw [h.ino]; simp)]
theorem inoOk_put {r r' : RSt} {k : Nm} {x : Nm × Nat} {d : Dir} (hi : ∀ p ∈ d, p.2 < r.ino.length) (hd : r'.dir = dput d k r.ino.length) (he : r'.ino = r.ino ++ [x]) : InoOk r' := fun p hp => by
  rw [hd] at hp
  rw [he, List.length_append]
  rcases mem_dput.1 hp with e | e
  · rw [e]; simp
  · have := hi p e.1
    simp
    omega
theorem Wrote.inoOk {r r' : RSt} {x bs : Nm} (h : Wrote r x bs r') (hi : InoOk r) : InoOk r' := inoOk_put hi h.dir h.ino
theorem Saved.inoOk {r r' : RSt} {bs : Nm} (h : Saved r bs r') (hi : InoOk r) : InoOk r' := inoOk_put (fun p hp => hi p (mem_ddel.1 hp).1) h.dir h.ino
def rNew (room : Nat) : RSt := ⟨room, [], [], [], [], 0, false, 0, false⟩
theorem rNew_on (room : Nat) : On (rNew room) := ⟨rfl, rfl⟩
end Go.Proofs.YtmhiekbpmoikfaaGreatDoor
namespace Go.Proofs.YtmhiekbpmoikfaaGreatDoor
open Go.RowKit Go.Maps Go.WideMaps

theorem rDo_app (a b : List Stp) : ∀ r, rDo (a ++ b) r = if (rDo a r).1 ≠ 0 then rDo a r else rDo b (rDo a r).2 := by
  induction a with
  | nil => intro r; show rDo b r = if ((0 : Int) ≠ 0) then _ else rDo b r; rw [if_neg (by simp)]
  | cons g a ih =>
    intro r
    rw [List.cons_append, rDo_cons, rDo_cons]
    by_cases h : (g r).1 ≠ 0
    · rw [if_pos h, if_pos h, if_pos h]
    · rw [if_neg h, if_neg h, ih]
def rRem (r : RSt) (x : Nm) : RSt := rChange r ⟨x, [], 0⟩
theorem rRemove_on {r : RSt} (h : On r) {x : Nm} (hg : dget r.dir x ≠ none) : rRemove r x = (0, rRem r x) := by
  unfold rRemove
  rw [if_neg (by rw [h.power]; simp)]
  cases hd : dget r.dir x with
  | none => exact absurd hd hg
  | some j => rfl
theorem rRem_dir {r : RSt} {x : Nm} (hx : x ≠ []) : (rRem r x).dir = ddel r.dir x := by
  show RCh.eff ⟨x, [], 0⟩ r.dir = _
  unfold RCh.eff
  rw [if_pos rfl, if_neg hx]
theorem rems_on : ∀ (l : List Nm) (r : RSt), On r → l.Nodup → (∀ x ∈ l, x ≠ [] ∧ dget r.dir x ≠ none) → ∃ r', rDo (l.map fun x r => rRemove r x) r = (0, r') ∧ On r' ∧ r'.dir = r.dir.filter (fun p => !l.any (· == p.1)) ∧ r'.ino = r.ino ∧ r'.room = r.room ∧ (l = [] → r' = r)
  | [], r, h, _, _ => ⟨r, rfl, h, (List.filter_eq_self.2 fun _ _ => rfl).symm, rfl, rfl, fun _ => rfl⟩
  | x :: l, r, h, hn, hx => by
    obtain ⟨hx0, hxg⟩ := hx x (List.mem_cons_self ..)
    obtain ⟨hnx, hn2⟩ := List.nodup_cons.1 hn
    have hd := rRem_dir (r := r) hx0
    obtain ⟨r', h1, h2, h3, h4, h5, -⟩ := rems_on l (rRem r x) ⟨h.off, h.fused⟩ hn2 (fun y hy => by
      obtain ⟨q1, q2⟩ := hx y (List.mem_cons_of_mem _ hy)
      refine ⟨q1, ?_⟩
      have hyx : y ≠ x := fun e => hnx (by rw [← e]; exact hy)
      rw [hd, qget_del_ne _ hyx]
      exact q2)
    refine ⟨r', ?_, h2, ?_, h4, h5, fun e => by cases e⟩
    · rw [List.map_cons, rDo_cons, rRemove_on h hxg, if_neg (by simp)]
      exact h1
    · rw [h3, hd]
      unfold ddel
      rw [List.filter_filter]
      refine List.filter_congr fun p _ => ?_
      rw [List.any_cons, Bool.not_or, Bool.and_comm]
      congr 1
      rw [Bool.eq_iff_iff]
      simp only [Bool.not_eq_true', beq_eq_false_iff_ne]
      exact ⟨fun h e => h e.symm, fun h e => h e.symm⟩
/-- What Clean leaves. -/
structure Cleaned (r : RSt) (K : List Nm) (r' : RSt) : Prop where
  on : On r'
  dir : r'.dir = r.dir.filter (fun p => K.any (· == p.1))
  ino : r'.ino = r.ino
  room : r'.room = r.room
  gone : r'.dir.length ≠ r.dir.length → r'.old = r'.dir ∧ r'.chs = []
theorem good_nodup {n : Nat} {d : Dir} (h : Good n d) : (d.map (·.1)).Nodup := by
  refine List.pairwise_map.2 (h.sorted.imp fun {p q} hb e => ?_)
  rw [e, before_irrefl] at hb
  cases hb
theorem cleanL_on {r : RSt} (h : On r) (hg : Good r.ino.length r.dir) (K : List Nm) : ∃ r', rDo (cSteps K (r.dir.map (·.1)) false) r = (0, r') ∧ Cleaned r K r' := by
  obtain ⟨l, hl⟩ : ∃ l, l = cOut K (r.dir.map (·.1)) := ⟨_, rfl⟩
  have hsub : ∀ x ∈ l, x ∈ r.dir.map (·.1) := fun x hx => by rw [hl] at hx; exact (List.mem_filter.1 hx).1
  obtain ⟨r1, h1, h2, h3, h4, h5, h6⟩ := rems_on l r h (by rw [hl]; exact (good_nodup hg).filter _) (fun x hx => by
    obtain ⟨p, hp, rfl⟩ := List.mem_map.1 (hsub x hx)
    exact ⟨(hg.mem p hp).1, fun e => qget_none_iff.1 e p hp rfl⟩)
  have hd : r1.dir = r.dir.filter (fun p => K.any (· == p.1)) := by
    rw [h3]
    refine List.filter_congr fun p hp => ?_
    have hm : p.1 ∈ r.dir.map (·.1) := List.mem_map.2 ⟨p, hp, rfl⟩
    have : l.any (· == p.1) = !K.any (· == p.1) := by
      rw [hl]
      unfold cOut
      rw [Bool.eq_iff_iff, List.any_eq_true]
      constructor
      · rintro ⟨x, hx, e⟩
        have e : x = p.1 := by simpa using e
        rw [e] at hx
        exact (List.mem_filter.1 hx).2
      · intro hk
        exact ⟨p.1, List.mem_filter.2 ⟨hm, hk⟩, by simp⟩
    rw [this, Bool.not_not]
  unfold cSteps
  rw [← hl]
  by_cases hz : 0 < l.length
  · rw [if_pos (by simpa using hz), rDo_app, h1, if_neg (by simp), rDo_last]
    simp only
    rw [syncDir_on h2]
    exact ⟨_, rfl, ⟨h2.off, h2.fused⟩, hd, h4, h5, fun _ => ⟨rfl, rfl⟩⟩
  · rw [if_neg (by simpa using hz), List.append_nil, h1]
    refine ⟨_, rfl, h2, hd, h4, h5, fun hne => absurd ?_ hne⟩
    rw [h6 (List.eq_nil_of_length_eq_zero (by omega))]
theorem clean_on {r : RSt} (h : On r) (hg : Good r.ino.length r.dir) (m : Mf) : ∃ r', rClean r m = (0, r') ∧ Cleaned r (mNames m) r' := by
  rw [rClean_do]
  exact cleanL_on h hg _
end Go.Proofs.YtmhiekbpmoikfaaGreatDoor
namespace Go.Proofs.YtmhiekbpmoikfaaGreatDoor
open Go.RowKit Go.Maps Go.WideMaps

def hM : Mf := ⟨1, 4, [⟨2, 5, 0, 3⟩]⟩
theorem hM_ok : mOk hM := by decide
theorem hM_err : mErr hM = 0 := by unfold mErr; rw [if_pos hM_ok]
theorem hZ_err : mErr ⟨0, 0, []⟩ = 1 := by decide
theorem hM_len : (mPutB hM).length ≤ 100 := by
  have h : ∀ x, x < 2 ^ 64 → (putL x).length ≤ 10 := fun x hx => putL_len x hx
  have h1 := h 1 (by omega)
  have h2 := h 4 (by omega)
  have h3 := h 2 (by omega)
  have h4 := h 5 (by omega)
  have h5 := h 0 (by omega)
  have h6 := h 3 (by omega)
  have e : mBody hM = putL 1 ++ putL 4 ++ putL 1 ++ ([] ++ (putL 2 ++ putL 5 ++ putL 0 ++ putL 3)) := rfl
  have hb : (mBody hM).length ≤ 70 := by
    rw [e]
    simp only [List.length_append, List.length_nil]
    omega
  have h7 := putL_len (mBody hM).length (by omega)
  unfold mPutB
  rw [putF_len]
  omega
def s9N : Nm := [115, 46, 57]
theorem itoa_small {n : Nat} (h : n < 10) : Lib.itoa (n : Int) = [UInt8.ofNat (48 + n)] := by
  rw [show Lib.itoa (n : Int) = Lib.decDigits n by unfold Lib.itoa; rw [if_neg (by omega)]; simp]
  rw [Lib.decDigits.eq_1, dif_pos h]
theorem itoa_12 : Lib.itoa 12 = [49, 50] := by
  rw [show Lib.itoa 12 = Lib.decDigits 12 from rfl]
  rw [Lib.decDigits.eq_1, dif_neg (by omega), show 12 / 10 = 1 from rfl, Lib.decDigits.eq_1, dif_pos (by omega)]
  rfl
theorem hM_names : mNames hM = [manB, [115, 46, 50], [100, 46, 51]] := by
  have h2 : nameN 115 2 = [115, 46, 50] := by
    unfold nameN
    rw [show (2 : Int) = ((2 : Nat) : Int) from rfl, itoa_small (by omega)]
    rfl
  have h3 : nameN 100 3 = [100, 46, 51] := by
    unfold nameN
    rw [show (3 : Int) = ((3 : Nat) : Int) from rfl, itoa_small (by omega)]
    rfl
  show ((namesTo hM.refs 0 ++ [nameN 115 2]) ++ if 0 < (3 : Int) then [nameN 100 3] else []) = _
  rw [h2, h3]
  rfl
/-- The disk of the live question, as it goes. -/
theorem head_one : ∃ r1, rLoad (rNew 1000) = (none, 12) ∧ rSave (rNew 1000) hM = (0, r1) ∧ On r1 ∧ rLoad r1 = (some hM, 0) ∧ ∃ r2, rWrite r1 s9N [] = (0, r2) ∧ On r2 ∧ r2.dir = [(manN, 0), (s9N, 1)] := by
  have hl := hM_len
  obtain ⟨h1, h2⟩ := save_on (rNew_on 1000) (fun p hp => by cases hp) hM_err (by decide) (by omega) (by show (mPutB hM).length + 0 ≤ 1000; omega)
  obtain ⟨r1, hr⟩ : ∃ r1, r1 = (rSave (rNew 1000) hM).2 := ⟨_, rfl⟩
  rw [← hr] at h2
  have hd : r1.dir = [(manN, 0)] := h2.dir
  have hi : InoOk r1 := h2.inoOk fun p hp => by cases hp
  have hn : ddel r1.dir s9N = [(manN, 0)] := by rw [hd]; decide
  have hs : rSum r1 (ddel r1.dir s9N) ≤ 100 := by
    rw [hn]
    have : rDat r1 0 = mPutB hM := rDat_at (x := (mPutB hM, (mPutB hM).length)) (by rw [h2.ino]; rfl)
    unfold rSum
    simp only [List.map_cons, List.map_nil, List.sum_cons, List.sum_nil]
    rw [this]
    omega
  have hroom : r1.room = 1000 := h2.room
  obtain ⟨w1, w2⟩ := write_on h2.on hi (x := s9N) (bs := []) (by decide) (by rw [hn]; decide) (by simp) (by rw [hroom]; simp; omega)
  refine ⟨r1, by decide, Prod.ext h1 hr.symm, h2.on, ?_, (rWrite r1 s9N []).2, Prod.ext w1 rfl, w2.on, ?_⟩
  · unfold rLoad
    rw [h2.read, if_neg (by simp)]
    simp only
    rw [mGet_put hM_ok]
  · rw [w2.dir, hd, h2.ino]
    decide
theorem head_clean {r2 : RSt} (h : On r2) (hd : r2.dir = [(manN, 0), (s9N, 1)]) (hg : Good r2.ino.length r2.dir) : ∃ r3, rClean r2 hM = (0, r3) ∧ r3.dir = [(manN, 0)] := by
  obtain ⟨r3, h1, h2⟩ := clean_on h hg hM
  refine ⟨r3, h1, ?_⟩
  rw [h2.dir, hd, hM_names]
  decide
end Go.Proofs.YtmhiekbpmoikfaaGreatDoor
namespace Go.Proofs.YtmhiekbpmoikfaaGreatDoor
open Go.RowKit Go.Maps Go.WideMaps
set_option linter.unusedSimpArgs false

theorem contains_names (l : List Nm) (x : Nm) : Lib.containsS (l.map fun y => (⟨y.toArray⟩ : ByteArray)) ⟨x.toArray⟩ = l.any (· == x) := by
  rw [Bool.eq_iff_iff, Lib.containsS_iff, List.mem_map, List.any_eq_true]
  constructor
  · rintro ⟨y, hy, e⟩
    refine ⟨y, hy, ?_⟩
    have e2 : y.toArray = x.toArray := congrArg ByteArray.data e
    have e3 : y = x := by simpa using e2
    simp [e3]
  · rintro ⟨y, hy, e⟩
    have e : y = x := by simpa using e
    exact ⟨y, hy, by rw [e]⟩
/-- A list of names at a plain address. -/
def PlainA (A : Option Addr) : Prop := ∀ ad, A = some ad → ∃ g o, ad = ⟨g, o, none⟩
theorem own_plain {w : World} {base : Nat} {e : TypeId} {size n : Nat} {v : Value} {xs : List Value} (h : w.ownsRow base e size v n xs) : ∃ A c, v = .slice A n c ∧ PlainA A := by
  rcases h.2 with ⟨rfl, rfl⟩ | ⟨g, cap, cur, rfl, _⟩
  · exact ⟨_, _, rfl, fun _ e => by cases e⟩
  · exact ⟨_, _, rfl, fun ad e => by cases e; exact ⟨g, 0, rfl⟩⟩
theorem contains_any (w : World) (A : Option Addr) (n c : Nat) (l : List Nm) (h : NamesIn w A n l) (hA : PlainA A) (x : Nm) :
    Calls Tryz.prog 87 #[.slice A n c, .string ⟨x.toArray⟩] w fun e w' => e = .returned (.bool (l.any (· == x))) ∧ w' = w := by
  rw [← contains_names]
  obtain ⟨rfl⟩ : n = l.length := h.len.symm
  cases l with
  | nil => exact Calls.mono (f := 87) (AnyG.slices_Contains_string_empty Tryz.containsS A c ⟨x.toArray⟩ w) fun e w' hh => hh
  | cons y0 l0 =>
    cases A with
    | none => have := h.nil rfl; simp at this
    | some ad =>
      obtain ⟨g, o, rfl⟩ := hA ad rfl
      generalize hL : (y0 :: l0) = L at h ⊢
      have hc := AnyG.slices_Contains_string Tryz.containsS g o L.length c (L.map fun y => (⟨y.toArray⟩ : ByteArray)) ⟨x.toArray⟩ w (by simp) (by have := h.fit; omega) (fun j hj => by
        have hj' : j < L.length := by simpa using hj
        have h1 := h.cells _ rfl j _ (List.getElem?_eq_getElem hj')
        rw [show (⟨g, o, none⟩ : Addr).add j = ⟨g, o + j, none⟩ by unfold Addr.add; split <;> simp_all] at h1
        rw [h1]
        simp [List.getD_eq_getElem?_getD, List.getElem?_eq_getElem hj'])
      rw [show (L.map fun y => (⟨y.toArray⟩ : ByteArray)).take L.length = L.map fun y => (⟨y.toArray⟩ : ByteArray) by rw [List.take_of_length_le (by simp)]] at hc
      exact Calls.mono (f := 87) hc fun e w' hh => hh
end Go.Proofs.YtmhiekbpmoikfaaGreatDoor
namespace Go.Proofs.YtmhiekbpmoikfaaGreatDoor
open Go.RowKit Go.Maps Go.WideMaps Go.Sort
set_option linter.unusedSimpArgs false

theorem cat_any (a b : UInt8) (L : Nm) : (⟨#[a, b]⟩ : ByteArray) ++ ⟨L.toArray⟩ = ⟨(a :: b :: L).toArray⟩ := cat_ba a b L
set_option maxHeartbeats 4000000 in
set_option maxRecDepth 100000 in
theorem pNamed_any (w : World) (a : UInt8) (n : Int) (hn : -9223372036854775808 ≤ n ∧ n ≤ 9223372036854775807) (ht : Pow10 w) :
    Calls Tryz.prog 69 #[.string ⟨#[a, 46]⟩, .int .i64 n] w fun e w' => e = .returned (.string ⟨(nameN a n).toArray⟩) ∧ Below w.heap.size w w' := by
  have hl := Lib.itoa_length_le n hn.1 hn.2
  have HC := Lib.hid (formatInt_any w n hn ht)
  have HD : Hid (nameN a n = a :: 46 :: Lib.itoa n) := Lib.hid rfl
  obtain ⟨L, hL⟩ : ∃ L, L = Lib.itoa n := ⟨_, rfl⟩
  rw [← hL] at HC hl HD
  obtain ⟨s, hs⟩ : ∃ s : ByteArray, s = ⟨#[a, 46]⟩ := ⟨_, rfl⟩
  have hsz : s.size ≤ 2 := by rw [hs]; exact Nat.le_refl _
  have HS : Hid (s ++ ⟨L.toArray⟩ = ⟨(a :: 46 :: L).toArray⟩) := Lib.hid (by rw [hs]; exact cat_ba a 46 L)
  rw [← hs]
  clear hL hs
  go_enter Tryz.func69, Tryz.ntmps69
  go_wp2_with fail
  refine HC.out.mono ?_
  rintro e w1 ⟨rfl, hb⟩
  have HB := Lib.hid hb
  clear hb
  go_wp2
  go_ret
  exact ⟨by rw [HD.out]; exact congrArg (fun z => Ending.returned (.string z)) HS.out, HB.out⟩
set_option maxHeartbeats 4000000 in
set_option maxRecDepth 100000 in
theorem pSeg_any (w : World) (n : Int) (hn : -9223372036854775808 ≤ n ∧ n ≤ 9223372036854775807) (ht : Pow10 w) :
    Calls Tryz.prog 19 #[.int .i64 n] w fun e w' => e = .returned (.string ⟨(nameN 115 n).toArray⟩) ∧ Below w.heap.size w w' := by
  have HC := Lib.hid (pNamed_any w 115 n hn ht)
  go_enter Tryz.func19, Tryz.ntmps19
  go_wp2_with fail
  refine HC.out.mono ?_
  rintro e w1 ⟨rfl, hb⟩
  have HB := Lib.hid hb
  clear hb
  go_wp2
  go_ret
  exact ⟨rfl, HB.out⟩
set_option maxHeartbeats 4000000 in
set_option maxRecDepth 100000 in
theorem pDels_any (w : World) (n : Int) (hn : -9223372036854775808 ≤ n ∧ n ≤ 9223372036854775807) (ht : Pow10 w) :
    Calls Tryz.prog 21 #[.int .i64 n] w fun e w' => e = .returned (.string ⟨(nameN 100 n).toArray⟩) ∧ Below w.heap.size w w' := by
  have HC := Lib.hid (pNamed_any w 100 n hn ht)
  go_enter Tryz.func21, Tryz.ntmps21
  go_wp2_with fail
  refine HC.out.mono ?_
  rintro e w1 ⟨rfl, hb⟩
  have HB := Lib.hid hb
  clear hb
  go_wp2
  go_ret
  exact ⟨rfl, HB.out⟩

set_option maxHeartbeats 8000000 in
set_option maxRecDepth 100000 in
theorem pNames0_any (w : World) (HP : Pow10 w) (m : Mf) (A : Option Addr) (n c : Nat) (h : RefsIn w A n m.refs) (hn : n ≤ 1000) :
    Calls Tryz.prog 86 #[.agg #[.int .i64 m.gen, .int .i64 m.next, .slice A n c]] w fun e w' => ∃ v, e = .returned v ∧ w'.ownsRow w.heap.size 9 1 v (qNames m.refs n).length ((qNames m.refs n).map encStr) ∧ Below w.heap.size w w' := by
  obtain ⟨i0, hi, hz0, hz1, hz2⟩ := info_parts strInfoM
  have HI := Lib.hid h
  have HLN := Lib.hid h.len
  obtain ⟨w1, hw1⟩ : ∃ w1, w1 = w.alloc (.cells #[.int .i64 m.gen, .int .i64 m.next, .slice A n c] 24) := ⟨_, rfl⟩
  obtain ⟨w2, hw2⟩ : ∃ w2, w2 = w1.alloc (.cells #[.string ⟨#[109, 97, 110]⟩] 9) := ⟨_, rfl⟩
  obtain ⟨bm, hbm⟩ : ∃ b, b = w.heap.size := ⟨_, rfl⟩
  have hs1 : w1.heap.size = w.heap.size + 1 := by rw [hw1]; simp
  have hbw1 : Below w.heap.size w w1 := by rw [hw1]; exact (Below.refl _ w).alloc (Nat.le_refl _) _
  have HBW : Hid (Below w.heap.size w w2) := Lib.hid (by rw [hw2]; exact hbw1.alloc hbw1.size _)
  have HK : Hid (Blk w2 bm 24 #[.int .i64 m.gen, .int .i64 m.next, .slice A n c]) := Lib.hid (by rw [hw2, hw1, hbm]; exact (Blk.new _ _ _).alloc _)
  have HR2 : Hid (w2.ownsRow (w.heap.size + 1) 9 1 (.slice (some ⟨w.heap.size + 1, 0, none⟩) 1 1) (qNames m.refs 0).length ((qNames m.refs 0).map encStr)) := Lib.hid (by
    rw [hw2, ← hs1]
    exact ⟨rfl, .inr ⟨w1.heap.size, 1, #[.string ⟨#[109, 97, 110]⟩], rfl, Nat.le_refl _, heap_alloc_new w1 _, Nat.le_refl _, by unfold maxLen; omega, rfl, rfl⟩⟩)
  rw [hw1] at hw2
  have HW2 := Lib.hid hw2
  have HBM := Lib.hid hbm
  have HM2 : Hid (∀ u : World, Kept (fun g => w.heap.size + 1 ≤ g) w2 u → u.cell? ⟨bm, 2, none⟩ = some (.slice A n c) ∧ RefsIn u A n m.refs ∧ Pow10 u) := Lib.hid (fun u hu => by
    have h1 := (HK.out.kept hu (by rw [hbm]; omega)).cell 2
    have hb : Below w.heap.size w u := HBW.out.trans (hu.toBelow HBW.out.size (fun i hi => by omega))
    exact ⟨h1, HI.out.below hb, HP.later hb (Nat.le_refl _)⟩)
  obtain ⟨k2, -, -⟩ := HM2.out w2 (Kept.refl _ _)
  have hs2 : w.heap.size + 1 ≤ w2.heap.size := by rw [hw2]; simp
  clear hw1 hw2 hbm hbw1 h HP HK
  go_enter Tryz.func86, Tryz.ntmps86
  go_upto_region 2 with fail
  rw [← HW2.out, ← HBM.out]
  obtain ⟨v0, hv0⟩ : ∃ z, z = Value.slice (some ⟨bm + 1, 0, none⟩) 1 1 := ⟨_, rfl⟩
  rw [← HBM.out, ← hv0] at HR2
  rw [← hv0]
  clear hv0
  rw [← HBM.out] at HM2 hs2
  go_wp2
  go_loopw [3, 10] (fun v iv wr => ∃ (i : Nat), i ≤ n ∧ iv = .int .i64 i ∧ wr.ownsRow (bm + 1) 9 1 v (qNames m.refs i).length ((qNames m.refs i).map encStr) ∧ Kept (fun g => bm + 1 ≤ g) w2 wr) (fun _ iv _ => n - (intOf iv).toNat)
  case atStart => exact ⟨0, by omega, rfl, HR2.out, Kept.refl _ _⟩
  case round =>
    obtain ⟨i, hi0, rfl, hown, hkk⟩ := hrel
    have HKK := Lib.hid hkk
    have HO := Lib.hid hown
    obtain ⟨Ay, cy, hv⟩ := own_slice hown
    subst hv
    have hnl := qNames_len m.refs i
    have hsz := hkk.size
    obtain ⟨-, hrf, hpw⟩ := HM2.out wr hkk
    have HPW := Lib.hid hpw
    have HRF := Lib.hid hrf
    clear hown hkk hpw hrf
    rcases Nat.lt_or_ge i n with hlt | hge
    · have hlt' : (i : Int) < (n : Int) := by omega
      have p0 : (0 : Int) ≤ (i : Int) := by omega
      have hw1 : IntKind.i64.wrap ((i : Int) + 1) = (i : Int) + 1 := IntWalk.i64_in _ (by omega)
      obtain ⟨r, hr⟩ : ∃ r, m.refs[i]? = some r := ⟨_, List.getElem?_eq_getElem (by rw [HLN.out]; exact hlt)⟩
      obtain ⟨pa, rfl, -, c0, c1, c2, c3, f0, -, -, f3⟩ := HRF.out.at_ i r hr
      have HNT : Hid (qNames m.refs (i + 1) = (qNames m.refs i ++ [nameN 115 r.num]) ++ if r.dels ≠ 0 then [nameN 100 r.dels] else []) := Lib.hid (by rw [qNames, List.getD_eq_getElem?_getD, hr]; rfl)
      obtain ⟨Q, hQ⟩ : ∃ Q, Q = qNames m.refs i := ⟨_, rfl⟩
      rw [← hQ] at HNT HO hnl ⊢
      obtain ⟨wx, hwx⟩ : ∃ z, z = wr.alloc (.cells #[.int .i64 r.num, .int .i64 r.docs, .int .i64 r.level, .int .i64 r.dels] 88) := ⟨_, rfl⟩
      obtain ⟨br, hbr⟩ : ∃ z, z = wr.heap.size := ⟨_, rfl⟩
      have hbx : Below wr.heap.size wr wx := by rw [hwx]; exact (Below.refl _ wr).alloc (Nat.le_refl _) _
      have hsx : wx.heap.size = br + 1 := by rw [hwx, hbr]; simp
      have HBR : Hid (Blk wx br 88 #[.int .i64 r.num, .int .i64 r.docs, .int .i64 r.level, .int .i64 r.dels]) := Lib.hid (by rw [hwx, hbr]; exact Blk.new _ _ _)
      have HKX := Lib.hid (HKK.out.trans (Kept.below (F := fun _ => False) hbx) (fun i _ h => h.elim))
      have HOX := Lib.hid (ownsRow_block (w' := wx) HO.out fun g hg => hbx.block g (HO.out.lt g hg).2)
      have HNR : Hid (∀ g, (Value.slice Ay Q.length cy).ownBlock = some g → g < br) := Lib.hid (fun g hg => by rw [hbr]; exact (HO.out.lt g hg).2)
      obtain ⟨-, -, hpx⟩ := HM2.out wx HKX.out
      have HPX := Lib.hid hpx
      have d0 := HBR.out.cell 0
      simp only [List.getElem?_toArray, List.getElem?_cons_zero, List.getElem?_cons_succ] at d0
      have HCS := Lib.hid (pSeg_any wx r.num f0 HPX.out)
      obtain ⟨N1, hN1⟩ : ∃ N1, N1 = nameN 115 r.num := ⟨_, rfl⟩
      rw [← hN1] at HCS HNT
      have HWX := Lib.hid hwx
      have HBB := Lib.hid hbr
      have F3 := Lib.hid f3
      clear hr hN1 hQ hwx hbr hbx hpx f0 f3
      go_wp2_with fail
      rw [← HWX.out, ← HBB.out]
      refine HCS.out.mono ?_
      rintro e u ⟨rfl, hb⟩
      have HKU := Lib.hid ((HKX.out.trans (Kept.below hb) (fun i _ hi => hi)).alloc (.cells #[.string ⟨N1.toArray⟩] 9))
      have HOU : Hid ((u.alloc (.cells #[.string ⟨N1.toArray⟩] 9)).ownsRow (bm + 1) 9 1 (.slice Ay Q.length cy) Q.length (Q.map encStr)) := Lib.hid (World.ownsRow.alloc (ownsRow_block HOX.out fun g hg => hb.block g (HOX.out.lt g hg).2) _)
      have HSU := Lib.hid (one_str_src u N1)
      have HBRU := Lib.hid ((HBR.out.below hb HBR.out.lt).alloc (.cells #[.string ⟨N1.toArray⟩] 9))
      have hsu := hb.size
      have hszx := HKX.out.size
      clear hb HCS d0
      by_cases hd : r.dels = 0
      · have hdd : (r.dels != 0) = false := by simp [hd]
        have HNT2 : Hid (qNames m.refs (i + 1) = Q ++ [N1]) := Lib.hid (by rw [HNT.out, if_neg (by simp [hd]), List.append_nil])
        clear hd
        go_wp2_with (at_builtin; refine wpList_append_src _ rfl (.tmp 14) (.tmp 18) 76 rfl (bm + 1) 9 i0 (.string ⟨#[]⟩) 16 Tryz.underlying76 hi hz0 hz1 hz2 rfl _ _ _ rfl HOU.out _ 1 1 ([N1].map encStr) rfl HSU.out (encStr_one _) (by unfold maxLen; omega) (by omega) (by simp; omega) ?_; intro q2 z2 hown hgrow _; have HKZ := Lib.hid (HKU.out.grown hgrow (fun g hg => .inl (HOU.out.lt g hg).1)); rw [← List.map_append] at hown; have HZ := Lib.hid hown; have c3z := (HBRU.out.grown hgrow (fun e0 => by have := HNR.out br e0.symm; omega)).cell 3; simp only [List.getElem?_toArray, List.getElem?_cons_zero, List.getElem?_cons_succ] at c3z; clear hown hgrow)
        go_roundw
        case rel => exact ⟨i + 1, by omega, by go_num, by rw [HNT2.out, List.length_append]; exact HZ.out, HKZ.out⟩
        case measure => simp [intOf]; omega
      · have hdd : (r.dels != 0) = true := by simpa using hd
        obtain ⟨N2, hN2⟩ : ∃ N2, N2 = nameN 100 r.dels := ⟨_, rfl⟩
        have HNT2 : Hid (qNames m.refs (i + 1) = (Q ++ [N1]) ++ [N2]) := Lib.hid (by rw [HNT.out, if_pos hd, hN2])
        have HN2 := Lib.hid hN2
        clear hN2 hd
        go_wp2_with (at_builtin; refine wpList_append_src _ rfl (.tmp 14) (.tmp 18) 76 rfl (bm + 1) 9 i0 (.string ⟨#[]⟩) 16 Tryz.underlying76 hi hz0 hz1 hz2 rfl _ _ _ rfl HOU.out _ 1 1 ([N1].map encStr) rfl HSU.out (encStr_one _) (by unfold maxLen; omega) (by omega) (by simp; omega) ?_; intro q2 z2 hown hgrow _; have HKZ := Lib.hid (HKU.out.grown hgrow (fun g hg => .inl (HOU.out.lt g hg).1)); rw [← List.map_append] at hown; have HZ := Lib.hid hown; have c3z := (HBRU.out.grown hgrow (fun e0 => by have := HNR.out br e0.symm; omega)).cell 3; simp only [List.getElem?_toArray, List.getElem?_cons_zero, List.getElem?_cons_succ] at c3z; obtain ⟨-, -, hpz⟩ := HM2.out z2 HKZ.out; have HCD := Lib.hid (pDels_any z2 r.dels F3.out hpz); rw [← HN2.out] at HCD; obtain ⟨Az, cz, hqz⟩ := own_slice hown; subst hqz; clear hown hgrow hpz)
        refine HCD.out.mono ?_
        rintro e u2 ⟨rfl, hb2⟩
        have HKV := Lib.hid ((HKZ.out.trans (Kept.below hb2) (fun i _ hi => hi)).alloc (.cells #[.string ⟨N2.toArray⟩] 9))
        have HOV : Hid ((u2.alloc (.cells #[.string ⟨N2.toArray⟩] 9)).ownsRow (bm + 1) 9 1 (.slice Az (Q.length + 1) cz) (Q.length + 1) ((Q ++ [N1]).map encStr)) := Lib.hid (World.ownsRow.alloc (ownsRow_block HZ.out fun g hg => hb2.block g (HZ.out.lt g hg).2) _)
        have HSV := Lib.hid (one_str_src u2 N2)
        have hsv := hb2.size
        have hsz2 := HKZ.out.size
        clear hb2 HCD
        go_wp2_with (at_builtin; refine wpList_append_src _ rfl (.tmp 23) (.tmp 27) 76 rfl (bm + 1) 9 i0 (.string ⟨#[]⟩) 16 Tryz.underlying76 hi hz0 hz1 hz2 rfl _ _ _ rfl HOV.out _ 1 1 ([N2].map encStr) rfl HSV.out (encStr_one _) (by unfold maxLen; omega) (by omega) (by simp; omega) ?_; intro q3 z3 hown hgrow _; have HKY := Lib.hid (HKV.out.grown hgrow (fun g hg => .inl (HOV.out.lt g hg).1)); rw [← List.map_append] at hown; have HY := Lib.hid hown; clear hown hgrow)
        refine ⟨⟨i + 1, by omega, by go_num, ?_, HKY.out⟩, by simp [intOf]; omega⟩
        have := HY.out
        rw [HNT2.out]
        simpa using this
    · have hlz : ¬ ((i : Int) < (n : Int)) := by omega
      obtain rfl : i = n := by omega
      have HBF : Hid (Below w.heap.size w wr) := Lib.hid (HBW.out.trans (HKK.out.toBelow HBW.out.size (fun g hg => by have := HBM.out; omega)))
      go_wp2
      go_ret
      exact ⟨_, rfl, Go.Joins.ownsRow_le HO.out (by have := HBM.out; omega), HBF.out⟩
end Go.Proofs.YtmhiekbpmoikfaaGreatDoor
