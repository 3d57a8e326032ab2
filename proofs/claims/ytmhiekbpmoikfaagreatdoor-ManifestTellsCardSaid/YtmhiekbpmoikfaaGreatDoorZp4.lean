/- The document's disk: what it is, and how it lies; power, did, New, Fuse. The document's disk: Used and Read. The document's disk: a change of the directory. The document's disk: SyncDir, Remove. The document's disk: Rename, Create. The document's disk: Names. The document's disk and the program's: directories under a map of the files' numbers. -/
import Derived.Test.YtmhiekbpmoikfaaGreatDoorZp3
import Derived.Lib.MinMax
import Derived.Deep.RegionHeld3
import Derived.Sort.EncStr
namespace Go.Proofs.YtmhiekbpmoikfaaGreatDoor
open Go.RowKit Go.Maps Go.WideMaps

theorem step_append_rec {P : Program} (w : World) {ops : Array Oper} {o : Oper} {a : Act} {K : Act → World → Prop} {Q : Exit → Act → World → Prop} {E : Prop} (hgd : o.guard = none) (s x : Operand) (t : TypeId)
    (ho : o.op = .call { callee := .builtin .append, args := #[s, x], argTypes := #[t, t] })
    (base : Nat) (e : TypeId) (i : TypeInfo) (z : Value) (size bytes : Nat) (ht : P.underlying t = some (.slice e)) (hi : P.info? e = some i) (hz : i.zero = some z)
    (hsize : i.size = size) (hby : i.bytes = bytes) (hzs : z.cells.size = size) (hsz : 0 < size)
    (v : Value) (n : Nat) (xs : List Value) (hs : a.eval s = v) (hown : w.ownsRow base e size v n xs)
    (ad : Addr) (m c : Nat) (news : List Value) (hx : a.eval x = .slice (some ad) m c) (hl : news.length = m * size) (hnews : ∀ j u, news[j]? = some u → w.cell? (ad.add j) = some u) (h1 : ∀ u ∈ news, u.oneCell' = true)
    (h63 : n + m ≤ maxLen) (hbytes : (n + m) * bytes ≤ 140737488355328) (hbase : base ≤ w.heap.size)
    (h : ∀ v' w', w'.ownsRow base e size v' (n + m) (xs ++ news) → w.grownBy w' v.ownBlock → (v'.ownBlock = v.ownBlock ∨ v'.ownBlock = some w.heap.size) → K (a.put o.dst v') w') :
    if Region.wanted o (yielded ops a.tmps) = true then Oper.wp P o a w K Q else E := by
  have hw : Region.wanted o (yielded ops a.tmps) = true := by simp [Region.wanted, hgd]
  rw [if_pos hw]
  obtain ⟨v', w', hrun, h2, h3, _, h4⟩ := run_append_own_at (P := P) w base t o.type e i z size bytes ht hi hz hsize hby hzs hsz v n xs hown ad m c news hl hnews h1 h63 hbytes hbase
  unfold Oper.wp execOp
  simp only [ho, resolve, invoke, builtin, Sem.run_bind, Sem.run_pure, Result.andThen_ok, List.map_toArray, List.map_cons, List.map_nil, hs, hx, hrun]
  exact h v' w' h2 h3 h4

structure RSt where
  room : Nat
  ino : List (Nm × Nat)
  dir : Dir
  old : Dir
  chs : List RCh
  done : Nat
  fused : Bool
  left : Nat
  off : Bool
def inoCells : List (Nm × Nat) → List Value → List Value
  | x :: l, v :: r => v :: .int .i64 x.2 :: inoCells l r
  | _, _ => []
def chCells : List RCh → List Value
  | [] => []
  | c :: r => .string ⟨c.frm.toArray⟩ :: .string ⟨c.to.toArray⟩ :: .int .i64 c.file :: chCells r
/-- What is always so. -/
structure RWF (r : RSt) : Prop where
  room : r.room ≤ 9223372036854775807
  nino : r.ino.length ≤ 100000
  ndir : r.dir.length ≤ 100000
  nold : r.old.length ≤ 100000
  nchs : r.chs.length ≤ 100000
  ndone : r.done ≤ 100000
  nleft : r.left ≤ 9223372036854775807
  fdir : ∀ p ∈ r.dir, p.2 < r.ino.length
  fold : ∀ p ∈ r.old, p.2 < r.ino.length
  fchs : ∀ c ∈ r.chs, c.to = [] ∨ c.file < r.ino.length
  fit : ∀ x ∈ r.ino, x.2 ≤ x.1.length ∧ x.1.length ≤ 262144
/-- How it lies: its own block, the rows that it writes (vi, vc), and what it only reads (in G). -/
structure IsR1 (w : World) (b : Nat) (G : Nat → Prop) (r : RSt) (vi vc : Value) (A : Option Addr) (c : Nat) (B : Option Addr) (cb : Nat) (svs : List Value) : Prop where
  wf : RWF r
  blk : Blk w b 64 #[.int .i64 r.room, vi, .slice A r.dir.length c, .slice B r.old.length cb, vc, .int .i64 r.done, .bool r.fused, .int .i64 r.left, .bool r.off]
  ino : w.ownsRow 0 124 2 vi r.ino.length (inoCells r.ino svs)
  isl : svs.length = r.ino.length
  dat : ∀ (i : Nat) (sv : Value) (x : Nm × Nat), svs[i]? = some sv → r.ino[i]? = some x → ∃ D cd, sv = .slice D x.1.length cd ∧ x.1.length ≤ cd ∧ BytesIn w D x.1.length x.1 ∧ ∀ ad, D = some ad → 0 < x.1.length → G ad.block
  dir : DirIn w A r.dir.length r.dir
  dirG : ∀ ad, A = some ad → 0 < r.dir.length → G ad.block
  old : DirIn w B r.old.length r.old
  oldG : ∀ ad, B = some ad → 0 < r.old.length → G ad.block
  chs : w.ownsRow 0 137 3 vc r.chs.length (chCells r.chs)
  gb : ¬ G b
  gi : ∀ g, vi.ownBlock = some g → ¬ G g
  gc : ∀ g, vc.ownBlock = some g → ¬ G g
  glt : ∀ i, G i → i < w.heap.size
/-- All its blocks. -/
def OfR1 (b : Nat) (vi vc : Value) (G : Nat → Prop) (i : Nat) : Prop := i = b ∨ vi.ownBlock = some i ∨ vc.ownBlock = some i ∨ G i
def R1At (w : World) (F : Nat → Prop) (b : Nat) (r : RSt) : Prop := ∃ G vi vc A c B cb svs, IsR1 w b G r vi vc A c B cb svs ∧ (∀ i, OfR1 b vi vc G i → F i) ∧ ∀ i, F i → i < w.heap.size
theorem IsR1.same {w w' : World} {b : Nat} {G : Nat → Prop} {r : RSt} {vi vc : Value} {A : Option Addr} {c : Nat} {B : Option Addr} {cb : Nat} {svs : List Value} (h : IsR1 w b G r vi vc A c B cb svs)
    (hb : ∀ i, OfR1 b vi vc G i → w'.heap[i]? = w.heap[i]?) (hs : w.heap.size ≤ w'.heap.size) : IsR1 w' b G r vi vc A c B cb svs :=
  { h with
    blk := (hb b (.inl rfl)).trans h.blk
    ino := ownsRow_block h.ino fun g hg => hb g (.inr (.inl hg))
    dat := fun i sv x e1 e2 => by
      obtain ⟨D, cd, h1, h2, h3, h4⟩ := h.dat i sv x e1 e2
      refine ⟨D, cd, h1, h2, ⟨h3.1, h3.2.1.keep fun ad e h0 => hb _ (.inr (.inr (.inr (h4 ad e h0)))), fun ad e h0 => Nat.lt_of_lt_of_le (h3.2.2 ad e h0) hs⟩, h4⟩
    dir := h.dir.keep fun ad e h0 => hb _ (.inr (.inr (.inr (h.dirG ad e h0))))
    old := h.old.keep fun ad e h0 => hb _ (.inr (.inr (.inr (h.oldG ad e h0))))
    chs := ownsRow_block h.chs fun g hg => hb g (.inr (.inr (.inl hg)))
    glt := fun i hi => Nat.lt_of_lt_of_le (h.glt i hi) hs }
theorem R1At.same {w w' : World} {F : Nat → Prop} {b : Nat} {r : RSt} (h : R1At w F b r) (hb : ∀ i, F i → w'.heap[i]? = w.heap[i]?) (hs : w.heap.size ≤ w'.heap.size) : R1At w' F b r := by
  obtain ⟨G, vi, vc, A, c, B, cb, svs, h1, h2, h3⟩ := h
  exact ⟨G, vi, vc, A, c, B, cb, svs, h1.same (fun i hi => hb i (h2 i hi)) hs, h2, fun i hi => Nat.lt_of_lt_of_le (h3 i hi) hs⟩
theorem R1At.kept {w w' : World} {F H : Nat → Prop} {b : Nat} {r : RSt} (h : R1At w F b r) (hk : Kept H w w') (hn : ∀ i, F i → ¬ H i) : R1At w' F b r := by
  have hlt : ∀ i, F i → i < w.heap.size := by obtain ⟨G, vi, vc, A, c, B, cb, svs, h1, h2, h3⟩ := h; exact h3
  exact h.same (fun i hi => hk.block i (hlt i hi) (hn i hi)) hk.size
theorem R1At.drewN {w : World} {F : Nat → Prop} {b : Nat} {r : RSt} (h : R1At w F b r) (q : Nat) : R1At (w.drewN q) F b r := h.same (fun _ _ => rfl) (Nat.le_refl _)
/-- The numbers of the disk's own block are written; nothing else. -/
theorem IsR1.nums {w w' : World} {b : Nat} {G : Nat → Prop} {r : RSt} {vi vc : Value} {A : Option Addr} {c : Nat} {B : Option Addr} {cb : Nat} {svs : List Value} (h : IsR1 w b G r vi vc A c B cb svs)
    (hb : ∀ i, i ≠ b → w'.heap[i]? = w.heap[i]?) (hs : w.heap.size ≤ w'.heap.size) {dn lf : Nat} {fu of : Bool}
    (blk : Blk w' b 64 #[.int .i64 r.room, vi, .slice A r.dir.length c, .slice B r.old.length cb, vc, .int .i64 dn, .bool fu, .int .i64 lf, .bool of]) (h1 : dn ≤ 100000) (h2 : lf ≤ 9223372036854775807) :
    IsR1 w' b G { r with done := dn, fused := fu, left := lf, off := of } vi vc A c B cb svs where
  wf := { h.wf with ndone := h1, nleft := h2 }
  blk := blk
  ino := ownsRow_block h.ino fun g hg => hb g (fun e => own_blk_ne h.ino h.blk (by decide) (by rw [hg, e]))
  isl := h.isl
  dat := fun i sv x e1 e2 => by
    obtain ⟨D, cd, k1, k2, k3, k4⟩ := h.dat i sv x e1 e2
    exact ⟨D, cd, k1, k2, ⟨k3.1, k3.2.1.keep fun ad e h0 => hb _ (fun e2 => h.gb (by rw [← e2]; exact k4 ad e h0)), fun ad e h0 => Nat.lt_of_lt_of_le (k3.2.2 ad e h0) hs⟩, k4⟩
  dir := h.dir.keep fun ad e h0 => hb _ (fun e2 => h.gb (by rw [← e2]; exact h.dirG ad e h0))
  dirG := h.dirG
  old := h.old.keep fun ad e h0 => hb _ (fun e2 => h.gb (by rw [← e2]; exact h.oldG ad e h0))
  oldG := h.oldG
  chs := ownsRow_block h.chs fun g hg => hb g (fun e => own_blk_ne h.chs h.blk (by decide) (by rw [hg, e]))
  gb := h.gb
  gi := h.gi
  gc := h.gc
  glt := fun i hi => Nat.lt_of_lt_of_le (h.glt i hi) hs

def rPower (r : RSt) : RSt := { r with off := r.off || (r.fused && r.left == 0) }
def rDid (r : RSt) : RSt := { r with done := r.done + 1, left := if r.fused then r.left - 1 else r.left }
set_option maxHeartbeats 2000000 in
set_option maxRecDepth 100000 in
theorem r1power_any (w : World) (F : Nat → Prop) (b : Nat) (r : RSt) (hR : R1At w F b r) :
    Calls Tryz.prog 131 #[at0 b] w fun e w' => e = .returned (.bool (!(rPower r).off)) ∧ R1At w' F b (rPower r) ∧ Kept (fun i => i = b) w w' := by
  obtain ⟨G, vi, vc, A, c, B, cb, svs, h, hF, hlt⟩ := hR
  have c6 := h.blk.cell 6
  have c7 := h.blk.cell 7
  have c8 := h.blk.cell 8
  have z8 := h.blk.frozen 8
  simp at c6 c7 c8
  have H := Lib.hid h
  have hdn := h.wf.ndone
  have hlf := h.wf.nleft
  obtain ⟨room, ino, dir, old, chs, done, fused, left, off⟩ := r
  simp only at c6 c7 c8 hdn hlf
  clear h
  unfold at0 rPower
  have key : ∀ (w' : World) (of : Bool), (∀ i, i ≠ b → w'.heap[i]? = w.heap[i]?) → w.heap.size ≤ w'.heap.size → Blk w' b 64 #[.int .i64 room, vi, .slice A dir.length c, .slice B old.length cb, vc, .int .i64 done, .bool fused, .int .i64 left, .bool of] → R1At w' F b ⟨room, ino, dir, old, chs, done, fused, left, of⟩ := fun w' of hb hs blk =>
    ⟨G, vi, vc, A, c, B, cb, svs, H.out.nums hb hs blk hdn hlf, hF, fun i hi => Nat.lt_of_lt_of_le (hlt i hi) hs⟩
  have KEY := Lib.hid key
  clear key
  cases fused with
  | false =>
    go_enter Tryz.func131, Tryz.ntmps131
    go_wp2
    go_ret
    refine ⟨by simp, ?_, Kept.refl _ _⟩
    rw [show (off || (false && left == 0)) = off by simp]
    exact KEY.out _ _ (fun _ _ => rfl) (Nat.le_refl _) H.out.blk
  | true =>
    by_cases hl : left = 0
    · subst hl
      go_enter Tryz.func131, Tryz.ntmps131
      go_wp2
      go_ret
      refine ⟨by simp, ?_, (Kept.refl (fun i => i = b) w).setCell (.inl rfl) _⟩
      rw [show (off || (true && (0 : Nat) == 0)) = true by simp]
      exact KEY.out _ _ (fun i hi => heap_setCell_other _ _ _ hi) (by simp [World.setCell]) (by simpa using H.out.blk.set_ 8 (.bool true))
    · have d1 : ((left : Int) == 0) = false := by simp; omega
      have e1 : (left == 0) = false := by simpa using hl
      go_enter Tryz.func131, Tryz.ntmps131
      go_wp2
      go_ret
      refine ⟨by simp [e1], ?_, Kept.refl _ _⟩
      rw [show (off || (true && left == 0)) = off by simp [e1]]
      exact KEY.out _ _ (fun _ _ => rfl) (Nat.le_refl _) H.out.blk

set_option maxHeartbeats 2000000 in
set_option maxRecDepth 100000 in
theorem r1did_any (w : World) (F : Nat → Prop) (b : Nat) (r : RSt) (hR : R1At w F b r) (hd : r.done < 100000) (hl : r.fused = true → 0 < r.left) :
    Calls Tryz.prog 132 #[at0 b] w fun e w' => e = .returned (.int .i64 0) ∧ R1At w' F b (rDid r) ∧ Kept (fun i => i = b) w w' := by
  obtain ⟨G, vi, vc, A, c, B, cb, svs, h, hF, hlt⟩ := hR
  have c5 := h.blk.cell 5
  have c6 := h.blk.cell 6
  have c7 := h.blk.cell 7
  have z5 := h.blk.frozen 5
  have z7 := h.blk.frozen 7
  simp at c5 c6 c7
  have H := Lib.hid h
  have hlf := h.wf.nleft
  obtain ⟨room, ino, dir, old, chs, done, fused, left, off⟩ := r
  simp only at c5 c6 c7 hd hlf hl
  clear h
  unfold at0 rDid
  have h5 : IntKind.i64.wrap ((done : Int) + 1) = ((done + 1 : Nat) : Int) := by rw [IntWalk.i64_in _ (by omega)]; simp
  obtain ⟨d1, hd1⟩ : ∃ d1, d1 = done + 1 := ⟨_, rfl⟩
  rw [← hd1] at h5
  have hd2 : d1 ≤ 100000 := by omega
  simp only [← hd1]
  clear hd1
  have key : ∀ (w' : World) (lf : Nat), lf ≤ 9223372036854775807 → (∀ i, i ≠ b → w'.heap[i]? = w.heap[i]?) → w.heap.size ≤ w'.heap.size → Blk w' b 64 #[.int .i64 room, vi, .slice A dir.length c, .slice B old.length cb, vc, .int .i64 d1, .bool fused, .int .i64 lf, .bool off] → R1At w' F b ⟨room, ino, dir, old, chs, d1, fused, lf, off⟩ := fun w' lf h1 hb hs blk =>
    ⟨G, vi, vc, A, c, B, cb, svs, H.out.nums hb hs blk hd2 h1, hF, fun i hi => Nat.lt_of_lt_of_le (hlt i hi) hs⟩
  have KEY := Lib.hid key
  clear key
  cases fused with
  | false =>
    clear hl
    go_enter Tryz.func132, Tryz.ntmps132
    go_wp2
    go_ret
    refine ⟨rfl, ?_, (Kept.refl (fun i => i = b) w).setCell (.inl rfl) _⟩
    exact KEY.out _ _ hlf (fun i hi => heap_setCell_other _ _ _ hi) (by simp [World.setCell]) (by simpa using H.out.blk.set_ 5 (.int .i64 d1))
  | true =>
    have hl := hl rfl
    have h7 : IntKind.i64.wrap ((left : Int) - 1) = ((left - 1 : Nat) : Int) := by rw [IntWalk.i64_in _ (by omega)]; omega
    obtain ⟨l1, hl1⟩ : ∃ l1, l1 = left - 1 := ⟨_, rfl⟩
    rw [← hl1] at h7
    have hl2 : l1 ≤ 9223372036854775807 := by omega
    simp only [← hl1, if_true]
    clear hl1
    go_enter Tryz.func132, Tryz.ntmps132
    go_wp2
    go_ret
    refine ⟨rfl, ?_, ((Kept.refl (fun i => i = b) w).setCell (.inl rfl) _).setCell (.inl rfl) _⟩
    exact KEY.out _ _ hl2 (fun i hi => (heap_setCell_other _ _ _ hi).trans (heap_setCell_other _ _ _ hi)) (by simp [World.setCell]) (by simpa using (H.out.blk.set_ 5 (.int .i64 d1)).set_ 7 (.int .i64 l1))

def rFuse (r : RSt) (n : Int) : RSt := { r with fused := decide (0 ≤ n), left := n.toNat }
set_option maxHeartbeats 2000000 in
set_option maxRecDepth 100000 in
theorem r1Fuse_any (w : World) (F : Nat → Prop) (b : Nat) (r : RSt) (hR : R1At w F b r) (n : Int) (hn : n ≤ 9223372036854775807) :
    Calls Tryz.prog 37 #[at0 b, .int .i64 n] w fun e w' => e = .returned (.tuple #[]) ∧ R1At w' F b (rFuse r n) ∧ Kept (fun i => i = b) w w' := by
  obtain ⟨G, vi, vc, A, c, B, cb, svs, h, hF, hlt⟩ := hR
  have c6 := h.blk.cell 6
  have c7 := h.blk.cell 7
  have z6 := h.blk.frozen 6
  have z7 := h.blk.frozen 7
  simp at c6 c7
  have H := Lib.hid h
  have hdn := h.wf.ndone
  obtain ⟨room, ino, dir, old, chs, done, fused, left, off⟩ := r
  simp only at c6 c7 hdn
  clear h
  unfold at0 rFuse
  have hmax : ∀ w ty, (Builtin.max_ #[3, 3] ty #[.int .i64 n, .int .i64 0]).run Tryz.prog w = .ok (.int .i64 n.toNat) w := fun w ty => by
    rw [Lib.run_max_ints, show max n (0 : Int) = (n.toNat : Int) by omega]
  obtain ⟨l1, hl1⟩ : ∃ l1, l1 = n.toNat := ⟨_, rfl⟩
  rw [← hl1] at hmax
  have hl2 : l1 ≤ 9223372036854775807 := by omega
  simp only [← hl1]
  clear hl1
  have key : ∀ (w' : World) (fu : Bool), (∀ i, i ≠ b → w'.heap[i]? = w.heap[i]?) → w.heap.size ≤ w'.heap.size → Blk w' b 64 #[.int .i64 room, vi, .slice A dir.length c, .slice B old.length cb, vc, .int .i64 done, .bool fu, .int .i64 l1, .bool off] → R1At w' F b ⟨room, ino, dir, old, chs, done, fu, l1, off⟩ := fun w' fu hb hs blk =>
    ⟨G, vi, vc, A, c, B, cb, svs, H.out.nums hb hs blk hdn hl2, hF, fun i hi => Nat.lt_of_lt_of_le (hlt i hi) hs⟩
  have KEY := Lib.hid key
  clear key
  obtain ⟨q, hq⟩ : ∃ q, q = decide (0 ≤ n) := ⟨_, rfl⟩
  have hq2 : decide (n ≥ 0) = q := by rw [hq]
  rw [← hq]
  clear hq
  go_enter Tryz.func37, Tryz.ntmps37
  go_wp2
  go_end0
  refine ⟨rfl, ?_, ((Kept.refl (fun i => i = b) w).setCell (.inl rfl) _).setCell (.inl rfl) _⟩
  exact KEY.out _ _ (fun i hi => (heap_setCell_other _ _ _ hi).trans (heap_setCell_other _ _ _ hi)) (by simp [World.setCell]) (by simpa using (H.out.blk.set_ 6 (.bool q)).set_ 7 (.int .i64 l1))

def RSt.new (room : Nat) : RSt := ⟨room, [], [], [], [], 0, false, 0, false⟩
set_option maxHeartbeats 2000000 in
set_option maxRecDepth 100000 in
theorem r1New_any (w : World) (n : Int) (hn : n ≤ 9223372036854775807) :
    Calls Tryz.prog 76 #[.int .i64 n] w fun e w' => ∃ b, e = .returned (at0 b) ∧ R1At w' (fun i => i = b) b (RSt.new n.toNat) ∧ Below w.heap.size w w' ∧ b = w.heap.size := by
  have hmax : ∀ w ty, (Builtin.max_ #[3, 3] ty #[.int .i64 n, .int .i64 0]).run Tryz.prog w = .ok (.int .i64 n.toNat) w := fun w ty => by
    rw [Lib.run_max_ints, show max n (0 : Int) = (n.toNat : Int) by omega]
  obtain ⟨l1, hl1⟩ : ∃ l1, l1 = n.toNat := ⟨_, rfl⟩
  rw [← hl1] at hmax ⊢
  have hl2 : l1 ≤ 9223372036854775807 := by omega
  clear hl1
  go_enter Tryz.func76, Tryz.ntmps76
  go_wp2
  go_ret
  refine ⟨w.heap.size, rfl, ⟨fun _ => False, .slice none 0 0, .slice none 0 0, none, 0, none, 0, [], ?_, ?_, ?_⟩, (Below.refl _ w).alloc (Nat.le_refl _) _, rfl⟩
  · exact {
      wf := ⟨hl2, by simp [RSt.new], by simp [RSt.new], by simp [RSt.new], by simp [RSt.new], by simp [RSt.new], by simp [RSt.new], by simp [RSt.new], by simp [RSt.new], by simp [RSt.new], by simp [RSt.new]⟩
      blk := Blk.new w _ _
      ino := World.ownsRow_nil _ _ _ _
      isl := rfl
      dat := fun i sv x e1 _ => by simp at e1
      dir := DirIn.empty _
      dirG := fun ad e => by cases e
      old := DirIn.empty _
      oldG := fun ad e => by cases e
      chs := World.ownsRow_nil _ _ _ _
      gb := fun h => h
      gi := fun g _ h => h
      gc := fun g _ h => h
      glt := fun i h => h.elim }
  · rintro i (h | h | h | h)
    · exact h
    · simp [Value.ownBlock] at h
    · simp [Value.ownBlock] at h
    · exact h.elim
  · rintro i rfl
    simp
end Go.Proofs.YtmhiekbpmoikfaaGreatDoor
namespace Go.Proofs.YtmhiekbpmoikfaaGreatDoor
open Go.RowKit Go.Maps Go.WideMaps

theorem inoCells_at : ∀ (l : List (Nm × Nat)) (r : List Value) (i : Nat) (x : Nm × Nat) (v : Value), l[i]? = some x → r[i]? = some v → (inoCells l r)[i * 2]? = some v ∧ (inoCells l r)[i * 2 + 1]? = some (.int .i64 x.2)
  | y :: l, u :: r, 0, x, v, h, h' => by
    simp at h h'
    subst h h'
    exact ⟨rfl, rfl⟩
  | y :: l, u :: r, i + 1, x, v, h, h' => by
    have := inoCells_at l r i x v (by simpa using h) (by simpa using h')
    simpa [inoCells, Nat.add_mul] using this
/-- Where a file lies. -/
theorem IsR1.inode {w : World} {b : Nat} {G : Nat → Prop} {r : RSt} {vi vc : Value} {A : Option Addr} {c : Nat} {B : Option Addr} {cb : Nat} {svs : List Value} (h : IsR1 w b G r vi vc A c B cb svs) {j : Nat} {x : Nm × Nat} (hx : r.ino[j]? = some x) :
    ∃ gi cap D cd, vi = .slice (some ⟨gi, 0, none⟩) r.ino.length cap ∧ svs[j]? = some (.slice D x.1.length cd) ∧ w.cell? ⟨gi, j * 2, none⟩ = some (.slice D x.1.length cd) ∧ w.cell? ⟨gi, j * 2 + 1, none⟩ = some (.int .i64 x.2) ∧ x.1.length ≤ cd ∧ BytesIn w D x.1.length x.1 ∧ ∀ ad, D = some ad → 0 < x.1.length → G ad.block := by
  have hl := (List.getElem?_eq_some_iff.1 hx).1
  obtain ⟨sv, hsv⟩ : ∃ sv, svs[j]? = some sv := ⟨_, List.getElem?_eq_getElem (by rw [h.isl]; exact hl)⟩
  obtain ⟨D, cd, rfl, h2, h3, h4⟩ := h.dat j sv x hsv hx
  obtain ⟨c1, c2⟩ := inoCells_at r.ino svs j x _ hx hsv
  rcases h.ino.2 with ⟨_, h0⟩ | ⟨g, cap, cur, hv, _⟩
  · omega
  · have e1 := h.ino.cells (g := g) (by rw [hv]; rfl) _ _ c1
    have e2 := h.ino.cells (g := g) (by rw [hv]; rfl) _ _ c2
    rw [Addr.add_mid] at e1 e2
    simp only [Nat.zero_add] at e1 e2
    exact ⟨g, cap, D, cd, hv, hsv, e1, e2, h2, h3, h4⟩
def rDat (r : RSt) (j : Nat) : Nm := ((r.ino[j]?).map (·.1)).getD []
theorem rDat_at {r : RSt} {j : Nat} {x : Nm × Nat} (h : r.ino[j]? = some x) : rDat r j = x.1 := by unfold rDat; rw [h]; rfl
def rSum (r : RSt) (d : Dir) : Nat := (d.map fun p => (rDat r p.2).length).sum
theorem rSum_snoc (r : RSt) (d : Dir) (p : Nm × Nat) : rSum r (d ++ [p]) = rSum r d + (rDat r p.2).length := by simp [rSum]
theorem rDat_le {r : RSt} (h : RWF r) (j : Nat) : (rDat r j).length ≤ 262144 := by
  unfold rDat
  cases hx : r.ino[j]? with
  | none => simp
  | some x => exact (h.fit x (List.mem_of_getElem? hx)).2
theorem rSum_le {r : RSt} (h : RWF r) (d : Dir) : rSum r d ≤ d.length * 262144 := by
  induction d with
  | nil => simp [rSum]
  | cons p t ih =>
    have := rDat_le h p.2
    simp only [rSum, List.map_cons, List.sum_cons, List.length_cons] at ih ⊢
    omega

set_option maxHeartbeats 4000000 in
set_option maxRecDepth 100000 in
theorem r1Used_any (w : World) (F : Nat → Prop) (b : Nat) (r : RSt) (hR : R1At w F b r) :
    Calls Tryz.prog 137 #[at0 b] w fun e w' => e = .returned (.int .i64 (rSum r r.dir)) ∧ ∃ q, w' = w.drewN q := by
  obtain ⟨G, vi, vc, A, c, B, cb, svs, h, hF, hlt⟩ := hR
  have c1 := h.blk.cell 1
  have c2 := h.blk.cell 2
  simp at c1 c2
  have H := Lib.hid h
  have hnd := h.wf.ndir
  have hni := h.wf.nino
  obtain ⟨n, hn⟩ : ∃ n, n = r.dir.length := ⟨_, rfl⟩
  rw [← hn] at c2 hnd
  have HN := Lib.hid hn
  clear h hn
  unfold at0
  go_enter Tryz.func137, Tryz.ntmps137
  go_wp2
  go_loopw [3, 4] (fun s i wr => ∃ k q : Nat, k ≤ n ∧ i = .int .i64 k ∧ s = .int .i64 (rSum r (r.dir.take k)) ∧ wr = w.drewN q) (fun _ i _ => n - (intOf i).toNat)
  case atStart => exact ⟨0, 0, by omega, rfl, rfl, rfl⟩
  case round =>
    obtain ⟨k, q, hk, rfl, rfl, rfl⟩ := hrel
    obtain ⟨S, hS⟩ : ∃ S, S = rSum r (r.dir.take k) := ⟨_, rfl⟩
    rw [← hS]
    have HS := Lib.hid hS
    have hSl := rSum_le H.out.wf (r.dir.take k)
    rw [← hS, List.length_take] at hSl
    clear hS
    rcases Nat.lt_or_ge k n with hlt | hge
    · have hlt' : (k : Int) < (n : Int) := by omega
      have p0 : (0 : Int) ≤ (k : Int) := by omega
      obtain ⟨ad, ⟨pn, j⟩, rfl, hp, d1, d2⟩ := H.out.dir.at k (by rw [← HN.out]; exact hlt)
      have hj := H.out.wf.fdir _ (List.mem_of_getElem? hp)
      obtain ⟨x, hx⟩ : ∃ x, r.ino[j]? = some x := ⟨_, List.getElem?_eq_getElem hj⟩
      obtain ⟨gi, cap, D, cd, rfl, _, e1, e2, e3, e4, e5⟩ := H.out.inode hx
      have hxl := (H.out.wf.fit x (List.mem_of_getElem? hx)).2
      have hst : rSum r (r.dir.take (k + 1)) = S + x.1.length := by rw [take_snocD hp, rSum_snoc, ← HS.out, rDat_at hx]
      have HST := Lib.hid hst
      obtain ⟨T, hT⟩ : ∃ T, T = S + x.1.length := ⟨_, rfl⟩
      have hTz : IntKind.i64.wrap ((S : Int) + (x.1.length : Int)) = (T : Int) := by rw [IntWalk.i64_in _ (by omega)]; omega
      have HT := Lib.hid hT
      have q0 : (0 : Int) ≤ (j : Int) := by omega
      have q1 : (j : Int) < (r.ino.length : Int) := by have : j < r.ino.length := hj; omega
      simp only at d2
      clear hp hst hT e2 e3 e4 e5 hj hx d1
      go_wp2_with fail
      go_quiet (fail)
      go_wp2
      go_roundw
      case rel => exact ⟨k + 1, _, by omega, by go_num, by rw [HST.out, ← HT.out], rfl⟩
      case measure => simp [intOf]; omega
    · obtain rfl : k = n := by omega
      have hlz : ¬ ((k : Int) < (k : Int)) := by omega
      have hfin : S = rSum r r.dir := by rw [HS.out, List.take_of_length_le (by rw [← HN.out]; exact Nat.le_refl _)]
      have HF := Lib.hid hfin
      clear hfin
      go_wp2
      go_ret
      exact ⟨by rw [← HF.out]; rfl, _, rfl⟩

def rRead (r : RSt) (k : Nm) : Nm × Int :=
  if r.off then ([], 14) else match dget r.dir k with | none => ([], 12) | some j => (rDat r j, 0)
theorem dfind_dget (d : Dir) (k : Nm) : (dget d k = none ∧ dfind d k = -1) ∨ ∃ (i : Nat) (p : Nm × Nat), d[i]? = some p ∧ dget d k = some p.2 ∧ dfind d k = i := by
  unfold dget dfind
  cases h : d.findIdx? (fun p => p.1 == k) with
  | none =>
    rw [List.findIdx?_eq_none_iff] at h
    refine .inl ⟨?_, rfl⟩
    rw [Option.map_eq_none_iff, List.find?_eq_none]
    intro p hp
    simpa using h p hp
  | some i =>
    rw [List.findIdx?_eq_some_iff_getElem] at h
    obtain ⟨h1, h2, h3⟩ := h
    refine .inr ⟨i, d[i], List.getElem?_eq_getElem h1, ?_, rfl⟩
    have h4 : d.find? (fun p => p.1 == k) = some d[i] := List.find?_eq_some_iff_getElem.2 ⟨h2, i, h1, rfl, fun j hj => by simpa using h3 j hj⟩
    rw [h4]
    rfl

set_option linter.unusedSimpArgs false in
set_option maxHeartbeats 4000000 in
set_option maxRecDepth 100000 in
theorem r1Read_any (w : World) (F : Nat → Prop) (b : Nat) (r : RSt) (hR : R1At w F b r) (nm : ByteArray) :
    Calls Tryz.prog 85 #[at0 b, .string nm] w fun e w' => ∃ v, e = .returned (.tuple #[v, .int .i64 (rRead r nm.data.toList).2]) ∧ w'.ownsRow w.heap.size 5 1 v (rRead r nm.data.toList).1.length ((rRead r nm.data.toList).1.map byteV) ∧ Below w.heap.size w w' := by
  obtain ⟨G, vi, vc, A, c, B, cb, svs, h, hF, hlt⟩ := hR
  obtain ⟨i0, hi, hz0, hz1, hz2⟩ := info_parts byteInfo
  have c1 := h.blk.cell 1
  have c2 := h.blk.cell 2
  have c8 := h.blk.cell 8
  simp at c1 c2 c8
  have H := Lib.hid h
  have hnd := h.wf.ndir
  obtain ⟨n, hn⟩ : ∃ n, n = r.dir.length := ⟨_, rfl⟩
  have hD := h.dir
  rw [← hn] at c2 hnd hD
  have HN := Lib.hid hn
  have HD := Lib.hid hD
  obtain ⟨R, hRR⟩ : ∃ R, R = rRead r nm.data.toList := ⟨_, rfl⟩
  rw [← hRR]
  unfold rRead at hRR
  clear h hn hD
  unfold at0
  by_cases ho : r.off = true
  · rw [if_pos ho] at hRR
    rw [ho] at c8
    have HRR := Lib.hid hRR
    clear hRR ho
    go_enter Tryz.func85, Tryz.ntmps85
    go_wp2
    go_ret2
    rw [HRR.out]
    exact ⟨_, rfl, World.ownsRow_nil _ _ _ _, Below.refl _ _⟩
  have ho' : r.off = false := by simpa using ho
  rw [if_neg ho] at hRR
  rw [ho'] at c8
  clear ho ho'
  rcases dfind_dget r.dir nm.data.toList with ⟨g1, g2⟩ | ⟨i, ⟨pn, j⟩, g0, g1, g2⟩
  · rw [g1] at hRR
    have HRR := Lib.hid hRR
    have G2 := Lib.hid g2
    clear hRR g1 g2
    go_enter Tryz.func85, Tryz.ntmps85
    go_wp2_with fail
    refine (r1find_any w A n c r.dir HD.out nm).mono ?_
    rintro e w1 ⟨rfl, hw⟩
    rw [hw, G2.out]
    clear hw
    go_wp2
    go_ret2
    rw [HRR.out]
    exact ⟨_, rfl, World.ownsRow_nil _ _ _ _, Below.refl _ _⟩
  · rw [g1] at hRR
    have hin : i < n := by rw [HN.out]; exact (List.getElem?_eq_some_iff.1 g0).1
    have hj := H.out.wf.fdir _ (List.mem_of_getElem? g0)
    obtain ⟨x, hx⟩ : ∃ x, r.ino[j]? = some x := ⟨_, List.getElem?_eq_getElem hj⟩
    simp only [rDat_at hx] at hRR
    obtain ⟨gi, cap, D, cd, rfl, _, e1, e2, e3, e4, e5⟩ := H.out.inode hx
    have hxl := (H.out.wf.fit x (List.mem_of_getElem? hx)).2
    obtain ⟨ad, p', rfl, hp', d1, d2⟩ := HD.out.at i hin
    rw [g0] at hp'
    cases hp'
    have p0 : (0 : Int) ≤ (i : Int) := by omega
    have hlt' : (i : Int) < (n : Int) := by omega
    have q0 : (0 : Int) ≤ (j : Int) := by omega
    have q1 : (j : Int) < (r.ino.length : Int) := by have : j < r.ino.length := hj; omega
    have hni : ¬ ((i : Int) < 0) := by omega
    simp only at d2
    have HRR := Lib.hid hRR
    have G2 := Lib.hid g2
    have HX := Lib.hid e4
    obtain ⟨m, hm⟩ : ∃ m, m = x.1.length := ⟨_, rfl⟩
    rw [← hm] at e1 hxl HX
    have HM := Lib.hid hm
    have HC := Lib.hid (show ∀ w', Below w.heap.size w w' → w'.cell? ⟨b, 1, none⟩ = some (.slice (some ⟨gi, 0, none⟩) r.ino.length cap) ∧ w'.cell? ⟨b, 2, none⟩ = some (.slice (some ad) n c) ∧ w'.cell? ⟨(ad.add (i * 2)).block, (ad.add (i * 2)).off + 1, none⟩ = some (.int .i64 j) ∧ w'.cell? ⟨gi, j * 2, none⟩ = some (.slice D m cd) from fun w' hb => ⟨below_cells hb c1, below_cells hb c2, below_cells hb d2, below_cells hb e1⟩)
    clear hRR g0 g1 g2 hj hx e2 e3 e4 e5 d1 hm
    go_enter Tryz.func85, Tryz.ntmps85
    go_wp2_with fail
    refine (r1find_any w (some ad) n c r.dir HD.out nm).mono ?_
    rintro e w1 ⟨rfl, hw⟩
    rw [hw, G2.out]
    clear hw
    go_wp2_with fail
    have hB0 : Below w.heap.size w w.drew := (Below.refl _ w).drew
    have HB0 := Lib.hid hB0
    clear hB0
    refine wp_region_held_drew (S := fun w' => w'.cell? ⟨b, 1, none⟩ = some (.slice (some ⟨gi, 0, none⟩) r.ino.length cap) ∧ w'.cell? ⟨b, 2, none⟩ = some (.slice (some ad) n c) ∧ w'.cell? ⟨(ad.add (i * 2)).block, (ad.add (i * 2)).off + 1, none⟩ = some (.int .i64 j) ∧ w'.cell? ⟨gi, j * 2, none⟩ = some (.slice D m cd)) (by kernel_rfl) (HC.out _ HB0.out) (fun hHeld => ?_)
    refine wpAnyH_take (i := 1) (oi := ?oi1) (v := ?v1) ?hi1 (by kernel_rfl) (by kernel_rfl) (by kernel_rfl) ?hQ1 (Or.inl ⟨?hw1, ?hy1⟩) (by assumption) ?rest1
    case hi1 => (first | (simp only [List.getElem?_toArray, List.getElem?_cons_zero, List.getElem?_cons_succ]; rfl) | rfl)
    case hQ1 => exact fun _ _ _ h => h
    case hw1 => rfl
    case hy1 => ((intro w hSw; go_simp); first | done | with_reducible rfl)
    try simp only [Act.put, List.setIfInBounds_toArray, List.set_cons_zero, List.set_cons_succ]
    refine wpAnyH_take (i := 2) (oi := ?oi2) (v := ?v2) ?hi2 (by kernel_rfl) (by kernel_rfl) (by kernel_rfl) ?hQ2 (Or.inl ⟨?hw2, ?hy2⟩) (by assumption) ?rest2
    case hi2 => (first | (simp only [List.getElem?_toArray, List.getElem?_cons_zero, List.getElem?_cons_succ]; rfl) | rfl)
    case hQ2 => exact fun _ _ _ h => h
    case hw2 => rfl
    case hy2 => ((intro w hSw; go_simp); first | done | with_reducible rfl)
    try simp only [Act.put, List.setIfInBounds_toArray, List.set_cons_zero, List.set_cons_succ]
    refine wpAnyH_take (i := 3) (oi := ?oi3) (v := ?v3) ?hi3 (by kernel_rfl) (by kernel_rfl) (by kernel_rfl) ?hQ3 (Or.inl ⟨?hw3, ?hy3⟩) (by assumption) ?rest3
    case hi3 => (first | (simp only [List.getElem?_toArray, List.getElem?_cons_zero, List.getElem?_cons_succ]; rfl) | rfl)
    case hQ3 => exact fun _ _ _ h => h
    case hw3 => rfl
    case hy3 => ((intro w hSw; go_simp); first | done | with_reducible rfl)
    try simp only [Act.put, List.setIfInBounds_toArray, List.set_cons_zero, List.set_cons_succ]
    refine wpAnyH_take (i := 4) (oi := ?oi4) (v := ?v4) ?hi4 (by kernel_rfl) (by kernel_rfl) (by kernel_rfl) ?hQ4 (Or.inl ⟨?hw4, ?hy4⟩) (by assumption) ?rest4
    case hi4 => (first | (simp only [List.getElem?_toArray, List.getElem?_cons_zero, List.getElem?_cons_succ]; rfl) | rfl)
    case hQ4 => exact fun _ _ _ h => h
    case hw4 => rfl
    case hy4 => ((intro w hSw; go_simp); first | done | with_reducible rfl)
    try simp only [Act.put, List.setIfInBounds_toArray, List.set_cons_zero, List.set_cons_succ]
    refine wpAnyH_take (i := 5) (oi := ?oi5) (v := ?v5) ?hi5 (by kernel_rfl) (by kernel_rfl) (by kernel_rfl) ?hQ5 (Or.inl ⟨?hw5, ?hy5⟩) (by assumption) ?rest5
    case hi5 => (first | (simp only [List.getElem?_toArray, List.getElem?_cons_zero, List.getElem?_cons_succ]; rfl) | rfl)
    case hQ5 => exact fun _ _ _ h => h
    case hw5 => rfl
    case hy5 => ((intro w hSw; go_simp); first | done | with_reducible rfl)
    try simp only [Act.put, List.setIfInBounds_toArray, List.set_cons_zero, List.set_cons_succ]
    refine wpAnyH_take (i := 6) (oi := ?oi6) (v := ?v6) ?hi6 (by kernel_rfl) (by kernel_rfl) (by kernel_rfl) ?hQ6 (Or.inl ⟨?hw6, ?hy6⟩) (by assumption) ?rest6
    case hi6 => (first | (simp only [List.getElem?_toArray, List.getElem?_cons_zero, List.getElem?_cons_succ]; rfl) | rfl)
    case hQ6 => exact fun _ _ _ h => h
    case hw6 => rfl
    case hy6 => ((intro w hSw; go_simp); first | done | with_reducible rfl)
    try simp only [Act.put, List.setIfInBounds_toArray, List.set_cons_zero, List.set_cons_succ]
    refine wpAnyH_take (i := 7) (oi := ?oi7) (v := ?v7) ?hi7 (by kernel_rfl) (by kernel_rfl) (by kernel_rfl) ?hQ7 (Or.inl ⟨?hw7, ?hy7⟩) (by assumption) ?rest7
    case hi7 => (first | (simp only [List.getElem?_toArray, List.getElem?_cons_zero, List.getElem?_cons_succ]; rfl) | rfl)
    case hQ7 => exact fun _ _ _ h => h
    case hw7 => rfl
    case hy7 => ((intro w hSw; go_simp); first | done | with_reducible rfl)
    try simp only [Act.put, List.setIfInBounds_toArray, List.set_cons_zero, List.set_cons_succ]
    refine wpAnyH_take (i := 8) (oi := ?oi8) (v := ?v8) ?hi8 (by kernel_rfl) (by kernel_rfl) (by kernel_rfl) ?hQ8 (Or.inl ⟨?hw8, ?hy8⟩) (by assumption) ?rest8
    case hi8 => (first | (simp only [List.getElem?_toArray, List.getElem?_cons_zero, List.getElem?_cons_succ]; rfl) | rfl)
    case hQ8 => exact fun _ _ _ h => h
    case hw8 => rfl
    case hy8 => ((intro w hSw; go_simp); first | done | with_reducible rfl)
    try simp only [Act.put, List.setIfInBounds_toArray, List.set_cons_zero, List.set_cons_succ]
    refine wpAnyH_take (i := 9) (oi := ?oi9) (v := ?v9) ?hi9 (by kernel_rfl) (by kernel_rfl) (by kernel_rfl) ?hQ9 (Or.inl ⟨?hw9, ?hy9⟩) (by assumption) ?rest9
    case hi9 => (first | (simp only [List.getElem?_toArray, List.getElem?_cons_zero, List.getElem?_cons_succ]; rfl) | rfl)
    case hQ9 => exact fun _ _ _ h => h
    case hw9 => rfl
    case hy9 => ((intro w hSw; go_simp); first | done | with_reducible rfl)
    try simp only [Act.put, List.setIfInBounds_toArray, List.set_cons_zero, List.set_cons_succ]
    refine wpAnyH_take (i := 10) (oi := ?oi10) (v := ?v10) ?hi10 (by kernel_rfl) (by kernel_rfl) (by kernel_rfl) ?hQ10 (Or.inl ⟨?hw10, ?hy10⟩) (by assumption) ?rest10
    case hi10 => (first | (simp only [List.getElem?_toArray, List.getElem?_cons_zero, List.getElem?_cons_succ]; rfl) | rfl)
    case hQ10 => exact fun _ _ _ h => h
    case hw10 => rfl
    case hy10 => ((intro w hSw; go_simp); first | done | with_reducible rfl)
    try simp only [Act.put, List.setIfInBounds_toArray, List.set_cons_zero, List.set_cons_succ]
    refine wpAnyH_take (i := 11) (oi := ?oi11) (v := ?v11) ?hi11 (by kernel_rfl) (by kernel_rfl) (by kernel_rfl) ?hQ11 (Or.inl ⟨?hw11, ?hy11⟩) (by assumption) ?rest11
    case hi11 => (first | (simp only [List.getElem?_toArray, List.getElem?_cons_zero, List.getElem?_cons_succ]; rfl) | rfl)
    case hQ11 => exact fun _ _ _ h => h
    case hw11 => rfl
    case hy11 => ((intro w hSw; go_simp); first | done | with_reducible rfl)
    try simp only [Act.put, List.setIfInBounds_toArray, List.set_cons_zero, List.set_cons_succ]
    refine wpAnyH_take (i := 12) (oi := ?oi12) (v := ?v12) ?hi12 (by kernel_rfl) (by kernel_rfl) (by kernel_rfl) ?hQ12 (Or.inl ⟨?hw12, ?hy12⟩) (by assumption) ?rest12
    case hi12 => (first | (simp only [List.getElem?_toArray, List.getElem?_cons_zero, List.getElem?_cons_succ]; rfl) | rfl)
    case hQ12 => exact fun _ _ _ h => h
    case hw12 => rfl
    case hy12 => ((intro w hSw; go_simp); first | done | with_reducible rfl)
    try simp only [Act.put, List.setIfInBounds_toArray, List.set_cons_zero, List.set_cons_succ]
    refine wpAnyH_take (i := 13) (oi := ?oi13) (v := ?v13) ?hi13 (by kernel_rfl) (by kernel_rfl) (by kernel_rfl) ?hQ13 (Or.inl ⟨?hw13, ?hy13⟩) (by assumption) ?rest13
    case hi13 => (first | (simp only [List.getElem?_toArray, List.getElem?_cons_zero, List.getElem?_cons_succ]; rfl) | rfl)
    case hQ13 => exact fun _ _ _ h => h
    case hw13 => rfl
    case hy13 => ((intro w hSw; go_simp); first | done | with_reducible rfl)
    try simp only [Act.put, List.setIfInBounds_toArray, List.set_cons_zero, List.set_cons_succ]
    refine wpAnyH_take (i := 14) (oi := ?oi14) (v := ?v14) ?hi14 (by kernel_rfl) (by kernel_rfl) (by kernel_rfl) ?hQ14 (Or.inl ⟨?hw14, ?hy14⟩) (by assumption) ?rest14
    case hi14 => (first | (simp only [List.getElem?_toArray, List.getElem?_cons_zero, List.getElem?_cons_succ]; rfl) | rfl)
    case hQ14 => exact fun _ _ _ h => h
    case hw14 => rfl
    case hy14 => ((intro w hSw; go_simp); first | done | with_reducible rfl)
    try simp only [Act.put, List.setIfInBounds_toArray, List.set_cons_zero, List.set_cons_succ]
    refine wpAnyH_take (i := 15) (oi := ?oi15) (v := ?v15) ?hi15 (by kernel_rfl) (by kernel_rfl) (by kernel_rfl) ?hQ15 (Or.inl ⟨?hw15, ?hy15⟩) (by assumption) ?rest15
    case hi15 => (first | (simp only [List.getElem?_toArray, List.getElem?_cons_zero, List.getElem?_cons_succ]; rfl) | rfl)
    case hQ15 => exact fun _ _ _ h => h
    case hw15 => rfl
    case hy15 => ((intro w hSw; go_simp); first | done | with_reducible rfl)
    try simp only [Act.put, List.setIfInBounds_toArray, List.set_cons_zero, List.set_cons_succ]
    refine wpAnyH_ready (rs := [0]) (by kernel_rfl) (by simp) ?_
    refine AllReadyH.cons (o := ?oA) ?hiA ?stepA AllReadyH.nil
    case hiA => (simp only [List.getElem?_toArray, List.getElem?_cons_zero, List.getElem?_cons_succ]; rfl)
    intro K hK
    go_simp
    have hB1 := HB0.out.alloc HB0.out.size (.cells #[] 5)
    have hs1 : (w.drew.alloc (.cells #[] 5)).heap.size = w.heap.size + 1 := by simp
    have hin := HX.out.below hB1
    have HIN := Lib.hid hin
    have HB1 := Lib.hid hB1
    clear hin hB1
    refine hK.out _ _ (HC.out _ HB1.out) (fun hHeld1 => ?_)
    clear hK K hHeld
    try simp only [Act.put, List.setIfInBounds_toArray, List.set_cons_zero, List.set_cons_succ]
    refine wpAnyH_ready (rs := [16]) (by kernel_rfl) (by simp) ?_
    refine AllReadyH.cons (o := ?oB) ?hiB ?stepB AllReadyH.nil
    case hiB => (simp only [List.getElem?_toArray, List.getElem?_cons_zero, List.getElem?_cons_succ]; rfl)
    intro K hK
    refine step_append_src _ rfl (.tmp 19) (.tmp 34) 25 rfl w.heap.size 5 i0 (.int .u8 0) 1 Tryz.underlying25 hi hz0 hz1 hz2 rfl (.slice (some ⟨w.heap.size, 0, none⟩) 0 0) 0 [] rfl (World.ownsRow_made w.drew #[] 0 HB0.out.size (Nat.zero_le _) rfl) D m cd (x.1.map byteV) rfl HIN.out.2.1 (u8_one _) (by unfold maxLen; omega) (by omega) (by simp) ?_
    intro v3 w3 hown hgrow hloc
    rw [Nat.zero_add, List.nil_append] at hown
    have HO := Lib.hid hown
    have HB3 := Lib.hid (HB1.out.grown hgrow (by rw [hs1]; omega) (fun k e => by cases e; exact Nat.le_refl _))
    clear hown hgrow hloc
    refine hK.out _ _ (HC.out _ HB3.out) (fun hHeld2 => ?_)
    clear hK K hHeld1
    try simp only [Act.put, List.setIfInBounds_toArray, List.set_cons_zero, List.set_cons_succ]
    refine wpAnyH_take (i := 17) (oi := ?oi17) (v := ?v17) ?hi17 (by kernel_rfl) (by kernel_rfl) (by kernel_rfl) ?hQ17 (Or.inl ⟨?hw17, ?hy17⟩) (by assumption) ?rest17
    case hi17 => (first | (simp only [List.getElem?_toArray, List.getElem?_cons_zero, List.getElem?_cons_succ]; rfl) | rfl)
    case hQ17 => exact fun _ _ _ h => h
    case hw17 => rfl
    case hy17 => ((intro w hSw; go_simp); first | done | with_reducible rfl)
    try simp only [Act.put, List.setIfInBounds_toArray, List.set_cons_zero, List.set_cons_succ]
    refine wpAnyH_take (i := 18) (oi := ?oi18) (v := ?v18) ?hi18 (by kernel_rfl) (by kernel_rfl) (by kernel_rfl) ?hQ18 (Or.inl ⟨?hw18, ?hy18⟩) (by assumption) ?rest18
    case hi18 => (first | (simp only [List.getElem?_toArray, List.getElem?_cons_zero, List.getElem?_cons_succ]; rfl) | rfl)
    case hQ18 => exact fun _ _ _ h => h
    case hw18 => rfl
    case hy18 => ((intro w hSw; go_simp); first | done | with_reducible rfl)
    try simp only [Act.put, List.setIfInBounds_toArray, List.set_cons_zero, List.set_cons_succ]
    refine wpAnyH_done (by kernel_rfl) ?_ _
    go_wp2
    go_ret2
    rw [HRR.out]
    refine ⟨v3, rfl, ?_, HB3.out⟩
    rw [← HM.out]
    exact HO.out
end Go.Proofs.YtmhiekbpmoikfaaGreatDoor
namespace Go.Proofs.YtmhiekbpmoikfaaGreatDoor
open Go.RowKit Go.Maps Go.WideMaps

theorem chCells_app (a b : List RCh) : chCells (a ++ b) = chCells a ++ chCells b := by
  induction a with
  | nil => rfl
  | cons p r ih => simp [chCells, ih]
theorem chInfo : (Tryz.prog.info? 137).map (fun i => (i.zero, i.size, i.bytes)) = some (some (.agg #[.string ⟨#[]⟩, .string ⟨#[]⟩, .int .i64 0]), 3, 40) := by kernel_rfl
/-- The directory and the changes have turned. -/
theorem IsR1.dirch {w w' : World} {b : Nat} {G : Nat → Prop} {r : RSt} {vi vc : Value} {A : Option Addr} {c : Nat} {B : Option Addr} {cb : Nat} {svs : List Value} (h : IsR1 w b G r vi vc A c B cb svs)
    (hs : w.heap.size ≤ w'.heap.size) (hb : ∀ i, i ≠ b → vc.ownBlock ≠ some i → i < w.heap.size → w'.heap[i]? = w.heap[i]?) {d' : Dir} {chs' : List RCh} {vc' : Value} {A' : Option Addr} {c' : Nat}
    (blk : Blk w' b 64 #[.int .i64 r.room, vi, .slice A' d'.length c', .slice B r.old.length cb, vc', .int .i64 r.done, .bool r.fused, .int .i64 r.left, .bool r.off])
    (hd : DirIn w' A' d'.length d') (hA : A' = A ∧ d' = r.dir ∨ ∀ ad, A' = some ad → w.heap.size ≤ ad.block)
    (hc : w'.ownsRow 0 137 3 vc' chs'.length (chCells chs')) (hvc : vc'.ownBlock = vc.ownBlock ∨ ∃ g, vc'.ownBlock = some g ∧ w.heap.size ≤ g ∧ ∀ ad, A' = some ad → 0 < d'.length → ad.block ≠ g)
    (wf : RWF { r with dir := d', chs := chs' }) :
    ∃ G', IsR1 w' b G' { r with dir := d', chs := chs' } vi vc' A' c' B cb svs ∧ ∀ i, G' i → G i ∨ (w.heap.size ≤ i ∧ i < w'.heap.size) := by
  have hbl := h.blk.lt
  have keepG : ∀ i, G i → w'.heap[i]? = w.heap[i]? := fun i hi => hb i (fun e => h.gb (e ▸ hi)) (fun e => h.gc i e hi) (h.glt i hi)
  refine ⟨fun i => G i ∨ ∃ ad, A' = some ad ∧ 0 < d'.length ∧ w.heap.size ≤ ad.block ∧ i = ad.block, ?_, ?_⟩
  · exact {
      wf := wf
      blk := blk
      ino := ownsRow_block h.ino fun g hg => hb g (fun e => own_blk_ne h.ino h.blk (by decide) (by rw [hg, e])) (own_row_ne h.ino h.chs (by decide) g hg) (h.ino.lt g hg).2
      isl := h.isl
      dat := fun i sv x e1 e2 => by
        obtain ⟨D, cd, k1, k2, k3, k4⟩ := h.dat i sv x e1 e2
        exact ⟨D, cd, k1, k2, ⟨k3.1, k3.2.1.keep fun ad e h0 => keepG _ (k4 ad e h0), fun ad e h0 => Nat.lt_of_lt_of_le (k3.2.2 ad e h0) hs⟩, fun ad e h0 => .inl (k4 ad e h0)⟩
      dir := hd
      dirG := fun ad e h0 => by
        rcases hA with ⟨h1, h2⟩ | h1
        · subst h1
          exact .inl (h.dirG ad e (by rw [← h2]; exact h0))
        · exact .inr ⟨ad, e, h0, h1 ad e, rfl⟩
      old := h.old.keep fun ad e h0 => keepG _ (h.oldG ad e h0)
      oldG := fun ad e h0 => .inl (h.oldG ad e h0)
      chs := hc
      gb := fun hg => by
        rcases hg with hg | ⟨ad, _, _, h1, h2⟩
        · exact h.gb hg
        · omega
      gi := fun g hg hG => by
        rcases hG with hG | ⟨ad, _, _, h1, h2⟩
        · exact h.gi g hg hG
        · have := (h.ino.lt g hg).2; omega
      gc := fun g hg hG => by
        rcases hvc with h3 | ⟨g', h3, h4, h5⟩
        · rw [h3] at hg
          rcases hG with hG | ⟨ad, _, _, h1, h2⟩
          · exact h.gc g hg hG
          · have := (h.chs.lt g hg).2; omega
        · rw [h3] at hg
          cases hg
          rcases hG with hG | ⟨ad, h0, h01, h1, h2⟩
          · have := h.glt _ hG; omega
          · exact h5 ad h0 h01 h2.symm
      glt := fun i hi => by
        rcases hi with hi | ⟨ad, h0, h01, h1, h2⟩
        · exact Nat.lt_of_lt_of_le (h.glt i hi) hs
        · rw [h2]; exact hd.lt ad h0 h01 }
  · rintro i (hi | ⟨ad, h0, h01, h1, h2⟩)
    · exact .inl hi
    · exact .inr (by rw [h2]; exact ⟨h1, hd.lt ad h0 h01⟩)

/-- How a call leaves the document's disk. -/
def R1Left (w : World) (F : Nat → Prop) (b : Nat) (n : Int) (r' : RSt) (e : Ending) (w' : World) : Prop :=
  e = .returned (.int .i64 n) ∧ ∃ F', R1At w' F' b r' ∧ Kept F w w' ∧ ∀ i, F' i → F i ∨ w.heap.size ≤ i
def rChange (r : RSt) (x : RCh) : RSt := rDid { r with dir := x.eff r.dir, chs := r.chs ++ [x] }
theorem eff_len (x : RCh) (d : Dir) : (x.eff d).length ≤ d.length + 1 := by
  have h1 := length_ddel d x.frm
  unfold RCh.eff
  split
  · split
    · omega
    · omega
  · split
    · exact length_dput d _ _
    · have := length_dput (ddel d x.frm) x.to x.file
      omega
theorem eff_file (x : RCh) (d : Dir) (m : Nat) (hd : ∀ p ∈ d, p.2 < m) (hx : x.to = [] ∨ x.file < m) : ∀ p ∈ x.eff d, p.2 < m := by
  intro p hp
  unfold RCh.eff at hp
  have h1 : ∀ q ∈ (if x.frm = [] then d else ddel d x.frm), q.2 < m := by
    intro q hq
    split at hq
    · exact hd q hq
    · exact hd q (mem_ddel.1 hq).1
  split at hp
  · exact h1 p hp
  · rename_i ht
    rcases mem_dput.1 hp with h | h
    · rw [h]
      rcases hx with h2 | h2
      · exact absurd h2 ht
      · exact h2
    · exact h1 p h.1
theorem change_wf {r : RSt} (h : RWF r) (x : RCh) (hd : r.dir.length < 100000) (hc : r.chs.length < 100000) (hx : x.to = [] ∨ x.file < r.ino.length) : RWF { r with dir := x.eff r.dir, chs := r.chs ++ [x] } :=
  { h with
    ndir := by have := eff_len x r.dir; show (x.eff r.dir).length ≤ _; omega
    nchs := by simp; omega
    fdir := eff_file x r.dir _ h.fdir hx
    fchs := fun c hc' => by
      rcases List.mem_append.1 hc' with h1 | h1
      · exact h.fchs c h1
      · rw [List.mem_singleton.1 h1]; exact hx }

set_option linter.unusedSimpArgs false in
set_option maxHeartbeats 4000000 in
set_option maxRecDepth 100000 in
theorem r1change_any (w : World) (F : Nat → Prop) (b : Nat) (r : RSt) (hR : R1At w F b r) (x : RCh) (hnd : r.dir.length < 100000) (hnc : r.chs.length < 100000) (hx : x.to = [] ∨ x.file < r.ino.length) (hdn : r.done < 100000) (hl : r.fused = true → 0 < r.left) :
    Calls Tryz.prog 133 #[at0 b, x.val] w (R1Left w F b 0 (rChange r x)) := by
  obtain ⟨G, vi, vc, A, c, B, cb, svs, h, hF, hlt⟩ := hR
  obtain ⟨i0, hi, hz0, hz1, hz2⟩ := info_parts chInfo
  have H := Lib.hid h
  have HF := Lib.hid hF
  have HLT := Lib.hid hlt
  have hbl := h.blk.lt
  have hwf := change_wf h.wf x hnd hnc hx
  have HWF := Lib.hid hwf
  have hvcb : ∀ g, vc.ownBlock = some g → g < w.heap.size := fun g hg => (h.chs.lt g hg).2
  have HVB := Lib.hid (show vc.ownBlock ≠ some b from own_blk_ne h.chs h.blk (by decide))
  have c2 := h.blk.cell 2
  simp at c2
  clear h hF hlt hwf hx
  unfold at0 RCh.val
  go_enter Tryz.func133, Tryz.ntmps133
  go_wp2_with fail
  refine wp_at ?_
  intro W1 hW1
  have hB1 : Below w.heap.size w W1 := by rw [hW1]; exact (Below.refl _ w).alloc (Nat.le_refl _) _
  have hX1 : Blk W1 w.heap.size 137 #[.string ⟨x.frm.toArray⟩, .string ⟨x.to.toArray⟩, .int .i64 x.file] := by rw [hW1]; exact Blk.new _ _ _
  have hs1 : W1.heap.size = w.heap.size + 1 := by rw [hW1]; simp
  have hb1 := H.out.blk.below hB1 hbl
  have k2 := hb1.cell 2
  simp at k2
  have hd1 := H.out.dir.below hB1
  have HCX := Lib.hid (show ∀ w' : World, w'.heap[w.heap.size]? = W1.heap[w.heap.size]? → (w'.cell? ⟨w.heap.size, 0, none⟩ = some (.string ⟨x.frm.toArray⟩) ∧ w'.cell? ⟨w.heap.size, 1, none⟩ = some (.string ⟨x.to.toArray⟩) ∧ w'.cell? ⟨w.heap.size, 2, none⟩ = some (.int .i64 x.file)) from fun w' hb => ⟨by simpa using (hX1.same hb).cell 0, by simpa using (hX1.same hb).cell 1, by simpa using (hX1.same hb).cell 2⟩)
  have HC := Lib.hid (show ∀ w', Below W1.heap.size W1 w' → (w'.cell? ⟨w.heap.size, 0, none⟩ = some (.string ⟨x.frm.toArray⟩) ∧ w'.cell? ⟨w.heap.size, 1, none⟩ = some (.string ⟨x.to.toArray⟩) ∧ w'.cell? ⟨w.heap.size, 2, none⟩ = some (.int .i64 x.file)) from fun w' hb => ⟨by simpa using (hX1.below hb (by omega)).cell 0, by simpa using (hX1.below hb (by omega)).cell 1, by simpa using (hX1.below hb (by omega)).cell 2⟩)
  have HD1 := Lib.hid hd1
  have HB1 := Lib.hid hB1
  have HX1 := Lib.hid hX1
  have HBK1 := Lib.hid hb1
  have hnd2 : r.dir.length ≤ 1000000 := by omega
  clear hW1 hd1 hB1 hX1 hb1 c2
  have k2' : W1.drew.cell? ⟨b, 2, none⟩ = some (.slice A r.dir.length c) := k2
  refine wp_region_held_drew (S := fun w' => w'.cell? ⟨w.heap.size, 0, none⟩ = some (.string ⟨x.frm.toArray⟩) ∧ w'.cell? ⟨w.heap.size, 1, none⟩ = some (.string ⟨x.to.toArray⟩) ∧ w'.cell? ⟨w.heap.size, 2, none⟩ = some (.int .i64 x.file)) (by kernel_rfl) (HC.out _ (Below.refl _ W1).drew) (fun hHeld => ?_)
  refine wpAnyH_take (i := 0) (oi := ?oi0) (v := ?v0) ?hi0 (by kernel_rfl) (by kernel_rfl) (by kernel_rfl) ?hQ0 (Or.inl ⟨?hw0, ?hy0⟩) (by assumption) ?rest0
  case hi0 => (first | (simp only [List.getElem?_toArray, List.getElem?_cons_zero, List.getElem?_cons_succ]; rfl) | rfl)
  case hQ0 => exact fun _ _ _ h => h
  case hw0 => rfl
  case hy0 => ((intro w hSw; go_simp); first | done | with_reducible rfl)
  try simp only [Act.put, List.setIfInBounds_toArray, List.set_cons_zero, List.set_cons_succ]
  refine wpAnyH_take (i := 1) (oi := ?oi1) (v := ?v1) ?hi1 (by kernel_rfl) (by kernel_rfl) (by kernel_rfl) ?hQ1 (Or.inl ⟨?hw1, ?hy1⟩) (by assumption) ?rest1
  case hi1 => (first | (simp only [List.getElem?_toArray, List.getElem?_cons_zero, List.getElem?_cons_succ]; rfl) | rfl)
  case hQ1 => exact fun _ _ _ h => h
  case hw1 => rfl
  case hy1 => ((intro w hSw; go_simp); first | done | with_reducible rfl)
  try simp only [Act.put, List.setIfInBounds_toArray, List.set_cons_zero, List.set_cons_succ]
  refine wpAnyH_take (i := 2) (oi := ?oi2) (v := ?v2) ?hi2 (by kernel_rfl) (by kernel_rfl) (by kernel_rfl) ?hQ2 (Or.inl ⟨?hw2, ?hy2⟩) (by assumption) ?rest2
  case hi2 => (first | (simp only [List.getElem?_toArray, List.getElem?_cons_zero, List.getElem?_cons_succ]; rfl) | rfl)
  case hQ2 => exact fun _ _ _ h => h
  case hw2 => rfl
  case hy2 => ((intro w hSw; go_simp); first | done | with_reducible rfl)
  try simp only [Act.put, List.setIfInBounds_toArray, List.set_cons_zero, List.set_cons_succ]
  refine wpAnyH_take (i := 3) (oi := ?oi3) (v := ?v3) ?hi3 (by kernel_rfl) (by kernel_rfl) (by kernel_rfl) ?hQ3 (Or.inl ⟨?hw3, ?hy3⟩) (by assumption) ?rest3
  case hi3 => (first | (simp only [List.getElem?_toArray, List.getElem?_cons_zero, List.getElem?_cons_succ]; rfl) | rfl)
  case hQ3 => exact fun _ _ _ h => h
  case hw3 => rfl
  case hy3 => ((intro w hSw; go_simp); first | done | with_reducible rfl)
  try simp only [Act.put, List.setIfInBounds_toArray, List.set_cons_zero, List.set_cons_succ]
  refine wpAnyH_take (i := 5) (oi := ?oi5) (v := ?v5) ?hi5 (by kernel_rfl) (by kernel_rfl) (by kernel_rfl) ?hQ5 (Or.inl ⟨?hw5, ?hy5⟩) (by assumption) ?rest5
  case hi5 => (first | (simp only [List.getElem?_toArray, List.getElem?_cons_zero, List.getElem?_cons_succ]; rfl) | rfl)
  case hQ5 => exact fun _ _ _ h => h
  case hw5 => rfl
  case hy5 => ((intro w hSw; go_simp); first | done | with_reducible rfl)
  try simp only [Act.put, List.setIfInBounds_toArray, List.set_cons_zero, List.set_cons_succ]
  refine wpAnyH_ready (rs := [4]) (by kernel_rfl) (by simp) ?_
  refine AllReadyH.cons (o := ?oA) ?hiA ?stepA AllReadyH.nil
  case hiA => (simp only [List.getElem?_toArray, List.getElem?_cons_zero, List.getElem?_cons_succ]; rfl)
  intro K hK
  go_simp
  refine hK.out _ _ hHeld (fun hHeldA => ?_)
  clear hK K
  try simp only [Act.put, List.setIfInBounds_toArray, List.set_cons_zero, List.set_cons_succ]
  refine wpAnyH_ready (rs := [6]) (by kernel_rfl) (by simp) ?_
  refine AllReadyH.cons (o := ?oB) ?hiB ?stepB AllReadyH.nil
  case hiB => (simp only [List.getElem?_toArray, List.getElem?_cons_zero, List.getElem?_cons_succ]; rfl)
  intro K hK
  go_simp
  refine (r1changed_any _ A r.dir.length c r.dir (HD1.out.below (Below.refl _ W1).drew) hnd2 x).mono ?_
  rintro e w2 ⟨A', c', rfl, hd2, hA2, hB2⟩
  have hB2' : Below W1.heap.size W1 w2 := below_then (Below.refl _ W1).drew hB2 (Nat.le_refl _)
  have HB2 := Lib.hid hB2'
  have HD2 := Lib.hid hd2
  have HA2 := Lib.hid hA2
  have hbk2 := HBK1.out.below hB2' (by omega)
  have m2 := hbk2.cell 2
  have m2z := hbk2.frozen 2
  simp at m2
  have HBK2 := Lib.hid hbk2
  clear hB2 hB2' hd2 hA2 hbk2
  go_wp2_with fail
  refine hK.out _ _ (HC.out _ HB2.out) (fun hHeldB => ?_)
  clear hK K
  try simp only [Act.put, List.setIfInBounds_toArray, List.set_cons_zero, List.set_cons_succ]
  refine wpAnyH_take (i := 7) (oi := ?oi7) (v := ?v7) ?hi7 (by kernel_rfl) (by kernel_rfl) (by kernel_rfl) ?hQ7 (Or.inl ⟨?hw7, ?hy7⟩) (by assumption) ?rest7
  case hi7 => (first | (simp only [List.getElem?_toArray, List.getElem?_cons_zero, List.getElem?_cons_succ]; rfl) | rfl)
  case hQ7 => exact fun _ _ _ h => h
  case hw7 => rfl
  case hy7 => ((intro w hSw; go_simp); first | done | with_reducible rfl)
  try simp only [Act.put, List.setIfInBounds_toArray, List.set_cons_zero, List.set_cons_succ]
  refine wpAnyH_take (i := 8) (oi := ?oi8) (v := ?v8) ?hi8 (by kernel_rfl) (by kernel_rfl) (by kernel_rfl) ?hQ8 (Or.inl ⟨?hw8, ?hy8⟩) (by assumption) ?rest8
  case hi8 => (first | (simp only [List.getElem?_toArray, List.getElem?_cons_zero, List.getElem?_cons_succ]; rfl) | rfl)
  case hQ8 => exact fun _ _ _ h => h
  case hw8 => rfl
  case hy8 => ((intro w hSw; go_simp); first | done | with_reducible rfl)
  try simp only [Act.put, List.setIfInBounds_toArray, List.set_cons_zero, List.set_cons_succ]
  refine wpAnyH_ready (rs := [9]) (by kernel_rfl) (by simp) ?_
  refine AllReadyH.cons (o := ?oC) ?hiC ?stepC AllReadyH.nil
  case hiC => (simp only [List.getElem?_toArray, List.getElem?_cons_zero, List.getElem?_cons_succ]; rfl)
  intro K hK
  go_simp
  refine hK.out _ _ (HCX.out _ ((heap_setCell_other _ _ _ (by show w.heap.size ≠ b; omega)).trans (HB2.out.block _ (by omega)))) (fun hHeldC => ?_)
  clear hK K
  try simp only [Act.put, List.setIfInBounds_toArray, List.set_cons_zero, List.set_cons_succ]
  refine wpAnyH_done (by kernel_rfl) ?_ _
  clear hHeld hHeldA hHeldB hHeldC
  go_wp2_with fail
  refine wp_at ?_
  intro w3 hw3
  have KO := Lib.hid (show ∀ w' : World, w'.os = w3.os → w'.tape = w3.tape → w'.output = w3.output → w'.os = w.os ∧ w'.tape = w.tape ∧ w'.output = w.output from fun w' h1 h2 h3 => by rw [h1, h2, h3, hw3]; exact ⟨HB2.out.os.trans HB1.out.os, HB2.out.tape.trans HB1.out.tape, HB2.out.output.trans HB1.out.output⟩)
  obtain ⟨n', hn'⟩ : ∃ n', n' = (x.eff r.dir).length := ⟨_, rfl⟩
  have hs2 := HB2.out.size
  have hs3 : w3.heap.size = w2.heap.size := by rw [hw3]; simp [World.setCell]
  have hX3 : w3.heap[w.heap.size]? = W1.heap[w.heap.size]? := by rw [hw3]; exact (heap_setCell_other _ _ _ (by show w.heap.size ≠ b; omega)).trans (HB2.out.block _ (by omega))
  have hK3 : ∀ i, i ≠ b → i < W1.heap.size → w3.heap[i]? = W1.heap[i]? := fun i hi hl => by rw [hw3]; exact (heap_setCell_other _ _ _ hi).trans (HB2.out.block _ hl)
  have hbk3 : Blk w3 b 64 #[.int .i64 r.room, vi, .slice A' (x.eff r.dir).length c', .slice B r.old.length cb, vc, .int .i64 r.done, .bool r.fused, .int .i64 r.left, .bool r.off] := by rw [hw3]; simpa using HBK2.out.set_ 2 (.slice A' (x.eff r.dir).length c')
  have hA3 : A' = A ∧ x.eff r.dir = r.dir ∨ ∀ ad, A' = some ad → w.heap.size ≤ ad.block := by
    rcases HA2.out with h | h
    · exact .inl h
    · exact .inr fun ad e => by have := h ad e; have hsz : W1.drew.heap.size = W1.heap.size := rfl; omega
  have hd3 : DirIn w3 A' (x.eff r.dir).length (x.eff r.dir) := HD2.out.keep fun ad e h0 => by
    rw [hw3]
    refine heap_setCell_other _ _ _ fun e2 => ?_
    have e3 : ad.block = b := e2
    rcases hA3 with ⟨h1, h2⟩ | h1
    · subst h1
      exact H.out.gb (by rw [← e3]; exact H.out.dirG ad e (by rw [← h2]; exact h0))
    · have := h1 ad e; omega
  have hc3 : w3.ownsRow 0 137 3 vc r.chs.length (chCells r.chs) := ownsRow_block H.out.chs fun g hg => (hK3 g (fun e => HVB.out (by rw [hg, e])) (by have := hvcb g hg; omega)).trans (HB1.out.block g (hvcb g hg))
  have m4 := hbk3.cell 4
  simp at m4
  have m4a : w3.drew.cell? ⟨b, 4, none⟩ = some vc := m4
  have HBK3 := Lib.hid hbk3
  have HK3 := Lib.hid hK3
  have HX3 := Lib.hid hX3
  have HD3 := Lib.hid hd3
  have HA3 := Lib.hid hA3
  have HC3 := Lib.hid hc3
  have HN' := Lib.hid hn'
  have hb3 : b < w3.heap.size := by omega
  have hs3' : w.heap.size + 1 ≤ w3.heap.size := by omega
  clear hs3
  have m4b : (w3.alloc (.cells #[.string ⟨x.frm.toArray⟩, .string ⟨x.to.toArray⟩, .int .i64 x.file] 137)).drew.cell? ⟨b, 4, none⟩ = some vc := Lib.cell?_alloc_some (W := w3) _ m4a
  clear hw3 hX3 hK3 hbk3 hd3 hA3 hc3 hn' m2 m2z k2 k2' HC HB2 HD2 HA2 HBK2 HD1 HBK1 m4
  refine wp_region_held_drew (S := fun w' => w'.cell? ⟨w.heap.size, 0, none⟩ = some (.string ⟨x.frm.toArray⟩) ∧ w'.cell? ⟨w.heap.size, 1, none⟩ = some (.string ⟨x.to.toArray⟩) ∧ w'.cell? ⟨w.heap.size, 2, none⟩ = some (.int .i64 x.file)) (by kernel_rfl) (HCX.out _ HX3.out) (fun hHeld => ?_)
  refine wpAnyH_take (i := 0) (oi := ?oir0) (v := ?vr0) ?hir0 (by kernel_rfl) (by kernel_rfl) (by kernel_rfl) ?hQr0 (Or.inl ⟨?hwr0, ?hyr0⟩) (by assumption) ?restr0
  case hir0 => (first | (simp only [List.getElem?_toArray, List.getElem?_cons_zero, List.getElem?_cons_succ]; rfl) | rfl)
  case hQr0 => exact fun _ _ _ h => h
  case hwr0 => rfl
  case hyr0 => ((intro w hSw; go_simp); first | done | with_reducible rfl)
  try simp only [Act.put, List.setIfInBounds_toArray, List.set_cons_zero, List.set_cons_succ]
  refine wpAnyH_take (i := 1) (oi := ?oir1) (v := ?vr1) ?hir1 (by kernel_rfl) (by kernel_rfl) (by kernel_rfl) ?hQr1 (Or.inl ⟨?hwr1, ?hyr1⟩) (by assumption) ?restr1
  case hir1 => (first | (simp only [List.getElem?_toArray, List.getElem?_cons_zero, List.getElem?_cons_succ]; rfl) | rfl)
  case hQr1 => exact fun _ _ _ h => h
  case hwr1 => rfl
  case hyr1 => ((intro w hSw; go_simp); first | done | with_reducible rfl)
  try simp only [Act.put, List.setIfInBounds_toArray, List.set_cons_zero, List.set_cons_succ]
  refine wpAnyH_take (i := 2) (oi := ?oir2) (v := ?vr2) ?hir2 (by kernel_rfl) (by kernel_rfl) (by kernel_rfl) ?hQr2 (Or.inl ⟨?hwr2, ?hyr2⟩) (by assumption) ?restr2
  case hir2 => (first | (simp only [List.getElem?_toArray, List.getElem?_cons_zero, List.getElem?_cons_succ]; rfl) | rfl)
  case hQr2 => exact fun _ _ _ h => h
  case hwr2 => rfl
  case hyr2 => ((intro w hSw; go_simp); first | done | with_reducible rfl)
  try simp only [Act.put, List.setIfInBounds_toArray, List.set_cons_zero, List.set_cons_succ]
  refine wpAnyH_take (i := 3) (oi := ?oir3) (v := ?vr3) ?hir3 (by kernel_rfl) (by kernel_rfl) (by kernel_rfl) ?hQr3 (Or.inl ⟨?hwr3, ?hyr3⟩) (by assumption) ?restr3
  case hir3 => (first | (simp only [List.getElem?_toArray, List.getElem?_cons_zero, List.getElem?_cons_succ]; rfl) | rfl)
  case hQr3 => exact fun _ _ _ h => h
  case hwr3 => rfl
  case hyr3 => ((intro w hSw; go_simp); first | done | with_reducible rfl)
  try simp only [Act.put, List.setIfInBounds_toArray, List.set_cons_zero, List.set_cons_succ]
  refine wpAnyH_take (i := 5) (oi := ?oir5) (v := ?vr5) ?hir5 (by kernel_rfl) (by kernel_rfl) (by kernel_rfl) ?hQr5 (Or.inl ⟨?hwr5, ?hyr5⟩) (by assumption) ?restr5
  case hir5 => (first | (simp only [List.getElem?_toArray, List.getElem?_cons_zero, List.getElem?_cons_succ]; rfl) | rfl)
  case hQr5 => exact fun _ _ _ h => h
  case hwr5 => rfl
  case hyr5 => ((intro w hSw; go_simp); first | done | with_reducible rfl)
  try simp only [Act.put, List.setIfInBounds_toArray, List.set_cons_zero, List.set_cons_succ]
  refine wpAnyH_ready (rs := [4, 6]) (by kernel_rfl) (by simp) ?_
  refine AllReadyH.cons (o := ?oP) ?hiP ?stepP (AllReadyH.cons (o := ?oQ) ?hiQ ?stepQ AllReadyH.nil)
  case hiP => (simp only [List.getElem?_toArray, List.getElem?_cons_zero, List.getElem?_cons_succ]; rfl)
  case hiQ => (simp only [List.getElem?_toArray, List.getElem?_cons_zero, List.getElem?_cons_succ]; rfl)
  case stepP =>
    intro K hK
    go_simp
    refine hK.out _ _ hHeld (fun hHeldA => ?_)
    clear hK K
    try simp only [Act.put, List.setIfInBounds_toArray, List.set_cons_zero, List.set_cons_succ]
    refine wpAnyH_ready (rs := [6]) (by kernel_rfl) (by simp) ?_
    refine AllReadyH.cons (o := ?oPA) ?hiPA ?stepPA AllReadyH.nil
    case hiPA => (simp only [List.getElem?_toArray, List.getElem?_cons_zero, List.getElem?_cons_succ]; rfl)
    intro K hK
    go_simp
    refine hK.out _ _ (HCX.out _ ((Below.heap_alloc w3 _ _ (by show w.heap.size < w3.heap.size; omega)).trans HX3.out)) (fun hHeldB => ?_)
    clear hK K
    try simp only [Act.put, List.setIfInBounds_toArray, List.set_cons_zero, List.set_cons_succ]
    refine wpAnyH_ready (rs := [7]) (by kernel_rfl) (by simp) ?_
    refine AllReadyH.cons (o := ?oPB) ?hiPB ?stepPB AllReadyH.nil
    case hiPB => (simp only [List.getElem?_toArray, List.getElem?_cons_zero, List.getElem?_cons_succ]; rfl)
    intro K hK
    refine step_append_rec _ rfl (.tmp 18) (.tmp 20) 62 rfl 0 137 i0 _ 3 40 Tryz.underlying62 hi hz0 hz1 hz2 rfl (by decide) vc r.chs.length (chCells r.chs) rfl (World.ownsRow.alloc (w := w3) HC3.out _) ⟨w3.heap.size, 0, none⟩ 1 1 [.string ⟨x.frm.toArray⟩, .string ⟨x.to.toArray⟩, .int .i64 x.file] rfl rfl (by intro i u hu; rw [Addr.add_mid]; exact (show (w3.alloc (.cells #[.string ⟨x.frm.toArray⟩, .string ⟨x.to.toArray⟩, .int .i64 x.file] 137)).cell? ⟨w3.heap.size, 0 + i, none⟩ = some u from by rw [cell_of_row _ _ _ _ _ _ (heap_alloc_new w3 _)]; simpa using hu)) (by intro u hu; simp at hu; rcases hu with rfl | rfl | rfl <;> rfl) (by unfold maxLen; omega) (by omega) (Nat.zero_le _) ?_
    intro v5 w5 hown5 hg5 hloc5
    obtain ⟨A5, c5, rfl⟩ := own_slice hown5
    have hX5 : w5.heap[w.heap.size]? = W1.heap[w.heap.size]? := ((hg5.block _ (by simp; omega) (fun e => by have := hvcb _ e.symm; omega)).trans (Below.heap_alloc w3 _ _ (by show w.heap.size < w3.heap.size; omega))).trans HX3.out
    have hbk5 : Blk w5 b 64 #[.int .i64 r.room, vi, .slice A' (x.eff r.dir).length c', .slice B r.old.length cb, vc, .int .i64 r.done, .bool r.fused, .int .i64 r.left, .bool r.off] := (Blk.drew (Blk.alloc (w := w3) HBK3.out _)).grown hg5 (fun e => HVB.out e.symm)
    have n4 := hbk5.cell 4
    have n4z := hbk5.frozen 4
    simp at n4
    have HG5 := Lib.hid hg5
    have HO5 := Lib.hid hown5
    have HL5 := Lib.hid hloc5
    have HBK5 := Lib.hid hbk5
    have HX5 := Lib.hid hX5
    clear hg5 hown5 hloc5 hbk5 hX5
    refine hK.out _ _ (HCX.out _ HX5.out) (fun hHeldD => ?_)
    clear hK K
    try simp only [Act.put, List.setIfInBounds_toArray, List.set_cons_zero, List.set_cons_succ]
    refine wpAnyH_take (i := 8) (oi := ?oip8) (v := ?vp8) ?hip8 (by kernel_rfl) (by kernel_rfl) (by kernel_rfl) ?hQp8 (Or.inl ⟨?hwp8, ?hyp8⟩) (by assumption) ?restp8
    case hip8 => (first | (simp only [List.getElem?_toArray, List.getElem?_cons_zero, List.getElem?_cons_succ]; rfl) | rfl)
    case hQp8 => exact fun _ _ _ h => h
    case hwp8 => rfl
    case hyp8 => ((intro w hSw; go_simp); first | done | with_reducible rfl)
    try simp only [Act.put, List.setIfInBounds_toArray, List.set_cons_zero, List.set_cons_succ]
    refine wpAnyH_take (i := 9) (oi := ?oip9) (v := ?vp9) ?hip9 (by kernel_rfl) (by kernel_rfl) (by kernel_rfl) ?hQp9 (Or.inl ⟨?hwp9, ?hyp9⟩) (by assumption) ?restp9
    case hip9 => (first | (simp only [List.getElem?_toArray, List.getElem?_cons_zero, List.getElem?_cons_succ]; rfl) | rfl)
    case hQp9 => exact fun _ _ _ h => h
    case hwp9 => rfl
    case hyp9 => ((intro w hSw; go_simp); first | done | with_reducible rfl)
    try simp only [Act.put, List.setIfInBounds_toArray, List.set_cons_zero, List.set_cons_succ]
    refine wpAnyH_ready (rs := [10]) (by kernel_rfl) (by simp) ?_
    refine AllReadyH.cons (o := ?opZ) ?hipZ ?steppZ AllReadyH.nil
    case hipZ => (simp only [List.getElem?_toArray, List.getElem?_cons_zero, List.getElem?_cons_succ]; rfl)
    intro K hK
    go_simp
    refine hK.out _ _ (HCX.out _ ((heap_setCell_other w5 ⟨b, 4, none⟩ (.slice A5 (r.chs.length + 1) c5) (by show w.heap.size ≠ b; omega)).trans HX5.out)) (fun hHeldE => ?_)
    clear hK K
    try simp only [Act.put, List.setIfInBounds_toArray, List.set_cons_zero, List.set_cons_succ]
    refine wpAnyH_done (by kernel_rfl) ?_ _
    have hst5 : w3.heap.size + 1 ≤ w5.heap.size := by have := HG5.out.size; simp at this; exact this
    have hb5 : ∀ i, i ≠ b → vc.ownBlock ≠ some i → i < w.heap.size → (w5.setCell ⟨b, 4, none⟩ (.slice A5 (r.chs.length + 1) c5)).heap[i]? = w.heap[i]? := fun i h1 h2 h3 =>
      (heap_setCell_other _ _ _ h1).trans (((HG5.out.block i (by simp; omega) (fun e => h2 e.symm)).trans (Below.heap_alloc w3 _ _ (by show i < w3.heap.size; omega))).trans ((HK3.out i h1 (by omega)).trans (HB1.out.block i h3)))
    have hv5b : (Value.slice A5 (r.chs.length + 1) c5).ownBlock ≠ some b := own_blk_ne HO5.out HBK5.out (by decide)
    have hd5 : DirIn (w5.setCell ⟨b, 4, none⟩ (.slice A5 (r.chs.length + 1) c5)) A' (x.eff r.dir).length (x.eff r.dir) := HD3.out.keep fun ad e h0 => by
      have hlt := HD3.out.lt ad e h0
      have hnb : ad.block ≠ b := fun e3 => by
        rcases HA3.out with ⟨h1, h2⟩ | h1
        · subst h1
          exact H.out.gb (by rw [← e3]; exact H.out.dirG ad e (by rw [← h2]; exact h0))
        · have := h1 ad e; omega
      have hnv : vc.ownBlock ≠ some ad.block := fun e3 => by
        rcases HA3.out with ⟨h1, h2⟩ | h1
        · subst h1
          exact H.out.gc _ e3 (H.out.dirG ad e (by rw [← h2]; exact h0))
        · have := h1 ad e; have := hvcb _ e3; omega
      exact (heap_setCell_other _ _ _ hnb).trans ((HG5.out.block _ (by simp; omega) (fun e3 => hnv e3.symm)).trans (Below.heap_alloc w3 _ _ hlt))
    obtain ⟨G', hI, hG'⟩ := H.out.dirch (w' := w5.setCell ⟨b, 4, none⟩ (.slice A5 (r.chs.length + 1) c5)) (by simp [World.setCell]; omega) hb5 (d' := x.eff r.dir) (chs' := r.chs ++ [x]) (vc' := .slice A5 (r.chs.length + 1) c5) (A' := A') (c' := c') (by simpa using HBK5.out.set_ 4 (.slice A5 (r.chs.length + 1) c5)) hd5 HA3.out
      (by
        have h1 := ownsRow_block HO5.out (w' := w5.setCell ⟨b, 4, none⟩ (.slice A5 (r.chs.length + 1) c5)) fun g hg => heap_setCell_other _ _ _ (fun e => hv5b (by rw [hg, e]))
        rw [List.length_append, chCells_app]
        exact h1)
      (by
        rcases HL5.out with h1 | h1
        · exact .inl h1
        · refine .inr ⟨_, h1, by simp; omega, fun ad e h0 => ?_⟩
          have := HD3.out.lt ad e h0
          simp
          omega) HWF.out
    have hR6 : R1At (w5.setCell ⟨b, 4, none⟩ (.slice A5 (r.chs.length + 1) c5)) (Own F w (w5.setCell ⟨b, 4, none⟩ (.slice A5 (r.chs.length + 1) c5))) b { r with dir := x.eff r.dir, chs := r.chs ++ [x] } := by
      refine ⟨G', vi, (.slice A5 (r.chs.length + 1) c5), A', c', B, cb, svs, hI, fun i hi => ?_, fun i hi => ?_⟩
      · rcases hi with h1 | h1 | h1 | h1
        · exact .inl (HF.out i (.inl h1))
        · exact .inl (HF.out i (.inr (.inl h1)))
        · have h2 := (hI.chs.lt i h1).2
          rcases HL5.out with h3 | h3
          · exact .inl (HF.out i (.inr (.inr (.inl (by rw [← h3]; exact h1)))))
          · rw [h3] at h1
            cases h1
            exact .inr ⟨by simp; omega, h2⟩
        · rcases hG' i h1 with h2 | h2
          · exact .inl (HF.out i (.inr (.inr (.inr h2))))
          · exact .inr h2
      · rcases hi with h1 | h1
        · have := HLT.out i h1; simp [World.setCell]; omega
        · exact h1.2
    have hkept : Kept F w (w5.setCell ⟨b, 4, none⟩ (.slice A5 (r.chs.length + 1) c5)) := by
      have hk1 : w5.os = w.os ∧ w5.tape = w.tape ∧ w5.output = w.output := KO.out w5 HG5.out.os HG5.out.tape HG5.out.output
      refine ⟨hk1.1, hk1.2.1, hk1.2.2, by simp [World.setCell]; omega, fun i hi hn => hb5 i (fun e => hn (HF.out i (.inl e))) (fun e => hn (HF.out i (.inr (.inr (.inl e))))) hi⟩
    have HR6 := Lib.hid hR6
    have HKP := Lib.hid hkept
    clear hb5 hv5b hd5 hI hG' hR6 hkept
    go_wp2_with fail
    refine (r1did_any _ _ b _ HR6.out hdn hl).mono ?_
    rintro e w7 ⟨rfl, hR7, hK7⟩
    go_wp2
    go_ret
    have hs6 : w.heap.size ≤ (w5.setCell ⟨b, 4, none⟩ (.slice A5 (r.chs.length + 1) c5)).heap.size := HKP.out.size
    exact ⟨rfl, _, hR7, HKP.out.trans hK7 (fun i _ e => HF.out i (.inl e)), fun i hi => hi.imp id (·.1)⟩
  case stepQ =>
    intro K hK
    go_simp
    refine hK.out _ _ (HCX.out _ ((Below.heap_alloc w3 _ _ (by show w.heap.size < w3.heap.size; omega)).trans HX3.out)) (fun hHeldA => ?_)
    clear hK K
    try simp only [Act.put, List.setIfInBounds_toArray, List.set_cons_zero, List.set_cons_succ]
    refine wpAnyH_ready (rs := [4]) (by kernel_rfl) (by simp) ?_
    refine AllReadyH.cons (o := ?oQA) ?hiQA ?stepQA AllReadyH.nil
    case hiQA => (simp only [List.getElem?_toArray, List.getElem?_cons_zero, List.getElem?_cons_succ]; rfl)
    intro K hK
    go_simp
    refine hK.out _ _ hHeldA (fun hHeldB => ?_)
    clear hK K
    try simp only [Act.put, List.setIfInBounds_toArray, List.set_cons_zero, List.set_cons_succ]
    refine wpAnyH_ready (rs := [7]) (by kernel_rfl) (by simp) ?_
    refine AllReadyH.cons (o := ?oQB) ?hiQB ?stepQB AllReadyH.nil
    case hiQB => (simp only [List.getElem?_toArray, List.getElem?_cons_zero, List.getElem?_cons_succ]; rfl)
    intro K hK
    refine step_append_rec _ rfl (.tmp 18) (.tmp 20) 62 rfl 0 137 i0 _ 3 40 Tryz.underlying62 hi hz0 hz1 hz2 rfl (by decide) vc r.chs.length (chCells r.chs) rfl (World.ownsRow.alloc (w := w3) HC3.out _) ⟨w3.heap.size, 0, none⟩ 1 1 [.string ⟨x.frm.toArray⟩, .string ⟨x.to.toArray⟩, .int .i64 x.file] rfl rfl (by intro i u hu; rw [Addr.add_mid]; exact (show (w3.alloc (.cells #[.string ⟨x.frm.toArray⟩, .string ⟨x.to.toArray⟩, .int .i64 x.file] 137)).cell? ⟨w3.heap.size, 0 + i, none⟩ = some u from by rw [cell_of_row _ _ _ _ _ _ (heap_alloc_new w3 _)]; simpa using hu)) (by intro u hu; simp at hu; rcases hu with rfl | rfl | rfl <;> rfl) (by unfold maxLen; omega) (by omega) (Nat.zero_le _) ?_
    intro v5 w5 hown5 hg5 hloc5
    obtain ⟨A5, c5, rfl⟩ := own_slice hown5
    have hX5 : w5.heap[w.heap.size]? = W1.heap[w.heap.size]? := ((hg5.block _ (by simp; omega) (fun e => by have := hvcb _ e.symm; omega)).trans (Below.heap_alloc w3 _ _ (by show w.heap.size < w3.heap.size; omega))).trans HX3.out
    have hbk5 : Blk w5 b 64 #[.int .i64 r.room, vi, .slice A' (x.eff r.dir).length c', .slice B r.old.length cb, vc, .int .i64 r.done, .bool r.fused, .int .i64 r.left, .bool r.off] := (Blk.drew (Blk.alloc (w := w3) HBK3.out _)).grown hg5 (fun e => HVB.out e.symm)
    have n4 := hbk5.cell 4
    have n4z := hbk5.frozen 4
    simp at n4
    have HG5 := Lib.hid hg5
    have HO5 := Lib.hid hown5
    have HL5 := Lib.hid hloc5
    have HBK5 := Lib.hid hbk5
    have HX5 := Lib.hid hX5
    clear hg5 hown5 hloc5 hbk5 hX5
    refine hK.out _ _ (HCX.out _ HX5.out) (fun hHeldD => ?_)
    clear hK K
    try simp only [Act.put, List.setIfInBounds_toArray, List.set_cons_zero, List.set_cons_succ]
    refine wpAnyH_take (i := 8) (oi := ?oiq8) (v := ?vq8) ?hiq8 (by kernel_rfl) (by kernel_rfl) (by kernel_rfl) ?hQq8 (Or.inl ⟨?hwq8, ?hyq8⟩) (by assumption) ?restq8
    case hiq8 => (first | (simp only [List.getElem?_toArray, List.getElem?_cons_zero, List.getElem?_cons_succ]; rfl) | rfl)
    case hQq8 => exact fun _ _ _ h => h
    case hwq8 => rfl
    case hyq8 => ((intro w hSw; go_simp); first | done | with_reducible rfl)
    try simp only [Act.put, List.setIfInBounds_toArray, List.set_cons_zero, List.set_cons_succ]
    refine wpAnyH_take (i := 9) (oi := ?oiq9) (v := ?vq9) ?hiq9 (by kernel_rfl) (by kernel_rfl) (by kernel_rfl) ?hQq9 (Or.inl ⟨?hwq9, ?hyq9⟩) (by assumption) ?restq9
    case hiq9 => (first | (simp only [List.getElem?_toArray, List.getElem?_cons_zero, List.getElem?_cons_succ]; rfl) | rfl)
    case hQq9 => exact fun _ _ _ h => h
    case hwq9 => rfl
    case hyq9 => ((intro w hSw; go_simp); first | done | with_reducible rfl)
    try simp only [Act.put, List.setIfInBounds_toArray, List.set_cons_zero, List.set_cons_succ]
    refine wpAnyH_ready (rs := [10]) (by kernel_rfl) (by simp) ?_
    refine AllReadyH.cons (o := ?oqZ) ?hiqZ ?stepqZ AllReadyH.nil
    case hiqZ => (simp only [List.getElem?_toArray, List.getElem?_cons_zero, List.getElem?_cons_succ]; rfl)
    intro K hK
    go_simp
    refine hK.out _ _ (HCX.out _ ((heap_setCell_other w5 ⟨b, 4, none⟩ (.slice A5 (r.chs.length + 1) c5) (by show w.heap.size ≠ b; omega)).trans HX5.out)) (fun hHeldE => ?_)
    clear hK K
    try simp only [Act.put, List.setIfInBounds_toArray, List.set_cons_zero, List.set_cons_succ]
    refine wpAnyH_done (by kernel_rfl) ?_ _
    have hst5 : w3.heap.size + 1 ≤ w5.heap.size := by have := HG5.out.size; simp at this; exact this
    have hb5 : ∀ i, i ≠ b → vc.ownBlock ≠ some i → i < w.heap.size → (w5.setCell ⟨b, 4, none⟩ (.slice A5 (r.chs.length + 1) c5)).heap[i]? = w.heap[i]? := fun i h1 h2 h3 =>
      (heap_setCell_other _ _ _ h1).trans (((HG5.out.block i (by simp; omega) (fun e => h2 e.symm)).trans (Below.heap_alloc w3 _ _ (by show i < w3.heap.size; omega))).trans ((HK3.out i h1 (by omega)).trans (HB1.out.block i h3)))
    have hv5b : (Value.slice A5 (r.chs.length + 1) c5).ownBlock ≠ some b := own_blk_ne HO5.out HBK5.out (by decide)
    have hd5 : DirIn (w5.setCell ⟨b, 4, none⟩ (.slice A5 (r.chs.length + 1) c5)) A' (x.eff r.dir).length (x.eff r.dir) := HD3.out.keep fun ad e h0 => by
      have hlt := HD3.out.lt ad e h0
      have hnb : ad.block ≠ b := fun e3 => by
        rcases HA3.out with ⟨h1, h2⟩ | h1
        · subst h1
          exact H.out.gb (by rw [← e3]; exact H.out.dirG ad e (by rw [← h2]; exact h0))
        · have := h1 ad e; omega
      have hnv : vc.ownBlock ≠ some ad.block := fun e3 => by
        rcases HA3.out with ⟨h1, h2⟩ | h1
        · subst h1
          exact H.out.gc _ e3 (H.out.dirG ad e (by rw [← h2]; exact h0))
        · have := h1 ad e; have := hvcb _ e3; omega
      exact (heap_setCell_other _ _ _ hnb).trans ((HG5.out.block _ (by simp; omega) (fun e3 => hnv e3.symm)).trans (Below.heap_alloc w3 _ _ hlt))
    obtain ⟨G', hI, hG'⟩ := H.out.dirch (w' := w5.setCell ⟨b, 4, none⟩ (.slice A5 (r.chs.length + 1) c5)) (by simp [World.setCell]; omega) hb5 (d' := x.eff r.dir) (chs' := r.chs ++ [x]) (vc' := .slice A5 (r.chs.length + 1) c5) (A' := A') (c' := c') (by simpa using HBK5.out.set_ 4 (.slice A5 (r.chs.length + 1) c5)) hd5 HA3.out
      (by
        have h1 := ownsRow_block HO5.out (w' := w5.setCell ⟨b, 4, none⟩ (.slice A5 (r.chs.length + 1) c5)) fun g hg => heap_setCell_other _ _ _ (fun e => hv5b (by rw [hg, e]))
        rw [List.length_append, chCells_app]
        exact h1)
      (by
        rcases HL5.out with h1 | h1
        · exact .inl h1
        · refine .inr ⟨_, h1, by simp; omega, fun ad e h0 => ?_⟩
          have := HD3.out.lt ad e h0
          simp
          omega) HWF.out
    have hR6 : R1At (w5.setCell ⟨b, 4, none⟩ (.slice A5 (r.chs.length + 1) c5)) (Own F w (w5.setCell ⟨b, 4, none⟩ (.slice A5 (r.chs.length + 1) c5))) b { r with dir := x.eff r.dir, chs := r.chs ++ [x] } := by
      refine ⟨G', vi, (.slice A5 (r.chs.length + 1) c5), A', c', B, cb, svs, hI, fun i hi => ?_, fun i hi => ?_⟩
      · rcases hi with h1 | h1 | h1 | h1
        · exact .inl (HF.out i (.inl h1))
        · exact .inl (HF.out i (.inr (.inl h1)))
        · have h2 := (hI.chs.lt i h1).2
          rcases HL5.out with h3 | h3
          · exact .inl (HF.out i (.inr (.inr (.inl (by rw [← h3]; exact h1)))))
          · rw [h3] at h1
            cases h1
            exact .inr ⟨by simp; omega, h2⟩
        · rcases hG' i h1 with h2 | h2
          · exact .inl (HF.out i (.inr (.inr (.inr h2))))
          · exact .inr h2
      · rcases hi with h1 | h1
        · have := HLT.out i h1; simp [World.setCell]; omega
        · exact h1.2
    have hkept : Kept F w (w5.setCell ⟨b, 4, none⟩ (.slice A5 (r.chs.length + 1) c5)) := by
      have hk1 : w5.os = w.os ∧ w5.tape = w.tape ∧ w5.output = w.output := KO.out w5 HG5.out.os HG5.out.tape HG5.out.output
      refine ⟨hk1.1, hk1.2.1, hk1.2.2, by simp [World.setCell]; omega, fun i hi hn => hb5 i (fun e => hn (HF.out i (.inl e))) (fun e => hn (HF.out i (.inr (.inr (.inl e))))) hi⟩
    have HR6 := Lib.hid hR6
    have HKP := Lib.hid hkept
    clear hb5 hv5b hd5 hI hG' hR6 hkept
    go_wp2_with fail
    refine (r1did_any _ _ b _ HR6.out hdn hl).mono ?_
    rintro e w7 ⟨rfl, hR7, hK7⟩
    go_wp2
    go_ret
    have hs6 : w.heap.size ≤ (w5.setCell ⟨b, 4, none⟩ (.slice A5 (r.chs.length + 1) c5)).heap.size := HKP.out.size
    exact ⟨rfl, _, hR7, HKP.out.trans hK7 (fun i _ e => HF.out i (.inl e)), fun i hi => hi.imp id (·.1)⟩
end Go.Proofs.YtmhiekbpmoikfaaGreatDoor
namespace Go.Proofs.YtmhiekbpmoikfaaGreatDoor
open Go.RowKit Go.Maps Go.WideMaps

theorem r1calls_at {P : Program} {f : FuncId} {args : Array Value} {w : World} {Q : Ending → World → Prop} (h : ∀ W, W = w → Calls P f args W Q) : Calls P f args w Q := h w rfl
theorem r1find_is (w : World) (A : Option Addr) (n c : Nat) (d : Dir) (hd : DirIn w A n d) (k : Nm) {z : Int} (hz : dfind d k = z) :
    Calls Tryz.prog 77 #[.slice A n c, .string ⟨k.toArray⟩] w fun e w' => e = .returned (.int .i64 z) ∧ w' = w := by
  have h := r1find_any w A n c d hd ⟨k.toArray⟩
  rw [← hz]
  exact h
theorem rPower_on {r : RSt} (h : (rPower r).off = false) : r.off = false ∧ (r.fused = true → 0 < r.left) := by
  simp only [rPower, Bool.or_eq_false_iff, Bool.and_eq_false_iff] at h
  refine ⟨h.1, fun hf => ?_⟩
  rcases h.2 with h2 | h2
  · rw [hf] at h2; cases h2
  · have : r.left ≠ 0 := by simpa using h2
    omega
theorem rPower_same {r : RSt} (h : (rPower r).off = false) : rPower r = r := by
  have h1 := (rPower_on h).1
  have h2 : (rPower r).off = r.off := by rw [h, h1]
  cases r
  simp only [rPower] at h2 ⊢
  rw [h2]
theorem R1At.wf {w : World} {F : Nat → Prop} {b : Nat} {r : RSt} (h : R1At w F b r) : RWF r := by
  obtain ⟨G, vi, vc, A, c, B, cb, svs, h1, h2, h3⟩ := h
  exact h1.wf
theorem R1At.F_b {w : World} {F : Nat → Prop} {b : Nat} {r : RSt} (h : R1At w F b r) : F b := by
  obtain ⟨G, vi, vc, A, c, B, cb, svs, h1, h2, h3⟩ := h
  exact h2 b (.inl rfl)
/-- A small step of the disk's own block, then a call. -/
theorem R1Left.later {w w1 w' : World} {F : Nat → Prop} {b : Nat} {n : Int} {r' : RSt} {e : Ending} (h : R1Left w1 F b n r' e w') (hb : F b) (hk : Kept (fun i => i = b) w w1) : R1Left w F b n r' e w' := by
  obtain ⟨h1, F', h2, h3, h4⟩ := h
  exact ⟨h1, F', h2, Kept.trans (F := F) (hk.mono (fun i e => by rw [e]; exact hb)) h3 (fun i _ h => h), fun i hi => (h4 i hi).imp id (fun h => Nat.le_trans hk.size h)⟩
theorem R1Left.stay {w w1 : World} {F : Nat → Prop} {b : Nat} {n : Int} {r' : RSt} (hR : R1At w1 F b r') (hk : Kept (fun i => i = b) w w1) : R1Left w F b n r' (.returned (.int .i64 n)) w1 :=
  ⟨rfl, F, hR, hk.mono (fun i e => by rw [e]; exact hR.F_b), fun i hi => .inl hi⟩

def rSyncDir (r : RSt) : Int × RSt := if (rPower r).off then (14, rPower r) else (0, rDid { r with old := r.dir, chs := [] })
set_option maxHeartbeats 4000000 in
set_option maxRecDepth 100000 in
theorem r1SyncDir_any (w : World) (F : Nat → Prop) (b : Nat) (r : RSt) (hR : R1At w F b r) (hdn : r.done < 100000) :
    Calls Tryz.prog 83 #[at0 b] w (R1Left w F b (rSyncDir r).1 (rSyncDir r).2) := by
  have hb := hR.F_b
  unfold rSyncDir
  cases ho : (rPower r).off with
  | true =>
    rw [if_pos rfl]
    have HO := Lib.hid ho
    have HR := Lib.hid hR
    clear hR ho
    unfold at0
    go_enter Tryz.func83, Tryz.ntmps83
    go_wp2_with fail
    refine (r1power_any w F b r HR.out).mono ?_
    rintro e w1 ⟨rfl, hR1, hk⟩
    rw [HO.out]
    have HR1 := Lib.hid hR1
    have HK := Lib.hid hk
    clear hR1 hk
    go_wp2
    go_ret
    exact R1Left.stay HR1.out HK.out
  | false =>
    rw [if_neg Bool.false_ne_true]
    have hon := (rPower_on ho).2
    have hsame := rPower_same ho
    have HO := Lib.hid ho
    have HR := Lib.hid hR
    have HSAME := Lib.hid hsame
    clear hR ho hsame
    unfold at0
    go_enter Tryz.func83, Tryz.ntmps83
    go_wp2_with fail
    refine (r1power_any w F b r HR.out).mono ?_
    rintro e w1 ⟨rfl, hR1, hk⟩
    rw [HO.out]
    rw [HSAME.out] at hR1
    obtain ⟨G, vi, vc, A, c, B, cb, svs, h, hF, hlt⟩ := hR1
    have k2 := h.blk.cell 2
    have k3 := h.blk.cell 3
    have k4 := h.blk.cell 4
    have z3 := h.blk.frozen 3
    have z4 := h.blk.frozen 4
    simp at k2 k3 k4
    have H := Lib.hid h
    have HK := Lib.hid hk
    have HF := Lib.hid hF
    have HLT := Lib.hid hlt
    obtain ⟨Bv, cbv, hvc⟩ := own_slice h.chs
    have HVC := Lib.hid hvc
    rw [hvc] at k4
    clear h hk hF hlt hvc
    go_wp2_with fail
    refine r1calls_at ?_
    intro w2 hw2
    have hR2 : R1At w2 F b { r with old := r.dir, chs := [] } := by
      have hk2 : ∀ i, i ≠ b → w2.heap[i]? = w1.heap[i]? := fun i hi => by rw [hw2]; exact (heap_setCell_other _ _ _ hi).trans (heap_setCell_other _ _ _ hi)
      have hs2 : w1.heap.size = w2.heap.size := by rw [hw2]; simp [World.setCell]
      have h := H.out
      have h1 := h.nums (w' := w2) hk2 (Nat.le_of_eq hs2) (dn := r.done) (lf := r.left) (fu := r.fused) (of := r.off)
      have hdd : DirIn w2 A r.dir.length r.dir := h.dir.keep fun ad e h0 => hk2 _ (fun e2 => h.gb (by rw [← e2]; exact h.dirG ad e h0))
      refine ⟨G, vi, .slice none 0 0, A, c, A, c, svs, ?_, fun i hi => ?_, fun i hi => by rw [← hs2]; exact HLT.out i hi⟩
      · exact {
          wf := { h.wf with nold := h.wf.ndir, nchs := by simp, fold := h.wf.fdir, fchs := by simp }
          blk := by
            rw [hw2]
            have h2 := (h.blk.set_ 3 (.slice A r.dir.length c)).set_ 4 (.slice none 0 0)
            simpa using h2
          ino := ownsRow_block h.ino fun g hg => hk2 g (fun e => own_blk_ne h.ino h.blk (by decide) (by rw [hg, e]))
          isl := h.isl
          dat := fun i sv x e1 e2 => by
            obtain ⟨D, cd, q1, q2, q3, q4⟩ := h.dat i sv x e1 e2
            exact ⟨D, cd, q1, q2, ⟨q3.1, q3.2.1.keep fun ad e h0 => hk2 _ (fun e2 => h.gb (by rw [← e2]; exact q4 ad e h0)), fun ad e h0 => by rw [← hs2]; exact q3.2.2 ad e h0⟩, q4⟩
          dir := hdd
          dirG := h.dirG
          old := hdd
          oldG := h.dirG
          chs := World.ownsRow_nil _ _ _ _
          gb := h.gb
          gi := h.gi
          gc := fun g hg => by simp [Value.ownBlock] at hg
          glt := fun i hi => by rw [← hs2]; exact h.glt i hi }
      · rcases hi with h1 | h1 | h1 | h1
        · exact HF.out i (.inl h1)
        · exact HF.out i (.inr (.inl h1))
        · simp [Value.ownBlock] at h1
        · exact HF.out i (.inr (.inr (.inr h1)))
    have hk2 : Kept (fun i => i = b) w1 w2 := by rw [hw2]; exact ((Kept.refl (fun i => i = b) w1).setCell (.inl rfl) _).setCell (.inl rfl) _
    have HR2 := Lib.hid hR2
    have HK2 := Lib.hid hk2
    clear hR2 hk2 hw2
    refine (r1did_any w2 F b _ HR2.out hdn hon).mono ?_
    rintro e w3 ⟨rfl, hR3, hk3⟩
    have HR3 := Lib.hid hR3
    have HK3 := Lib.hid hk3
    clear hR3 hk3
    go_wp2
    go_ret
    exact R1Left.stay HR3.out ((HK.out.trans HK2.out (fun i _ h => h)).trans HK3.out (fun i _ h => h))

def rRemove (r : RSt) (k : Nm) : Int × RSt :=
  if (rPower r).off then (14, rPower r) else match dget r.dir k with | none => (12, r) | some _ => (0, rChange r ⟨k, [], 0⟩)
set_option maxHeartbeats 4000000 in
set_option maxRecDepth 100000 in
theorem r1Remove_any (w : World) (F : Nat → Prop) (b : Nat) (r : RSt) (hR : R1At w F b r) (hnd : r.dir.length < 100000) (hnc : r.chs.length < 100000) (hdn : r.done < 100000) (k : Nm) :
    Calls Tryz.prog 91 #[at0 b, .string ⟨k.toArray⟩] w (R1Left w F b (rRemove r k).1 (rRemove r k).2) := by
  have hb := hR.F_b
  unfold rRemove
  cases ho : (rPower r).off with
  | true =>
    rw [if_pos rfl]
    have HO := Lib.hid ho
    have HR := Lib.hid hR
    clear hR ho
    unfold at0
    go_enter Tryz.func91, Tryz.ntmps91
    go_wp2_with fail
    refine (r1power_any w F b r HR.out).mono ?_
    rintro e w1 ⟨rfl, hR1, hk⟩
    rw [HO.out]
    have HR1 := Lib.hid hR1
    have HK := Lib.hid hk
    clear hR1 hk
    go_wp2
    go_ret
    exact R1Left.stay HR1.out HK.out
  | false =>
    rw [if_neg Bool.false_ne_true]
    have hon := (rPower_on ho).2
    have hsame := rPower_same ho
    have HO := Lib.hid ho
    have HR := Lib.hid hR
    have HSAME := Lib.hid hsame
    have HON := Lib.hid hon
    have key : ∀ w1, R1At w1 F b r → ∃ A c, w1.cell? ⟨b, 2, none⟩ = some (.slice A r.dir.length c) ∧ DirIn w1 A r.dir.length r.dir := fun w1 ⟨G, vi, vc, A, c, B, cb, svs, h, _, _⟩ => ⟨A, c, by simpa using h.blk.cell 2, h.dir⟩
    have KEY := Lib.hid key
    clear hR ho hsame hon key
    rcases dfind_dget r.dir k with ⟨g1, g2⟩ | ⟨i, p, g0, g1, g2⟩
    · rw [g1]
      have G2 := Lib.hid g2
      clear g1 g2
      unfold at0
      go_enter Tryz.func91, Tryz.ntmps91
      go_wp2_with fail
      refine (r1power_any w F b r HR.out).mono ?_
      rintro e w1 ⟨rfl, hR1, hk⟩
      rw [HO.out]
      rw [HSAME.out] at hR1
      obtain ⟨A, c, k2, hd⟩ := KEY.out w1 hR1
      have HR1 := Lib.hid hR1
      have HK := Lib.hid hk
      have HD := Lib.hid hd
      clear hR1 hk hd
      go_wp2_with fail
      refine (r1find_is w1 A _ c r.dir HD.out k G2.out).mono ?_
      rintro e w2 ⟨rfl, hw⟩
      rw [hw]
      clear hw
      go_wp2
      go_ret
      exact R1Left.stay HR1.out HK.out
    · rw [g1]
      have G2 := Lib.hid g2
      have hni : ¬ ((i : Int) < 0) := by omega
      clear g0 g1 g2
      unfold at0
      go_enter Tryz.func91, Tryz.ntmps91
      go_wp2_with fail
      refine (r1power_any w F b r HR.out).mono ?_
      rintro e w1 ⟨rfl, hR1, hk⟩
      rw [HO.out]
      rw [HSAME.out] at hR1
      obtain ⟨A, c, k2, hd⟩ := KEY.out w1 hR1
      have HR1 := Lib.hid hR1
      have HK := Lib.hid hk
      have HD := Lib.hid hd
      clear hR1 hk hd
      go_wp2_with fail
      refine (r1find_is w1 A _ c r.dir HD.out k G2.out).mono ?_
      rintro e w2 ⟨rfl, hw⟩
      rw [hw]
      clear hw
      go_wp2_with fail
      refine (r1change_any w1 F b r HR1.out ⟨k, [], 0⟩ hnd hnc (.inl rfl) hdn HON.out).mono ?_
      intro e w3 hL
      obtain ⟨rfl, F', hR3, hk3, hF3⟩ := hL
      have HL := Lib.hid (R1Left.later ⟨rfl, F', hR3, hk3, hF3⟩ hb HK.out : R1Left w F b 0 _ (.returned (.int .i64 0)) w3)
      clear hR3 hk3 hF3
      go_wp2
      go_ret
      exact HL.out
end Go.Proofs.YtmhiekbpmoikfaaGreatDoor
namespace Go.Proofs.YtmhiekbpmoikfaaGreatDoor
open Go.RowKit Go.Maps Go.WideMaps

theorem right_is (w : World) (k : Nm) (hk : k.length ≤ maxLen) {z : Bool} (hz : okName k = z) :
    Calls Tryz.prog 50 #[.string ⟨k.toArray⟩] w fun e w' => e = .returned (.bool z) ∧ w' = w := by
  refine (Right_any ⟨k.toArray⟩ w (by simpa [ByteArray.size] using hk)).mono ?_
  rintro e w' ⟨rfl, rfl⟩
  rw [← hz]
  exact ⟨rfl, rfl⟩
/-- The directory's cell, as it can be read. -/
theorem R1At.dirCell {w : World} {F : Nat → Prop} {b : Nat} {r : RSt} (h : R1At w F b r) : ∃ A c, w.cell? ⟨b, 2, none⟩ = some (.slice A r.dir.length c) ∧ DirIn w A r.dir.length r.dir := by
  obtain ⟨G, vi, vc, A, c, B, cb, svs, h, _, _⟩ := h
  exact ⟨A, c, by simpa using h.blk.cell 2, h.dir⟩

def rRename (r : RSt) (x y : Nm) : Int × RSt :=
  if (rPower r).off then (14, rPower r) else if okName y = false then (1, r) else match dget r.dir x with | none => (12, r) | some j => if x = y then (0, rDid r) else (0, rChange r ⟨x, y, j⟩)
set_option maxHeartbeats 4000000 in
set_option maxRecDepth 100000 in
theorem r1Rename_any (w : World) (F : Nat → Prop) (b : Nat) (r : RSt) (hR : R1At w F b r) (hnd : r.dir.length < 100000) (hnc : r.chs.length < 100000) (hdn : r.done < 100000) (x y : Nm) (hy : y.length ≤ maxLen) :
    Calls Tryz.prog 84 #[at0 b, .string ⟨x.toArray⟩, .string ⟨y.toArray⟩] w (R1Left w F b (rRename r x y).1 (rRename r x y).2) := by
  have hb := hR.F_b
  unfold rRename
  cases ho : (rPower r).off with
  | true =>
    rw [if_pos rfl]
    have HO := Lib.hid ho
    have HR := Lib.hid hR
    clear hR ho
    unfold at0
    go_enter Tryz.func84, Tryz.ntmps84
    go_wp2_with fail
    refine (r1power_any w F b r HR.out).mono ?_
    rintro e w1 ⟨rfl, hR1, hk⟩
    rw [HO.out]
    have HR1 := Lib.hid hR1
    have HK := Lib.hid hk
    clear hR1 hk
    go_wp2
    go_ret
    exact R1Left.stay HR1.out HK.out
  | false =>
    rw [if_neg Bool.false_ne_true]
    have hon := (rPower_on ho).2
    have hsame := rPower_same ho
    have HO := Lib.hid ho
    have HR := Lib.hid hR
    have HSAME := Lib.hid hsame
    have HON := Lib.hid hon
    clear hR ho hsame hon
    cases hok : okName y with
    | false =>
      rw [if_pos rfl]
      have HOK := Lib.hid hok
      clear hok
      unfold at0
      go_enter Tryz.func84, Tryz.ntmps84
      go_wp2_with fail
      refine (r1power_any w F b r HR.out).mono ?_
      rintro e w1 ⟨rfl, hR1, hk⟩
      rw [HO.out]
      rw [HSAME.out] at hR1
      have HR1 := Lib.hid hR1
      have HK := Lib.hid hk
      clear hR1 hk
      go_wp2_with fail
      refine (right_is w1 y hy HOK.out).mono ?_
      rintro e w2 ⟨rfl, hw⟩
      rw [hw]
      clear hw
      go_wp2
      go_ret
      exact R1Left.stay HR1.out HK.out
    | true =>
      rw [if_neg (by simp)]
      have HOK := Lib.hid hok
      clear hok
      rcases dfind_dget r.dir x with ⟨g1, g2⟩ | ⟨i, ⟨pn, j⟩, g0, g1, g2⟩
      · rw [g1]
        have G2 := Lib.hid g2
        clear g1 g2
        unfold at0
        go_enter Tryz.func84, Tryz.ntmps84
        go_wp2_with fail
        refine (r1power_any w F b r HR.out).mono ?_
        rintro e w1 ⟨rfl, hR1, hk⟩
        rw [HO.out]
        rw [HSAME.out] at hR1
        obtain ⟨A, c, k2, hd⟩ := hR1.dirCell
        have HR1 := Lib.hid hR1
        have HK := Lib.hid hk
        have HD := Lib.hid hd
        clear hR1 hk hd
        go_wp2_with fail
        refine (right_is w1 y hy HOK.out).mono ?_
        rintro e w2 ⟨rfl, hw⟩
        rw [hw]
        clear hw
        go_wp2_with fail
        refine (r1find_is w1 A _ c r.dir HD.out x G2.out).mono ?_
        rintro e w2 ⟨rfl, hw⟩
        rw [hw]
        clear hw
        go_wp2
        go_ret
        exact R1Left.stay HR1.out HK.out
      · rw [g1]
        have G2 := Lib.hid g2
        have G0 := Lib.hid g0
        have hni : ¬ ((i : Int) < 0) := by omega
        have hin := (List.getElem?_eq_some_iff.1 g0).1
        have hj := HR.out.wf.fdir _ (List.mem_of_getElem? g0)
        simp only at hj
        clear g0 g1 g2
        simp only
        by_cases hxy : x = y
        · subst hxy
          rw [if_pos rfl]
          unfold at0
          go_enter Tryz.func84, Tryz.ntmps84
          go_wp2_with fail
          refine (r1power_any w F b r HR.out).mono ?_
          rintro e w1 ⟨rfl, hR1, hk⟩
          rw [HO.out]
          rw [HSAME.out] at hR1
          obtain ⟨A, c, k2, hd⟩ := hR1.dirCell
          have HR1 := Lib.hid hR1
          have HK := Lib.hid hk
          have HD := Lib.hid hd
          clear hR1 hk hd
          go_wp2_with fail
          refine (right_is w1 x hy HOK.out).mono ?_
          rintro e w2 ⟨rfl, hw⟩
          rw [hw]
          clear hw
          go_wp2_with fail
          refine (r1find_is w1 A _ c r.dir HD.out x G2.out).mono ?_
          rintro e w2 ⟨rfl, hw⟩
          rw [hw]
          clear hw
          go_wp2_with fail
          refine (r1did_any w1 F b r HR1.out hdn HON.out).mono ?_
          rintro e w3 ⟨rfl, hR3, hk3⟩
          have HR3 := Lib.hid hR3
          have HK3 := Lib.hid hk3
          clear hR3 hk3
          go_wp2
          go_ret
          exact R1Left.stay HR3.out (HK.out.trans HK3.out (fun i _ h => h))
        · rw [if_neg hxy]
          have hne : (x == y) = false := by simpa using hxy
          have HXY := Lib.hid hxy
          clear hxy
          unfold at0
          go_enter Tryz.func84, Tryz.ntmps84
          go_wp2_with fail
          refine (r1power_any w F b r HR.out).mono ?_
          rintro e w1 ⟨rfl, hR1, hk⟩
          rw [HO.out]
          rw [HSAME.out] at hR1
          obtain ⟨A, c, k2, hd⟩ := hR1.dirCell
          obtain ⟨ad, p', rfl, hp', d1, d2⟩ := hd.at i hin
          rw [G0.out] at hp'
          cases hp'
          simp only at d2
          have HR1 := Lib.hid hR1
          have HK := Lib.hid hk
          have HD := Lib.hid hd
          have p0 : (0 : Int) ≤ (i : Int) := by omega
          have p1 : (i : Int) < (r.dir.length : Int) := by omega
          clear hR1 hk hd d1
          go_wp2_with fail
          refine (right_is w1 y hy HOK.out).mono ?_
          rintro e w2 ⟨rfl, hw⟩
          rw [hw]
          clear hw
          go_wp2_with fail
          refine (r1find_is w1 (some ad) _ c r.dir HD.out x G2.out).mono ?_
          rintro e w2 ⟨rfl, hw⟩
          rw [hw]
          clear hw
          go_wp2_with fail
          refine (r1change_any w1 F b r HR1.out ⟨x, y, j⟩ hnd hnc (.inr hj) hdn HON.out).mono ?_
          intro e w3 hL
          obtain ⟨rfl, F', hR3, hk3, hF3⟩ := hL
          have HL := Lib.hid (R1Left.later ⟨rfl, F', hR3, hk3, hF3⟩ hb HK.out : R1Left w F b 0 _ (.returned (.int .i64 0)) w3)
          clear hR3 hk3 hF3
          go_wp2
          go_ret
          exact HL.out
end Go.Proofs.YtmhiekbpmoikfaaGreatDoor
namespace Go.Proofs.YtmhiekbpmoikfaaGreatDoor
open Go.RowKit Go.Maps Go.WideMaps

theorem strInfo : (Tryz.prog.info? 9).map (fun i => (i.zero, i.size, i.bytes)) = some (some (.string ⟨#[]⟩), 1, 16) := by kernel_rfl
theorem R1At.dirOf {w : World} {F : Nat → Prop} {b : Nat} {r : RSt} (h : R1At w F b r) : ∃ A c, w.cell? ⟨b, 2, none⟩ = some (.slice A r.dir.length c) ∧ DirIn w A r.dir.length r.dir := by
  obtain ⟨G, vi, vc, A, c, B, cb, svs, h, _, _⟩ := h
  exact ⟨A, c, by simpa using h.blk.cell 2, h.dir⟩
def nameCells (d : Dir) : List Value := d.map fun p => encStr p.1
set_option maxHeartbeats 4000000 in
set_option maxRecDepth 100000 in
theorem r1Names_any (w : World) (F : Nat → Prop) (b : Nat) (r : RSt) (hR : R1At w F b r) :
    Calls Tryz.prog 90 #[at0 b] w fun e w' => ∃ v, e = .returned v ∧ w'.ownsRow w.heap.size 9 1 v r.dir.length (nameCells r.dir) ∧ Below w.heap.size w w' := by
  obtain ⟨i0, hi, hz0, hz1, hz2⟩ := info_parts strInfo
  obtain ⟨A, c, k2, hd⟩ := hR.dirOf
  have hnd : r.dir.length ≤ 100000 := by obtain ⟨G, vi, vc, A, c, B, cb, svs, h, _, _⟩ := hR; exact h.wf.ndir
  obtain ⟨n, hn⟩ : ∃ n, n = r.dir.length := ⟨_, rfl⟩
  rw [← hn] at k2 hd hnd ⊢
  have HN := Lib.hid hn
  have HD := Lib.hid hd
  have HC := Lib.hid (show ∀ w', Below w.heap.size w w' → w'.cell? ⟨b, 2, none⟩ = some (.slice A n c) from fun w' hb => below_cells hb k2)
  clear hR hn hd
  unfold at0
  go_enter Tryz.func90, Tryz.ntmps90
  go_wp2
  clear k2
  go_loopw [3, 4] (fun v i wr => ∃ k : Nat, k ≤ n ∧ i = .int .i64 k ∧ wr.ownsRow w.heap.size 9 1 v k (nameCells (r.dir.take k)) ∧ Below w.heap.size w wr) (fun _ i _ => n - (intOf i).toNat)
  case atStart => exact ⟨0, by omega, rfl, ⟨rfl, .inl ⟨rfl, rfl⟩⟩, Below.refl _ _⟩
  case round =>
    obtain ⟨k, hk, rfl, hO, hB⟩ := hrel
    have HO := Lib.hid hO
    have HB := Lib.hid hB
    have k2 := HC.out _ hB
    clear hO hB
    rcases Nat.lt_or_ge k n with hlt | hge
    · have hlt' : (k : Int) < (n : Int) := by omega
      have p0 : (0 : Int) ≤ (k : Int) := by omega
      obtain ⟨ad, ⟨pn, pf⟩, rfl, hp, c1, c2⟩ := (HD.out.below HB.out).at k hlt
      have HP := Lib.hid hp
      clear hp c2
      simp only at c1
      go_wp2_with (at_builtin; refine wpList_append_own _ rfl _ _ 76 rfl w.heap.size 9 i0 _ 1 16 Tryz.underlying76 hi hz0 hz1 hz2 rfl (by decide) _ k _ rfl (World.ownsRow.alloc HO.out _) ⟨wr.heap.size, 0, none⟩ 1 1 [.string ⟨pn.toArray⟩] rfl rfl (by intro i u hu; rw [Addr.add_mid, cell_of_row _ _ _ _ _ _ (heap_alloc_new wr _)]; simpa using hu) (by intro u hu; simp at hu; subst hu; rfl) (by unfold maxLen; omega) (by omega) (by have := HB.out.size; simp; omega) ?_; intro v4 w4 hown4 hgrow4 hnil4; clear hnil4)
      have HB4 := Lib.hid ((HB.out.alloc HB.out.size _).grown hgrow4 (by have := HB.out.size; simp; omega) (fun g hg => (HO.out.lt g hg).1))
      have HO4 := Lib.hid hown4
      clear hown4 hgrow4
      go_roundw
      case rel => exact ⟨k + 1, by omega, by go_num, by rw [take_snocD HP.out]; unfold nameCells; rw [List.map_append]; exact HO4.out, HB4.out⟩
      case measure => simp [intOf]; omega
    · obtain rfl : k = n := by omega
      have hlz : ¬ ((k : Int) < (k : Int)) := by omega
      have htk : r.dir.take k = r.dir := List.take_of_length_le (by rw [← HN.out]; exact Nat.le_refl _)
      have hO := HO.out
      rw [htk] at hO
      have HO2 := Lib.hid hO
      clear htk hO
      go_wp2
      go_ret
      exact ⟨_, rfl, HO2.out, HB.out⟩

/-- A row of names that can be read. -/
structure NamesIn (w : World) (A : Option Addr) (n : Nat) (l : List Nm) : Prop where
  len : l.length = n
  fit : n ≤ 100000
  nil : A = none → n = 0
  cells : ∀ ad, A = some ad → ∀ (i : Nat) (x : Nm), l[i]? = some x → w.cell? (ad.add i) = some (.string ⟨x.toArray⟩)
theorem NamesIn.own {w : World} {base : Nat} {A : Option Addr} {n c : Nat} {l : List Nm} (h : w.ownsRow base 9 1 (.slice A n c) n (l.map encStr)) (hf : n ≤ 100000) : NamesIn w A n l := by
  refine ⟨by have := h.1; simpa using this, hf, fun e => ?_, fun ad e i x hx => ?_⟩
  · rcases h.2 with ⟨_, h0⟩ | ⟨g, cap, cur, h1, _⟩
    · exact h0
    · injection h1 with h1
      rw [h1] at e; cases e
  · rcases h.2 with ⟨_, h0⟩ | ⟨g, cap, cur, hv, _⟩
    · have := (List.getElem?_eq_some_iff.1 hx).1
      have h1 := h.1
      simp at h1
      omega
    · injection hv with hA hn _
      rw [hA] at e
      cases e
      exact h.cells (g := g) (by rw [hA]; rfl) i _ (by rw [List.getElem?_map, hx]; rfl)
theorem NamesIn.below {w w' : World} {A : Option Addr} {n : Nat} {l : List Nm} (h : NamesIn w A n l) (hb : Below w.heap.size w w') : NamesIn w' A n l :=
  ⟨h.len, h.fit, h.nil, fun ad e i x hx => below_cells hb (h.cells ad e i x hx)⟩
theorem NamesIn.at {w : World} {A : Option Addr} {n : Nat} {l : List Nm} (h : NamesIn w A n l) (k : Nat) (hk : k < n) : ∃ ad x, A = some ad ∧ l[k]? = some x ∧ w.cell? (ad.add k) = some (.string ⟨x.toArray⟩) := by
  cases hA : A with
  | none => have := h.nil hA; omega
  | some ad =>
    subst hA
    have hp : l[k]? = some (l[k]'(by rw [h.len]; exact hk)) := List.getElem?_eq_getElem _
    exact ⟨ad, _, rfl, hp, h.cells ad rfl k _ hp⟩
def rFiles (r : RSt) : List (Nm × Nm) := r.dir.map fun p => (p.1, rDat r p.2)
end Go.Proofs.YtmhiekbpmoikfaaGreatDoor
namespace Go.Proofs.YtmhiekbpmoikfaaGreatDoor
open Go.RowKit Go.Maps Go.WideMaps

def dmap (f : Nat → Nat) (d : Dir) : Dir := d.map fun p => (p.1, f p.2)
theorem dget_dmap (f : Nat → Nat) (d : Dir) (k : Nm) : dget (dmap f d) k = (dget d k).map f := by
  unfold dget dmap
  induction d with
  | nil => rfl
  | cons p r ih =>
    by_cases h : (p.1 == k) = true
    · simp [h]
    · simp only [List.map_cons, List.find?_cons, h]
      exact ih
theorem ddel_dmap (f : Nat → Nat) (d : Dir) (k : Nm) : ddel (dmap f d) k = dmap f (ddel d k) := by
  unfold ddel dmap
  induction d with
  | nil => rfl
  | cons p r ih =>
    by_cases h : (p.1 == k) = true
    · simp [h]
      exact ih
    · simp [h]
      exact ih
theorem dins_dmap (f : Nat → Nat) (d : Dir) (k : Nm) (v : Nat) : dins k (f v) (dmap f d) = dmap f (dins k v d) := by
  induction d with
  | nil => rfl
  | cons p r ih =>
    by_cases h : bytesBefore k p.1 = true
    · rw [dins_stop k v p r h]
      exact dins_stop k (f v) (p.1, f p.2) (dmap f r) h
    · have h' : bytesBefore k p.1 = false := by simpa using h
      rw [dins_step k v p r h']
      show dins k (f v) ((p.1, f p.2) :: dmap f r) = (p.1, f p.2) :: dmap f (dins k v r)
      rw [dins_step k (f v) (p.1, f p.2) (dmap f r) h', ih]
theorem dput_dmap (f : Nat → Nat) (d : Dir) (k : Nm) (v : Nat) : dput (dmap f d) k (f v) = dmap f (dput d k v) := by
  unfold dput
  rw [ddel_dmap, dins_dmap]
theorem dmap_len (f : Nat → Nat) (d : Dir) : (dmap f d).length = d.length := by simp [dmap]
theorem ddel_cons_eq (p : Nm × Nat) (r : Dir) (k : Nm) (h : p.1 = k) : ddel (p :: r) k = ddel r k := by simp [ddel, h]
theorem ddel_cons_ne (p : Nm × Nat) (r : Dir) (k : Nm) (h : p.1 ≠ k) : ddel (p :: r) k = p :: ddel r k := by simp [ddel, h]
/-- Insert, then take another name out: the other way round. -/
theorem ddel_dins (a b : Nm) (v : Nat) (hab : a ≠ b) (tr : ∀ x y z : Nm, bytesBefore x y = true → bytesBefore y z = true → bytesBefore x z = true) : ∀ d : Dir, d.Pairwise (fun p q => bytesBefore p.1 q.1 = true) → ddel (dins b v d) a = dins b v (ddel d a)
  | [], _ => by
    show ddel [(b, v)] a = dins b v []
    rw [ddel_cons_ne (b, v) [] a (fun e => hab e.symm)]
    rfl
  | p :: r, hs => by
    obtain ⟨h1, h2⟩ := List.pairwise_cons.1 hs
    have ih := ddel_dins a b v hab tr r h2
    by_cases h : bytesBefore b p.1 = true
    · rw [dins_stop b v p r h, ddel_cons_ne (b, v) _ a (fun e => hab e.symm)]
      by_cases hp : p.1 = a
      · rw [ddel_cons_eq p r a hp]
        cases hd : ddel r a with
        | nil => rfl
        | cons q t =>
          have hq : q ∈ r := (mem_ddel.1 (by rw [hd]; exact List.mem_cons_self ..)).1
          rw [dins_stop b v q t (tr _ _ _ h (h1 q hq))]
      · rw [ddel_cons_ne p r a hp, dins_stop b v p _ h]
    · have h' : bytesBefore b p.1 = false := by simpa using h
      rw [dins_step b v p r h']
      by_cases hp : p.1 = a
      · rw [ddel_cons_eq p _ a hp, ddel_cons_eq p r a hp, ih]
      · rw [ddel_cons_ne p _ a hp, ddel_cons_ne p r a hp, dins_step b v p _ h', ih]
theorem ddel_ddel (d : Dir) (a b : Nm) : ddel (ddel d a) b = ddel (ddel d b) a := by
  unfold ddel
  rw [List.filter_filter, List.filter_filter]
  congr 1
  funext p
  rw [Bool.and_comm]
theorem sorted_ddel (d : Dir) (a : Nm) (h : d.Pairwise (fun p q => bytesBefore p.1 q.1 = true)) : (ddel d a).Pairwise (fun p q => bytesBefore p.1 q.1 = true) := h.filter _
/-- A rename, as the document has it and as the program has it. -/
theorem rename_alike (d : Dir) (a b : Nm) (v : Nat) (hab : a ≠ b) (tr : ∀ x y z : Nm, bytesBefore x y = true → bytesBefore y z = true → bytesBefore x z = true) (hs : d.Pairwise (fun p q => bytesBefore p.1 q.1 = true)) : dput (ddel d a) b v = ddel (dput d b v) a := by
  unfold dput
  rw [ddel_dins a b v hab tr _ (sorted_ddel d b hs), ddel_ddel]
end Go.Proofs.YtmhiekbpmoikfaaGreatDoor
