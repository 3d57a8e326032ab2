/- The document's disk: what it is, and how it lies; power, did, New, Fuse. -/
import Derived.Test.YtblpppeppgfbpaaR1Dir2
import Derived.Lib.MinMax
namespace Go.Proofs.Ytblpppeppgfbpaa
open Go.RowKit Go.Maps Go.WideMaps

theorem step_append_rec {P : Program} (w : World) {ops : Array Oper} {o : Oper} {a : Act} {K : Act → World → Prop} {Q : Exit → Act → World → Prop} {E : Prop} (hgd : o.guard = none) (s x : Operand) (t : TypeId)
    (ho : o.op = .call { callee := .builtin .append, args := #[s, x], argTypes := #[t, t] })
    (base : Nat) (e : TypeId) (i : TypeInfo) (z : Value) (size bytes : Nat) (ht : P.underlying t = some (.slice e)) (hi : P.info? e = some i) (hz : i.zero = some z)
    (hsize : i.size = size) (hby : i.bytes = bytes) (hzs : z.cells.size = size) (hsz : 0 < size)
    (v : Value) (n : Nat) (xs : List Value) (hs : a.eval s = v) (hown : w.ownsRow base e size v n xs)
    (ad : Addr) (m c : Nat) (news : List Value) (hx : a.eval x = .slice (some ad) m c) (hl : news.length = m * size) (hnews : ∀ j u, news[j]? = some u → w.cell? (ad.add j) = some u) (h1 : ∀ u ∈ news, u.oneCell' = true)
    (h63 : n + m ≤ maxLen) (hbytes : (n + m) * bytes ≤ 140737488355328) (hbase : base ≤ w.heap.size)
    (h : ∀ v' w', w'.ownsRow base e size v' (n + m) (xs ++ news) → w.grownBy w' v.ownBlock → (v'.ownBlock = v.ownBlock ∨ v'.ownBlock = some w.heap.size) → K (a.put o.dst v') w') :
    if Region.wanted o (yielded ops a.tmps) = true then Oper.wp P o a w K Q else E := by
  have hw : Region.wanted o (yielded ops a.tmps) = true := by simp [Region.wanted, hgd]
  rw [if_pos hw]
  obtain ⟨v', w', hrun, h2, h3, _, h4⟩ := run_append_own_at (P := P) w base t o.type e i z size bytes ht hi hz hsize hby hzs hsz v n xs hown ad m c news hl hnews h1 h63 hbytes hbase
  unfold Oper.wp execOp
  simp only [ho, resolve, invoke, builtin, Sem.run_bind, Sem.run_pure, Result.andThen_ok, List.map_toArray, List.map_cons, List.map_nil, hs, hx, hrun]
  exact h v' w' h2 h3 h4

structure RSt where
  room : Nat
  ino : List (Nm × Nat)
  dir : Dir
  old : Dir
  chs : List RCh
  done : Nat
  fused : Bool
  left : Nat
  off : Bool
def inoCells : List (Nm × Nat) → List Value → List Value
  | x :: l, v :: r => v :: .int .i64 x.2 :: inoCells l r
  | _, _ => []
def chCells : List RCh → List Value
  | [] => []
  | c :: r => .string ⟨c.frm.toArray⟩ :: .string ⟨c.to.toArray⟩ :: .int .i64 c.file :: chCells r
/-- What is always so. -/
structure RWF (r : RSt) : Prop where
  room : r.room ≤ 9223372036854775807
  nino : r.ino.length ≤ 100000
  ndir : r.dir.length ≤ 100000
  nold : r.old.length ≤ 100000
  nchs : r.chs.length ≤ 100000
  ndone : r.done ≤ 100000
  nleft : r.left ≤ 9223372036854775807
  fdir : ∀ p ∈ r.dir, p.2 < r.ino.length
  fold : ∀ p ∈ r.old, p.2 < r.ino.length
  fchs : ∀ c ∈ r.chs, c.to = [] ∨ c.file < r.ino.length
  fit : ∀ x ∈ r.ino, x.2 ≤ x.1.length ∧ x.1.length ≤ 262144
/-- How it lies: its own block, the rows that it writes (vi, vc), and what it only reads (in G). -/
structure IsR1 (w : World) (b : Nat) (G : Nat → Prop) (r : RSt) (vi vc : Value) (A : Option Addr) (c : Nat) (B : Option Addr) (cb : Nat) (svs : List Value) : Prop where
  wf : RWF r
  blk : Blk w b 47 #[.int .i64 r.room, vi, .slice A r.dir.length c, .slice B r.old.length cb, vc, .int .i64 r.done, .bool r.fused, .int .i64 r.left, .bool r.off]
  ino : w.ownsRow 0 75 2 vi r.ino.length (inoCells r.ino svs)
  isl : svs.length = r.ino.length
  dat : ∀ (i : Nat) (sv : Value) (x : Nm × Nat), svs[i]? = some sv → r.ino[i]? = some x → ∃ D cd, sv = .slice D x.1.length cd ∧ x.1.length ≤ cd ∧ BytesIn w D x.1.length x.1 ∧ ∀ ad, D = some ad → 0 < x.1.length → G ad.block
  dir : DirIn w A r.dir.length r.dir
  dirG : ∀ ad, A = some ad → 0 < r.dir.length → G ad.block
  old : DirIn w B r.old.length r.old
  oldG : ∀ ad, B = some ad → 0 < r.old.length → G ad.block
  chs : w.ownsRow 0 92 3 vc r.chs.length (chCells r.chs)
  gb : ¬ G b
  gi : ∀ g, vi.ownBlock = some g → ¬ G g
  gc : ∀ g, vc.ownBlock = some g → ¬ G g
  glt : ∀ i, G i → i < w.heap.size
/-- All its blocks. -/
def OfR1 (b : Nat) (vi vc : Value) (G : Nat → Prop) (i : Nat) : Prop := i = b ∨ vi.ownBlock = some i ∨ vc.ownBlock = some i ∨ G i
def R1At (w : World) (F : Nat → Prop) (b : Nat) (r : RSt) : Prop := ∃ G vi vc A c B cb svs, IsR1 w b G r vi vc A c B cb svs ∧ (∀ i, OfR1 b vi vc G i → F i) ∧ ∀ i, F i → i < w.heap.size
theorem IsR1.same {w w' : World} {b : Nat} {G : Nat → Prop} {r : RSt} {vi vc : Value} {A : Option Addr} {c : Nat} {B : Option Addr} {cb : Nat} {svs : List Value} (h : IsR1 w b G r vi vc A c B cb svs)
    (hb : ∀ i, OfR1 b vi vc G i → w'.heap[i]? = w.heap[i]?) (hs : w.heap.size ≤ w'.heap.size) : IsR1 w' b G r vi vc A c B cb svs :=
  { h with
    blk := (hb b (.inl rfl)).trans h.blk
    ino := ownsRow_block h.ino fun g hg => hb g (.inr (.inl hg))
    dat := fun i sv x e1 e2 => by
      obtain ⟨D, cd, h1, h2, h3, h4⟩ := h.dat i sv x e1 e2
      refine ⟨D, cd, h1, h2, ⟨h3.1, h3.2.1.keep fun ad e h0 => hb _ (.inr (.inr (.inr (h4 ad e h0)))), fun ad e h0 => Nat.lt_of_lt_of_le (h3.2.2 ad e h0) hs⟩, h4⟩
    dir := h.dir.keep fun ad e h0 => hb _ (.inr (.inr (.inr (h.dirG ad e h0))))
    old := h.old.keep fun ad e h0 => hb _ (.inr (.inr (.inr (h.oldG ad e h0))))
    chs := ownsRow_block h.chs fun g hg => hb g (.inr (.inr (.inl hg)))
    glt := fun i hi => Nat.lt_of_lt_of_le (h.glt i hi) hs }
theorem R1At.same {w w' : World} {F : Nat → Prop} {b : Nat} {r : RSt} (h : R1At w F b r) (hb : ∀ i, F i → w'.heap[i]? = w.heap[i]?) (hs : w.heap.size ≤ w'.heap.size) : R1At w' F b r := by
  obtain ⟨G, vi, vc, A, c, B, cb, svs, h1, h2, h3⟩ := h
  exact ⟨G, vi, vc, A, c, B, cb, svs, h1.same (fun i hi => hb i (h2 i hi)) hs, h2, fun i hi => Nat.lt_of_lt_of_le (h3 i hi) hs⟩
theorem R1At.kept {w w' : World} {F H : Nat → Prop} {b : Nat} {r : RSt} (h : R1At w F b r) (hk : Kept H w w') (hn : ∀ i, F i → ¬ H i) : R1At w' F b r := by
  have hlt : ∀ i, F i → i < w.heap.size := by obtain ⟨G, vi, vc, A, c, B, cb, svs, h1, h2, h3⟩ := h; exact h3
  exact h.same (fun i hi => hk.block i (hlt i hi) (hn i hi)) hk.size
theorem R1At.drewN {w : World} {F : Nat → Prop} {b : Nat} {r : RSt} (h : R1At w F b r) (q : Nat) : R1At (w.drewN q) F b r := h.same (fun _ _ => rfl) (Nat.le_refl _)
/-- The numbers of the disk's own block are written; nothing else. -/
theorem IsR1.nums {w w' : World} {b : Nat} {G : Nat → Prop} {r : RSt} {vi vc : Value} {A : Option Addr} {c : Nat} {B : Option Addr} {cb : Nat} {svs : List Value} (h : IsR1 w b G r vi vc A c B cb svs)
    (hb : ∀ i, i ≠ b → w'.heap[i]? = w.heap[i]?) (hs : w.heap.size ≤ w'.heap.size) {dn lf : Nat} {fu of : Bool}
    (blk : Blk w' b 47 #[.int .i64 r.room, vi, .slice A r.dir.length c, .slice B r.old.length cb, vc, .int .i64 dn, .bool fu, .int .i64 lf, .bool of]) (h1 : dn ≤ 100000) (h2 : lf ≤ 9223372036854775807) :
    IsR1 w' b G { r with done := dn, fused := fu, left := lf, off := of } vi vc A c B cb svs where
  wf := { h.wf with ndone := h1, nleft := h2 }
  blk := blk
  ino := ownsRow_block h.ino fun g hg => hb g (fun e => own_blk_ne h.ino h.blk (by decide) (by rw [hg, e]))
  isl := h.isl
  dat := fun i sv x e1 e2 => by
    obtain ⟨D, cd, k1, k2, k3, k4⟩ := h.dat i sv x e1 e2
    exact ⟨D, cd, k1, k2, ⟨k3.1, k3.2.1.keep fun ad e h0 => hb _ (fun e2 => h.gb (by rw [← e2]; exact k4 ad e h0)), fun ad e h0 => Nat.lt_of_lt_of_le (k3.2.2 ad e h0) hs⟩, k4⟩
  dir := h.dir.keep fun ad e h0 => hb _ (fun e2 => h.gb (by rw [← e2]; exact h.dirG ad e h0))
  dirG := h.dirG
  old := h.old.keep fun ad e h0 => hb _ (fun e2 => h.gb (by rw [← e2]; exact h.oldG ad e h0))
  oldG := h.oldG
  chs := ownsRow_block h.chs fun g hg => hb g (fun e => own_blk_ne h.chs h.blk (by decide) (by rw [hg, e]))
  gb := h.gb
  gi := h.gi
  gc := h.gc
  glt := fun i hi => Nat.lt_of_lt_of_le (h.glt i hi) hs

def rPower (r : RSt) : RSt := { r with off := r.off || (r.fused && r.left == 0) }
def rDid (r : RSt) : RSt := { r with done := r.done + 1, left := if r.fused then r.left - 1 else r.left }
set_option maxHeartbeats 2000000 in
set_option maxRecDepth 100000 in
theorem r1power_any (w : World) (F : Nat → Prop) (b : Nat) (r : RSt) (hR : R1At w F b r) :
    Calls Try.prog 69 #[at0 b] w fun e w' => e = .returned (.bool (!(rPower r).off)) ∧ R1At w' F b (rPower r) ∧ Kept (fun i => i = b) w w' := by
  obtain ⟨G, vi, vc, A, c, B, cb, svs, h, hF, hlt⟩ := hR
  have c6 := h.blk.cell 6
  have c7 := h.blk.cell 7
  have c8 := h.blk.cell 8
  have z8 := h.blk.frozen 8
  simp at c6 c7 c8
  have H := Lib.hid h
  have hdn := h.wf.ndone
  have hlf := h.wf.nleft
  obtain ⟨room, ino, dir, old, chs, done, fused, left, off⟩ := r
  simp only at c6 c7 c8 hdn hlf
  clear h
  unfold at0 rPower
  have key : ∀ (w' : World) (of : Bool), (∀ i, i ≠ b → w'.heap[i]? = w.heap[i]?) → w.heap.size ≤ w'.heap.size → Blk w' b 47 #[.int .i64 room, vi, .slice A dir.length c, .slice B old.length cb, vc, .int .i64 done, .bool fused, .int .i64 left, .bool of] → R1At w' F b ⟨room, ino, dir, old, chs, done, fused, left, of⟩ := fun w' of hb hs blk =>
    ⟨G, vi, vc, A, c, B, cb, svs, H.out.nums hb hs blk hdn hlf, hF, fun i hi => Nat.lt_of_lt_of_le (hlt i hi) hs⟩
  have KEY := Lib.hid key
  clear key
  cases fused with
  | false =>
    go_enter Try.func69, Try.ntmps69
    go_wp2
    go_ret
    refine ⟨by simp, ?_, Kept.refl _ _⟩
    rw [show (off || (false && left == 0)) = off by simp]
    exact KEY.out _ _ (fun _ _ => rfl) (Nat.le_refl _) H.out.blk
  | true =>
    by_cases hl : left = 0
    · subst hl
      go_enter Try.func69, Try.ntmps69
      go_wp2
      go_ret
      refine ⟨by simp, ?_, (Kept.refl (fun i => i = b) w).setCell (.inl rfl) _⟩
      rw [show (off || (true && (0 : Nat) == 0)) = true by simp]
      exact KEY.out _ _ (fun i hi => heap_setCell_other _ _ _ hi) (by simp [World.setCell]) (by simpa using H.out.blk.set_ 8 (.bool true))
    · have d1 : ((left : Int) == 0) = false := by simp; omega
      have e1 : (left == 0) = false := by simpa using hl
      go_enter Try.func69, Try.ntmps69
      go_wp2
      go_ret
      refine ⟨by simp [e1], ?_, Kept.refl _ _⟩
      rw [show (off || (true && left == 0)) = off by simp [e1]]
      exact KEY.out _ _ (fun _ _ => rfl) (Nat.le_refl _) H.out.blk

set_option maxHeartbeats 2000000 in
set_option maxRecDepth 100000 in
theorem r1did_any (w : World) (F : Nat → Prop) (b : Nat) (r : RSt) (hR : R1At w F b r) (hd : r.done < 100000) (hl : r.fused = true → 0 < r.left) :
    Calls Try.prog 71 #[at0 b] w fun e w' => e = .returned (.int .i64 0) ∧ R1At w' F b (rDid r) ∧ Kept (fun i => i = b) w w' := by
  obtain ⟨G, vi, vc, A, c, B, cb, svs, h, hF, hlt⟩ := hR
  have c5 := h.blk.cell 5
  have c6 := h.blk.cell 6
  have c7 := h.blk.cell 7
  have z5 := h.blk.frozen 5
  have z7 := h.blk.frozen 7
  simp at c5 c6 c7
  have H := Lib.hid h
  have hlf := h.wf.nleft
  obtain ⟨room, ino, dir, old, chs, done, fused, left, off⟩ := r
  simp only at c5 c6 c7 hd hlf hl
  clear h
  unfold at0 rDid
  have h5 : IntKind.i64.wrap ((done : Int) + 1) = ((done + 1 : Nat) : Int) := by rw [IntWalk.i64_in _ (by omega)]; simp
  obtain ⟨d1, hd1⟩ : ∃ d1, d1 = done + 1 := ⟨_, rfl⟩
  rw [← hd1] at h5
  have hd2 : d1 ≤ 100000 := by omega
  simp only [← hd1]
  clear hd1
  have key : ∀ (w' : World) (lf : Nat), lf ≤ 9223372036854775807 → (∀ i, i ≠ b → w'.heap[i]? = w.heap[i]?) → w.heap.size ≤ w'.heap.size → Blk w' b 47 #[.int .i64 room, vi, .slice A dir.length c, .slice B old.length cb, vc, .int .i64 d1, .bool fused, .int .i64 lf, .bool off] → R1At w' F b ⟨room, ino, dir, old, chs, d1, fused, lf, off⟩ := fun w' lf h1 hb hs blk =>
    ⟨G, vi, vc, A, c, B, cb, svs, H.out.nums hb hs blk hd2 h1, hF, fun i hi => Nat.lt_of_lt_of_le (hlt i hi) hs⟩
  have KEY := Lib.hid key
  clear key
  cases fused with
  | false =>
    clear hl
    go_enter Try.func71, Try.ntmps71
    go_wp2
    go_ret
    refine ⟨rfl, ?_, (Kept.refl (fun i => i = b) w).setCell (.inl rfl) _⟩
    exact KEY.out _ _ hlf (fun i hi => heap_setCell_other _ _ _ hi) (by simp [World.setCell]) (by simpa using H.out.blk.set_ 5 (.int .i64 d1))
  | true =>
    have hl := hl rfl
    have h7 : IntKind.i64.wrap ((left : Int) - 1) = ((left - 1 : Nat) : Int) := by rw [IntWalk.i64_in _ (by omega)]; omega
    obtain ⟨l1, hl1⟩ : ∃ l1, l1 = left - 1 := ⟨_, rfl⟩
    rw [← hl1] at h7
    have hl2 : l1 ≤ 9223372036854775807 := by omega
    simp only [← hl1, if_true]
    clear hl1
    go_enter Try.func71, Try.ntmps71
    go_wp2
    go_ret
    refine ⟨rfl, ?_, ((Kept.refl (fun i => i = b) w).setCell (.inl rfl) _).setCell (.inl rfl) _⟩
    exact KEY.out _ _ hl2 (fun i hi => (heap_setCell_other _ _ _ hi).trans (heap_setCell_other _ _ _ hi)) (by simp [World.setCell]) (by simpa using (H.out.blk.set_ 5 (.int .i64 d1)).set_ 7 (.int .i64 l1))

def rFuse (r : RSt) (n : Int) : RSt := { r with fused := decide (0 ≤ n), left := n.toNat }
set_option maxHeartbeats 2000000 in
set_option maxRecDepth 100000 in
theorem r1Fuse_any (w : World) (F : Nat → Prop) (b : Nat) (r : RSt) (hR : R1At w F b r) (n : Int) (hn : n ≤ 9223372036854775807) :
    Calls Try.prog 47 #[at0 b, .int .i64 n] w fun e w' => e = .returned (.tuple #[]) ∧ R1At w' F b (rFuse r n) ∧ Kept (fun i => i = b) w w' := by
  obtain ⟨G, vi, vc, A, c, B, cb, svs, h, hF, hlt⟩ := hR
  have c6 := h.blk.cell 6
  have c7 := h.blk.cell 7
  have z6 := h.blk.frozen 6
  have z7 := h.blk.frozen 7
  simp at c6 c7
  have H := Lib.hid h
  have hdn := h.wf.ndone
  obtain ⟨room, ino, dir, old, chs, done, fused, left, off⟩ := r
  simp only at c6 c7 hdn
  clear h
  unfold at0 rFuse
  have hmax : ∀ w ty, (Builtin.max_ #[3, 3] ty #[.int .i64 n, .int .i64 0]).run Try.prog w = .ok (.int .i64 n.toNat) w := fun w ty => by
    rw [Lib.run_max_ints, show max n (0 : Int) = (n.toNat : Int) by omega]
  obtain ⟨l1, hl1⟩ : ∃ l1, l1 = n.toNat := ⟨_, rfl⟩
  rw [← hl1] at hmax
  have hl2 : l1 ≤ 9223372036854775807 := by omega
  simp only [← hl1]
  clear hl1
  have key : ∀ (w' : World) (fu : Bool), (∀ i, i ≠ b → w'.heap[i]? = w.heap[i]?) → w.heap.size ≤ w'.heap.size → Blk w' b 47 #[.int .i64 room, vi, .slice A dir.length c, .slice B old.length cb, vc, .int .i64 done, .bool fu, .int .i64 l1, .bool off] → R1At w' F b ⟨room, ino, dir, old, chs, done, fu, l1, off⟩ := fun w' fu hb hs blk =>
    ⟨G, vi, vc, A, c, B, cb, svs, H.out.nums hb hs blk hdn hl2, hF, fun i hi => Nat.lt_of_lt_of_le (hlt i hi) hs⟩
  have KEY := Lib.hid key
  clear key
  obtain ⟨q, hq⟩ : ∃ q, q = decide (0 ≤ n) := ⟨_, rfl⟩
  have hq2 : decide (n ≥ 0) = q := by rw [hq]
  rw [← hq]
  clear hq
  go_enter Try.func47, Try.ntmps47
  go_wp2
  go_end0
  refine ⟨rfl, ?_, ((Kept.refl (fun i => i = b) w).setCell (.inl rfl) _).setCell (.inl rfl) _⟩
  exact KEY.out _ _ (fun i hi => (heap_setCell_other _ _ _ hi).trans (heap_setCell_other _ _ _ hi)) (by simp [World.setCell]) (by simpa using (H.out.blk.set_ 6 (.bool q)).set_ 7 (.int .i64 l1))

def RSt.new (room : Nat) : RSt := ⟨room, [], [], [], [], 0, false, 0, false⟩
set_option maxHeartbeats 2000000 in
set_option maxRecDepth 100000 in
theorem r1New_any (w : World) (n : Int) (hn : n ≤ 9223372036854775807) :
    Calls Try.prog 33 #[.int .i64 n] w fun e w' => ∃ b, e = .returned (at0 b) ∧ R1At w' (fun i => i = b) b (RSt.new n.toNat) ∧ Below w.heap.size w w' ∧ b = w.heap.size := by
  have hmax : ∀ w ty, (Builtin.max_ #[3, 3] ty #[.int .i64 n, .int .i64 0]).run Try.prog w = .ok (.int .i64 n.toNat) w := fun w ty => by
    rw [Lib.run_max_ints, show max n (0 : Int) = (n.toNat : Int) by omega]
  obtain ⟨l1, hl1⟩ : ∃ l1, l1 = n.toNat := ⟨_, rfl⟩
  rw [← hl1] at hmax ⊢
  have hl2 : l1 ≤ 9223372036854775807 := by omega
  clear hl1
  go_enter Try.func33, Try.ntmps33
  go_wp2
  go_ret
  refine ⟨w.heap.size, rfl, ⟨fun _ => False, .slice none 0 0, .slice none 0 0, none, 0, none, 0, [], ?_, ?_, ?_⟩, (Below.refl _ w).alloc (Nat.le_refl _) _, rfl⟩
  · exact {
      wf := ⟨hl2, by simp [RSt.new], by simp [RSt.new], by simp [RSt.new], by simp [RSt.new], by simp [RSt.new], by simp [RSt.new], by simp [RSt.new], by simp [RSt.new], by simp [RSt.new], by simp [RSt.new]⟩
      blk := Blk.new w _ _
      ino := World.ownsRow_nil _ _ _ _
      isl := rfl
      dat := fun i sv x e1 _ => by simp at e1
      dir := DirIn.empty _
      dirG := fun ad e => by cases e
      old := DirIn.empty _
      oldG := fun ad e => by cases e
      chs := World.ownsRow_nil _ _ _ _
      gb := fun h => h
      gi := fun g _ h => h
      gc := fun g _ h => h
      glt := fun i h => h.elim }
  · rintro i (h | h | h | h)
    · exact h
    · simp [Value.ownBlock] at h
    · simp [Value.ownBlock] at h
    · exact h.elim
  · rintro i rfl
    simp
end Go.Proofs.Ytblpppeppgfbpaa
