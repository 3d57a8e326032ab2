/- The program's find: where a step is stored, or would be. Rows of elements of several cells: copied, cleared, written in place. slices.Delete of one step, in a row of one's own. slices.SortFunc of steps, by downwards. -/
import Derived.Test.YtimbimnbaoaboaaEMem
import Derived.Test.YtimbimnbaoaboaaLay
import Derived.Shelf.SlSorted.Search
import Derived.Shelf.SlSortCmp.QuietGrown
import Derived.Laws.IdiomCopy
import Derived.Lib.SliceRun
import Derived.Deep.RegionLaw
import Derived.Shelf.SlSortCmp.NoneTotal
namespace Go.Proofs.Ytimbimnbaoaboaa
open Go.RowKit Go.Maps Go.WideMaps Go.Sort
set_option linter.unusedSimpArgs false

/-- The two cells of a step in a row of one's own. -/
theorem own_step_at {w : World} {base : Nat} {v : Value} {st : List (Nat × Nat)} (h : w.ownsRow base 78 2 v st.length (st.flatMap stV)) {i : Nat} {x : Nat × Nat} (hx : st[i]? = some x) :
    ∃ ad c, v = .slice (some ad) st.length c ∧ st.length ≤ c ∧ w.cell? (ad.add (i * 2)) = some (.int .i64 x.1) ∧ w.cell? ⟨(ad.add (i * 2)).block, (ad.add (i * 2)).off + 1, none⟩ = some (.int .i64 x.2) := by
  have hp := (List.getElem?_eq_some_iff.1 hx).1
  have hh := h.2
  rcases hh with ⟨h1, h2⟩ | ⟨g, cap, cur, rfl, h1, h2, h3, h4, h5, h6⟩
  · omega
  · refine ⟨⟨g, 0, none⟩, cap, rfl, h3, ?_, ?_⟩
    · rw [addr_add]
      have := h.cells (g := g) rfl (i * 2) (.int .i64 x.1) (flat_at (f := stV) (s := 2) (fun _ => rfl) st i 0 x _ hx rfl)
      rw [addr_add] at this
      exact this
    · rw [addr_add]
      have := h.cells (g := g) rfl (i * 2 + 1) (.int .i64 x.2) (flat_at (f := stV) (s := 2) (fun _ => rfl) st i 1 x _ hx rfl)
      rw [addr_add] at this
      exact this
theorem grow_below (w : World) (os : Array Obj) : Below w.heap.size w (grow w os) := ⟨rfl, rfl, rfl, by simp, fun k hk => heap_grow_old w os hk⟩
set_option maxHeartbeats 2000000 in
set_option maxRecDepth 100000 in
theorem find1_any (W : World) (r pb sb : Nat) (s x : Nat × Nat) (ad : Addr) (n c i : Nat) (hi : i < n)
    (h1 : W.cell? ⟨pb, 0, none⟩ = some (at0 r)) (h2 : W.cell? ⟨r, 4, none⟩ = some (.slice (some ad) n c)) (h3 : W.cell? ⟨sb, 0, none⟩ = some (.int .i64 s.1)) (h4 : W.cell? ⟨sb, 1, none⟩ = some (.int .i64 s.2))
    (h5 : W.cell? (ad.add (i * 2)) = some (.int .i64 x.1)) (h6 : W.cell? ⟨(ad.add (i * 2)).block, (ad.add (i * 2)).off + 1, none⟩ = some (.int .i64 x.2)) :
    Calls Try.prog 70 #[.int .i64 i, .pointer (some ⟨pb, 0, none⟩), .pointer (some ⟨sb, 0, none⟩)] W fun e w' => e = .returned (.bool (decide (¬ gtS x s))) ∧ ∃ q os, w' = grow (W.drewN q) os := by
  have mixed : Try.prog.follows .mixedOrders = true := by kernel_rfl
  obtain ⟨s1, s2⟩ := s
  obtain ⟨x1, x2⟩ := x
  unfold at0 at h1
  have k1 := fun n os => cell_grown (World.block_lt_of_cell? W _ h1) h1 n os
  have k2 := fun n os => cell_grown (World.block_lt_of_cell? W _ h2) h2 n os
  have k3 := fun n os => cell_grown (World.block_lt_of_cell? W _ h3) h3 n os
  have k4 := fun n os => cell_grown (World.block_lt_of_cell? W _ h4) h4 n os
  have k5 := fun n os => cell_grown (World.block_lt_of_cell? W _ h5) h5 n os
  have k6 := fun n os => cell_grown (World.block_lt_of_cell? W _ h6) h6 n os
  have hb := dwn_neg (x1, x2) (s1, s2)
  have hf := dwn_fits (x1, x2) (s1, s2)
  have hd := fun (W : World) => downwards_any W (x1, x2) (s1, s2)
  obtain ⟨d, hdd⟩ : ∃ d, d = dwn (x1, x2) (s1, s2) := ⟨_, rfl⟩
  rw [← hdd] at hb hf hd
  have HDD := Lib.hid hdd
  obtain ⟨G, hG⟩ : ∃ G, G = decide (¬ gtS (x1, x2) (s1, s2)) := ⟨_, rfl⟩
  rw [← hG]
  have hg : decide (d ≥ 0) = G := by rw [hG]; exact decide_eq_decide.2 ⟨fun h e => by have := hb.2 e; omega, fun h => by
    rcases Int.lt_or_le d 0 with h1 | h1
    · exact absurd (hb.1 h1) h
    · exact h1⟩
  have HG := Lib.hid hg
  have HD := Lib.hid hd
  have hiz : (0 : Int) ≤ (i : Int) := by omega
  have hin : (i : Int) < (n : Int) := by omega
  clear h1 h2 h3 h4 h5 h6 hb hd hdd hG hg hf
  go_enter Try.func70, Try.ntmps70
  go_wp2_with fail
  go_quiet_grown ((go_at_call 39; exact Calls.grown_of (HD.out _)))
  clear k1 k2 k3 k4 k5 k6
  have hg := HG.out
  go_wp2
  go_ret
  refine ⟨?_, _, _, rfl⟩
  simp only [Ending.returned.injEq, Value.bool.injEq]
  first | exact hg | (rw [← hg]; rfl)
set_option maxHeartbeats 2000000 in
set_option maxRecDepth 100000 in
theorem find_any (w0 w : World) (r b : Nat) {at_ before behind : List Int} {st : List (Nat × Nat)} (hR : Row w0 w r b at_ before behind st) (hs : st.Pairwise gtS) (s : Nat × Nat) :
    Calls Try.prog 52 #[at0 r, .agg #[.int .i64 s.1, .int .i64 s.2]] w fun e w' => e = .returned (.int .i64 (idxS st s : Nat)) ∧ Below w.heap.size w w' := by
  obtain ⟨va, vb, vc, vs, hR⟩ := hR
  have hRW := hR
  have b2 : Below w.heap.size w ((w.alloc (.cells #[at0 r] 61)).alloc (.cells #[.int .i64 s.1, .int .i64 s.2] 78)) := ((Below.refl _ w).alloc (Nat.le_refl _) _).alloc (by simp) _
  obtain ⟨W, hW⟩ : ∃ W, W = (w.alloc (.cells #[at0 r] 61)).alloc (.cells #[.int .i64 s.1, .int .i64 s.2] 78) := ⟨_, rfl⟩
  have B1 : Blk W w.heap.size 61 #[at0 r] := by rw [hW]; exact (Blk.new w _ _).alloc _
  have B2 : Blk W (w.heap.size + 1) 78 #[.int .i64 s.1, .int .i64 s.2] := by
    rw [hW]
    have := Blk.new (w.alloc (.cells #[at0 r] 61)) 78 #[.int .i64 s.1, .int .i64 s.2]
    simpa using this
  rw [← hW] at b2
  have HW := Lib.hid hW
  have HB2 := Lib.hid b2
  have hR1 := hR.then b2
  obtain ⟨A, c, rfl⟩ := own_slice hR1.stR
  have g1 := B1.cell 0
  have g2 := B2.cell 0
  have g3 := B2.cell 1
  have g4 : W.cell? ⟨r, 4, none⟩ = some (.slice A st.length c) := by have := hR1.blk.cell 4; simpa using this
  simp only [List.getElem?_toArray, List.getElem?_cons_zero, List.getElem?_cons_succ] at g1 g2 g3
  have eg : ∀ args w, (callFunc 70 args).run Try.prog w = .ok (.enter 70 args) w := enters_of Try.func70 (by kernel_rfl) rfl
  have hS := Any.sort_Search Try.search 70 #[.pointer (some ⟨w.heap.size, 0, none⟩), .pointer (some ⟨w.heap.size + 1, 0, none⟩)] st.length (fun i => decide (¬ gtS (st.getD i (0, 0)) s)) W eg (by have := hR1.small.2.2.2; omega)
    (fun m os i hi => by
      have hx : st[i]? = some (st.getD i (0, 0)) := by rw [List.getD_eq_getElem?_getD, List.getElem?_eq_getElem hi]; rfl
      obtain ⟨ad, c', e1, _, e2, e3⟩ := own_step_at hR1.stR hx
      simp only [Value.slice.injEq, true_and] at e1
      obtain ⟨rfl, rfl⟩ := e1
      have key : ∀ {a : Addr} {v : Value}, W.cell? a = some v → (grow (W.drewN m) os).cell? a = some v := fun h => cell_grown (World.block_lt_of_cell? W _ h) h m os
      exact find1_any _ r w.heap.size (w.heap.size + 1) s _ ad st.length c i hi (key g1) (key g4) (key g2) (key g3) (key e2) (key e3))
    (fun a b hab hbn hp => by
      have hx : st[a]? = some (st.getD a (0, 0)) := by rw [List.getD_eq_getElem?_getD, List.getElem?_eq_getElem (by omega)]; rfl
      have hy : st[b]? = some (st.getD b (0, 0)) := by rw [List.getD_eq_getElem?_getD, List.getElem?_eq_getElem hbn]; rfl
      have h1 := idxS_at hs s hx
      have h2 := idxS_at hs s hy
      simp only [decide_eq_true_eq] at hp ⊢
      exact fun e => hp (h1.2 (by have := h2.1 e; omega)))
  change Calls Try.prog 69 _ _ _ at hS
  have hcount : ((List.range st.length).countP fun i => !(fun i => decide (¬ gtS (st.getD i (0, 0)) s)) i) = idxS st s := by
    unfold idxS
    have e : st = (List.range st.length).map fun i => st.getD i (0, 0) := by
      apply List.ext_getElem
      · simp
      · intro i h1 h2
        simp [List.getD_eq_getElem?_getD, h1]
    conv => rhs; rw [e]
    rw [List.countP_map]
    congr 1
    funext i
    simp
  rw [hcount] at hS
  have HS := Lib.hid hS
  obtain ⟨n, hn⟩ : ∃ n, n = st.length := ⟨_, rfl⟩
  rw [← hn] at g4 HS
  obtain ⟨I, hI⟩ : ∃ I, I = idxS st s := ⟨_, rfl⟩
  rw [← hI] at HS
  rw [← hI]
  rw [hW] at g1 g4
  clear hR hRW hR1 hS hcount hn hI hs B1 B2 hW b2 g2 g3 eg
  unfold at0 at g1 g4 HW ⊢
  go_enter Try.func52, Try.ntmps52
  go_wp2_with (go_at_call 69; rw [← HW.out]; refine HS.out.mono ?_; rintro e w' ⟨rfl, q, os, rfl⟩)
  go_ret
  exact ⟨rfl, below_then (below_drewN HB2.out q) (grow_below (W.drewN q) os) HB2.out.size⟩
end Go.Proofs.Ytimbimnbaoaboaa
namespace Go.Proofs.Ytimbimnbaoaboaa
open Go.RowKit Go.Maps Go.WideMaps

theorem run_copy_cellsK {P : Program} (w : World) (dT sT ty elem : TypeId) (i : TypeInfo) (k : Nat) (b o dLen dCap : Nat) (a : Addr) (sLen sCap m : Nat) (cs : List Value)
    (hu : P.underlying dT = some (.slice elem)) (hi : P.info? elem = some i) (hs : i.size = k) (hm : Nat.min sLen dLen = m) (hn : cs.length = m * k)
    (hsrc : ∀ j v, cs[j]? = some v → w.cell? (a.add j) = some v) (hc : ∀ j, j < cs.length → (w.cell? ⟨b, o + j, none⟩).isSome = true) (hf : ∀ j, j < cs.length → w.frozen? ⟨b, o + j, none⟩ = false) (h1 : ∀ v ∈ cs, v.oneCell' = true) :
    (Builtin.copy_ #[dT, sT] ty #[.slice (some ⟨b, o, none⟩) dLen dCap, .slice (some a) sLen sCap]).run P w = .ok (goInt m) (w.setCells b o cs) := by
  have hl := run_loadCells_list (P := P) w a cs hsrc
  have hst := run_storeCells_cells (P := P) b o cs 0 w (by simpa using hc) (by simpa using hf) h1
  simp [Builtin.copy_, run_underlying hu, Builtin.lenOf, Builtin.firstCells, sizeOf, typeInfo, hi, hs, hm, ← hn, hl, hst]
theorem run_clear_cells {P : Program} (w : World) (t e ty : TypeId) (z : Value) (ht : P.underlying t = some (.slice e)) (hv : ∀ w, (zeroValue e).run P w = .ok z w) (b o n c : Nat) (hn : 0 < n) (h1 : ∀ v ∈ (Builtin.zeroCells z.cells n).toList, v.oneCell' = true)
    (hc : ∀ j, j < n * z.cells.size → (w.cell? ⟨b, o + j, none⟩).isSome = true) (hf : ∀ j, j < n * z.cells.size → w.frozen? ⟨b, o + j, none⟩ = false) :
    (Builtin.clear_ #[t] ty #[.slice (some ⟨b, o, none⟩) n c]).run P w = .ok (.tuple #[]) (w.setCells b o (Builtin.zeroCells z.cells n).toList) := by
  have hl : (Builtin.zeroCells z.cells n).toList.length = n * z.cells.size := by simp [Builtin.zeroCells]
  have hst := run_storeCells_cells (P := P) b o (Builtin.zeroCells z.cells n).toList 0 w (by rw [hl]; simpa using hc) (by rw [hl]; simpa using hf) h1
  simp only [Nat.add_zero] at hst
  obtain ⟨m, rfl⟩ : ∃ m, n = m + 1 := ⟨n - 1, by omega⟩
  simp [Builtin.clear_, run_underlying ht, hv, hst]
/-- What stands in a list behind writing in place. -/
def seg (l : List Value) (o : Nat) (vs : List Value) : List Value := l.take o ++ vs ++ l.drop (o + vs.length)
theorem seg_len {l : List Value} {o : Nat} {vs : List Value} (h : o + vs.length ≤ l.length) : (seg l o vs).length = l.length := by
  unfold seg; simp; omega
theorem setCells_blk {g : Nat} {t : TypeId} : ∀ (vs : List Value) (o : Nat) (w : World) (cs : Array Value), Blk w g t cs → o + vs.length ≤ cs.size → Blk (w.setCells g o vs) g t (seg cs.toList o vs).toArray
  | [], o, w, cs, h, hl => by
    have : (seg cs.toList o []).toArray = cs := by unfold seg; simp
    rw [this]; exact h
  | v :: r, o, w, cs, h, hl => by
    simp only [List.length_cons] at hl
    have ih := setCells_blk r (o + 1) (w.setCell ⟨g, o, none⟩ v) (cs.setIfInBounds o v) (h.set_ o v) (by simp; omega)
    rw [World.setCells]
    have e : seg (cs.setIfInBounds o v).toList (o + 1) r = seg cs.toList o (v :: r) := by
      unfold seg
      have := list_seg_step cs.toList o v r (by simp; omega)
      simpa using this
    rw [← e]; exact ih
theorem setCells_heap (g : Nat) : ∀ (vs : List Value) (o : Nat) (w : World) (k : Nat), k ≠ g → (w.setCells g o vs).heap[k]? = w.heap[k]?
  | [], _, _, _, _ => rfl
  | v :: r, o, w, k, h => by rw [World.setCells, setCells_heap g r _ _ k h, heap_setCell_other _ _ _ h]
theorem setCells_rest (g : Nat) : ∀ (vs : List Value) (o : Nat) (w : World), (w.setCells g o vs).os = w.os ∧ (w.setCells g o vs).tape = w.tape ∧ (w.setCells g o vs).output = w.output ∧ (w.setCells g o vs).heap.size = w.heap.size
  | [], _, _ => ⟨rfl, rfl, rfl, rfl⟩
  | v :: r, o, w => by
    rw [World.setCells]
    obtain ⟨h1, h2, h3, h4⟩ := setCells_rest g r (o + 1) (w.setCell ⟨g, o, none⟩ v)
    exact ⟨h1, h2, h3, by rw [h4, size_setCell']⟩
theorem grown_setCells {w w' : World} {g : Nat} (h : w.grownBy w' (some g)) (o : Nat) (vs : List Value) : w.grownBy (w'.setCells g o vs) (some g) := by
  obtain ⟨h1, h2, h3, h4⟩ := setCells_rest g vs o w'
  exact ⟨h1.trans h.os, h2.trans h.tape, h3.trans h.output, by rw [h4]; exact h.size, fun k hk hne => by rw [setCells_heap g vs o w' k (fun e => hne (by rw [e]))]; exact h.block k hk hne⟩
theorem grown_new {w w' : World} {row : Option Nat} (h : w.grownBy w' row) {g : Nat} (hg : w.heap.size ≤ g) (o : Nat) (vs : List Value) : w.grownBy (w'.setCells g o vs) row := by
  obtain ⟨h1, h2, h3, h4⟩ := setCells_rest g vs o w'
  exact ⟨h1.trans h.os, h2.trans h.tape, h3.trans h.output, by rw [h4]; exact h.size, fun k hk hne => by rw [setCells_heap g vs o w' k (by omega)]; exact h.block k hk hne⟩
theorem grown_drew {w w' : World} {row : Option Nat} (h : w.grownBy w' row) : w.grownBy w'.drew row := ⟨h.os, h.tape, h.output, h.size, h.block⟩
theorem grown_refl (w : World) (row : Option Nat) : w.grownBy w row := ⟨rfl, rfl, rfl, Nat.le_refl _, fun _ _ _ => rfl⟩
theorem grown_alloc {w w' : World} {row : Option Nat} (h : w.grownBy w' row) (o : Obj) : w.grownBy (w'.alloc o) row :=
  ⟨h.os, h.tape, h.output, by have := h.size; simp; omega, fun k hk hne => by rw [Below.heap_alloc w' o k (by have := h.size; omega)]; exact h.block k hk hne⟩
/-- A row of one's own, by its block. -/
theorem ownsRow_of {w : World} {base g n cap : Nat} {e : TypeId} {size : Nat} {cs : Array Value} {xs : List Value} (h : Blk w g e cs) (hb : base ≤ g) (hn : n ≤ cap) (hc : cap ≤ maxLen) (hs : cs.size = cap * size) (hx : cs.toList.take (n * size) = xs) :
    w.ownsRow base e size (.slice (some ⟨g, 0, none⟩) n cap) n xs := by
  have hle : n * size ≤ cap * size := Nat.mul_le_mul_right _ hn
  refine ⟨?_, .inr ⟨g, cap, cs, rfl, hb, h, hn, hc, hs, hx⟩⟩
  rw [← hx]
  simp
  omega
theorem blk_isSome {w : World} {g : Nat} {t : TypeId} {cs : Array Value} (h : Blk w g t cs) {j : Nat} (hj : j < cs.size) : (w.cell? ⟨g, j, none⟩).isSome = true := by
  rw [h.cell j, Array.getElem?_eq_getElem hj]; rfl
theorem stepInfo : (Try.prog.info? 78).map (fun i => (i.zero, i.size, i.bytes)) = some (some (.agg #[.int .i64 0, .int .i64 0]), 2, 16) := by kernel_rfl
theorem stepZero (w : World) : (zeroValue 78).run Try.prog w = .ok (.agg #[.int .i64 0, .int .i64 0]) w := by kernel_rfl
theorem stV_one (st : List (Nat × Nat)) : ∀ u ∈ st.flatMap stV, u.oneCell' = true := by
  intro u hu
  obtain ⟨s, _, hs⟩ := List.mem_flatMap.1 hu
  simp [stV] at hs
  rcases hs with rfl | rfl <;> rfl
theorem stV_len (st : List (Nat × Nat)) : (st.flatMap stV).length = st.length * 2 := by
  induction st with
  | nil => rfl
  | cons s r ih => simp [stV, ih]; omega
end Go.Proofs.Ytimbimnbaoaboaa
namespace Go.Proofs.Ytimbimnbaoaboaa
open Go.RowKit Go.Maps Go.WideMaps
set_option linter.unusedSimpArgs false

theorem wpList_clear_run {P : Program} (w : World) {ops : Array Oper} {rest : List Oper} {o : Oper} {a : Act} {Q : Exit → Act → World → Prop} (hgd : o.guard = none) (d : Operand) (t : TypeId)
    (ho : o.op = .call { callee := .builtin .clear, args := #[d], argTypes := #[t] }) (v : Value) (hd : a.eval d = v) {v' : Value} {w' : World}
    (hr : (Builtin.clear_ #[t] o.type #[v]).run P w = .ok v' w') (h : wpList P ops Q rest (a.put o.dst v') w') : wpList P ops Q (o :: rest) a w :=
  wpList_plain hgd fun K hK => by
    unfold Oper.wp execOp
    simp only [ho, resolve, invoke, builtin, Sem.run_bind, Sem.run_pure, Result.andThen_ok, List.map_toArray, List.map_cons, List.map_nil, hd, hr]
    exact hK _ _ h
set_option maxHeartbeats 4000000 in
set_option maxRecDepth 100000 in
theorem del_any (w : World) (base : Nat) (v : Value) (n : Nat) (xs : List Value) (hown : w.ownsRow base 78 2 v n xs) (hone : ∀ u ∈ xs, u.oneCell' = true) (i : Nat) (hi : i < n) (hn : n ≤ 1048576) :
    Calls Try.prog 53 #[v, .int .i64 i, .int .i64 ((i : Int) + 1)] w fun e w' => ∃ v', e = .returned v' ∧ w'.ownsRow base 78 2 v' (n - 1) (xs.take (i * 2) ++ xs.drop (i * 2 + 2)) ∧ w.grownBy w' v.ownBlock ∧ v'.ownBlock = v.ownBlock := by
  obtain ⟨i0, hi0, hz0, hz1, hz2⟩ := info_parts stepInfo
  have hxl := hown.1
  rcases hown.2 with ⟨rfl, h0⟩ | ⟨g, cap, cur, rfl, hb, hblk, hnc, hcm, hcs, hx⟩
  · omega
  have HB : Blk w g 78 cur := hblk
  unfold maxLen at hcm
  obtain ⟨m, rfl⟩ : ∃ m, n = m + 1 := ⟨n - 1, by omega⟩
  rw [show m + 1 - 1 = m by omega]
  obtain ⟨news, hnw⟩ : ∃ l, l = xs.drop (i * 2 + 2) := ⟨_, rfl⟩
  rw [← hnw]
  have hnl : news.length = (m - i) * 2 := by rw [hnw, List.length_drop, hxl]; omega
  have hn1 : ∀ u ∈ news, u.oneCell' = true := fun u hu => hone u (List.mem_of_mem_drop (hnw ▸ hu))
  have hcell : ∀ (j : Nat) (u : Value), xs[j]? = some u → w.drew.cell? ⟨g, j, none⟩ = some u := fun j u hu => by
    have : (w.drew).cell? ⟨g, j, none⟩ = cur[j]? := Blk.cell (w := w.drew) hblk j
    rw [this, ← Array.getElem?_toList]
    rw [← hx, List.getElem?_take] at hu
    split at hu
    · exact hu
    · cases hu
  obtain ⟨A, hA, hnews⟩ : ∃ A : Addr, (if cap = i + 1 then some (⟨g, 0, none⟩ : Addr) else some ⟨g, (i + 1) * 2, none⟩) = some A ∧ Hid (∀ j u, news[j]? = some u → w.drew.cell? (A.add j) = some u) := by
    by_cases h : cap = i + 1
    · refine ⟨⟨g, 0, none⟩, by simp [h], fun j u hu => ?_⟩
      have := (List.getElem?_eq_some_iff.1 hu).1
      omega
    · refine ⟨⟨g, (i + 1) * 2, none⟩, by simp [h], fun j u hu => ?_⟩
      rw [Addr.add_lit]
      refine hcell _ u ?_
      rw [hnw, List.getElem?_drop] at hu
      rw [show (i + 1) * 2 + j = i * 2 + 2 + j by omega]
      exact hu
  have s1 : Hid (news.length = (m - i) * 2) := hnl
  have s2 : Hid (∀ u ∈ news, u.oneCell' = true) := hn1
  have s3 : Hid (∀ j, j < news.length → (w.drew.cell? ⟨g, 0 + i * 2 + j, none⟩).isSome = true ∧ w.drew.frozen? ⟨g, 0 + i * 2 + j, none⟩ = false) := fun j hj => by
    refine ⟨blk_isSome (w := w.drew) hblk (by omega), Blk.frozen (w := w.drew) hblk _⟩
  have hB1 : Blk (w.drew.setCells g (i * 2) news) g 78 (seg cur.toList (i * 2) news).toArray := setCells_blk news _ w.drew cur hblk (by omega)
  have hsl : (seg cur.toList (i * 2) news).length = cap * 2 := by rw [seg_len (by simp; omega)]; simp [hcs]
  obtain ⟨W1, hW1⟩ : ∃ W, W = w.drew.setCells g (i * 2) news := ⟨_, rfl⟩
  rw [← hW1] at hB1
  have hzc : (Value.agg #[.int .i64 0, .int .i64 0]).cells.size = 2 := rfl
  have hzl : (Builtin.zeroCells (Value.agg #[.int .i64 0, .int .i64 0]).cells 1).toList = [.int .i64 0, .int .i64 0] := by kernel_rfl
  have hclr : ∀ ty c, (Builtin.clear_ #[63] ty #[.slice (some ⟨g, m * 2, none⟩) 1 c]).run Try.prog W1 = .ok (.tuple #[]) (W1.setCells g (m * 2) [.int .i64 0, .int .i64 0]) := fun ty c => by
    have h := run_clear_cells (P := Try.prog) W1 63 78 ty _ Try.underlying63 stepZero g (m * 2) 1 c (by omega) (by rw [hzl]; intro u hu; simp at hu; subst hu; rfl)
      (fun j hj => blk_isSome hB1 (by simp only [List.size_toArray, hsl]; rw [hzc] at hj; omega)) (fun j hj => hB1.frozen _)
    rw [hzl] at h
    exact h
  have hB2 : Blk (W1.setCells g (m * 2) [.int .i64 0, .int .i64 0]) g 78 (seg (seg cur.toList (i * 2) news) (m * 2) [.int .i64 0, .int .i64 0]).toArray :=
    setCells_blk _ _ W1 _ hB1 (by simp only [List.size_toArray, hsl]; simp; omega)
  have hG : w.grownBy (W1.setCells g (m * 2) [.int .i64 0, .int .i64 0]) (some g) := by
    rw [hW1]
    exact grown_setCells (grown_setCells (grown_drew (grown_refl w _)) _ _) _ _
  have hfin : (W1.setCells g (m * 2) [.int .i64 0, .int .i64 0]).ownsRow base 78 2 (.slice (some ⟨g, 0, none⟩) m cap) m (xs.take (i * 2) ++ news) := by
    refine ownsRow_of hB2 hb (by omega) (by unfold maxLen; omega) ?_ ?_
    · simp only [List.size_toArray]
      rw [seg_len (by rw [hsl]; simp; omega), hsl]
    · have hxt : xs.take (i * 2) = cur.toList.take (i * 2) := by rw [← hx, List.take_take]; congr 1; omega
      have hcl : cur.toList.length = cap * 2 := by simp [hcs]
      rw [hxt]
      unfold seg
      have e1 : (cur.toList.take (i * 2)).length = i * 2 := by simp; omega
      rw [List.take_append_of_le_length (by simp; omega), List.take_append_of_le_length (by simp; omega)]
      rw [List.take_take, Nat.min_self, List.take_append_of_le_length (by simp; omega)]
      rw [List.take_of_length_le (by simp; omega)]
  have HF := Lib.hid hfin
  have HG := Lib.hid hG
  have HC := Lib.hid hclr
  have HW := Lib.hid hW1
  have hmi : i + (m - i) = m := by omega
  have hmi2 : m + 1 - (i + 1) = m - i := by omega
  have hi0' : (0 : Int) ≤ (i : Int) := by omega
  have hp0 : (0 : Int) ≤ (i : Int) + 1 := by omega
  have hp1 : (i : Int) + 1 ≤ (m : Int) + 1 := by omega
  have hp2 : ((i : Int) + 1).toNat = i + 1 := by omega
  have hin : i ≤ cap := by omega
  have hne : ((i : Int) == (i : Int) + 1) = false := by simp; omega
  clear hblk hown hx hcell hnw hnl hn1 hB1 hB2 hG hfin hclr hW1 hxl hone hcs hsl hzc hzl
  go_enter Try.func53, Try.ntmps53
  go_wp2_with fail
  go_region_law (refine step_append_room rfl (.tmp 22) (.tmp 25) 63 rfl 78 i0 2 Try.underlying63 hi0 hz1 g 0 i cap (by simp [Act.eval, Act.put]) A (m - i) (cap - (i + 1)) news (by simp [Act.eval, Act.put, hmi2]) s1.out hnews.out s2.out (by omega) s3.out ?_)
  rw [← HW.out]
  clear HW hA s1 s2 s3 hnews
  go_wp2_with (refine wpList_clear_run _ rfl (.tmp 31) 63 rfl _ rfl (HC.out _ _) ?_)
  go_ret
  exact ⟨_, rfl, HF.out, HG.out, rfl⟩
end Go.Proofs.Ytimbimnbaoaboaa
namespace Go.Proofs.Ytimbimnbaoaboaa
open Go.RowKit Go.Maps Go.WideMaps Go.Sort
set_option linter.unusedSimpArgs false

theorem dwn_swo : SWO (ltOf dwn) where
  irrefl := fun x => by
    simp only [ltOf, decide_eq_false_iff_not]
    exact fun h => gtS_irr x ((dwn_neg x x).1 h)
  trans := fun x y z h1 h2 => by
    simp only [ltOf, decide_eq_true_eq] at *
    exact (dwn_neg x z).2 (gtS_trans ((dwn_neg x y).1 h1) ((dwn_neg y z).1 h2))
  ntrans := fun x y z h1 h2 => by
    simp only [ltOf, decide_eq_false_iff_not] at *
    intro h3
    have h3 := (dwn_neg x z).1 h3
    have h1 : ¬ gtS x y := fun e => h1 ((dwn_neg x y).2 e)
    have h2 : ¬ gtS y z := fun e => h2 ((dwn_neg y z).2 e)
    unfold gtS at *
    omega
theorem flat_get (st : List (Nat × Nat)) {t : Nat} (ht : t < st.length * 2) : (st.flatMap stV)[t]? = some ((stV st.toArray[t / 2]!)[t % 2]!) := by
  have hi : t / 2 < st.length := by omega
  have hx : st[t / 2]? = some st[t / 2] := List.getElem?_eq_getElem hi
  have e1 : st.toArray[t / 2]! = st[t / 2] := by rw [getElem!_pos _ _ (by simpa using hi)]; simp
  rw [e1]
  have h := fun (u : Value) (hu : (stV st[t / 2])[t % 2]? = some u) => flat_at (f := stV) (s := 2) (fun _ => rfl) st (t / 2) (t % 2) st[t / 2] u hx hu
  rw [show t / 2 * 2 + t % 2 = t by omega] at h
  refine h _ ?_
  rcases Nat.mod_two_eq_zero_or_one t with e | e <;> rw [e] <;> rfl
theorem flat_size (st : List (Nat × Nat)) : (flatK stV 2 st.toArray).size = st.length * 2 := by simp
def SortOut (w : World) (base : Nat) (v : Value) (st : List (Nat × Nat)) (e : Ending) (w' : World) : Prop :=
  e = .returned (.tuple #[]) ∧ ∃ st' : List (Nat × Nat), st'.Perm st ∧ (∀ (i j : Nat) (x y : Nat × Nat), i < j → st'[i]? = some x → st'[j]? = some y → ¬ gtS y x) ∧ w'.ownsRow base 78 2 v st'.length (st'.flatMap stV) ∧ w.grownBy w' v.ownBlock
theorem sort_any (w : World) (base : Nat) (v : Value) (st : List (Nat × Nat)) (hown : w.ownsRow base 78 2 v st.length (st.flatMap stV)) (hsm : st.length ≤ 1048576) :
    Calls Try.prog 38 #[v, .func (.func 39) #[] #[]] w (SortOut w base v st) := by
  rcases hown.2 with ⟨rfl, h0⟩ | ⟨g, cap, cur, rfl, hb, hblk, hnc, hcm, hcs, hx⟩
  · have h := AnyF.slices_SortFunc_none Try.sortStep none 0 (.func (.func 39) #[] #[]) w
    have e : st = [] := List.eq_nil_of_length_eq_zero h0
    subst e
    refine Calls.mono (f := 38) h ?_
    rintro e w' ⟨rfl, rfl⟩
    exact ⟨rfl, [], .refl _, fun i j x y _ h => by simp at h, hown, grown_refl _ _⟩
  · have eg : ∀ args w, (callFunc 39 args).run Try.prog w = .ok (.enter 39 args) w := enters_of Try.func39 (by kernel_rfl) rfl
    have hH : HoldsK stV 2 w g 0 st.toArray := fun t ht => by
      rw [flat_size] at ht
      have h1 := flat_get st ht
      have h2 := hown.cells (g := g) rfl t _ h1
      rw [addr_add] at h2
      refine ⟨?_, Blk.frozen hblk _⟩
      rw [Nat.zero_add, h2, get_flatK _ _ _ _ (by simpa using ht)]
      rfl
    have h := AnyQ.slices_SortFunc Try.sortStep 2 Try.isAgg78 Try.sizeOf78 stV (fun _ => rfl) (fun x u hu => by simp [stV] at hu; rcases hu with rfl | rfl <;> rfl) dwn dwn_swo 39 #[] g 0 cap st.toArray w eg (fun m os dk _ x y => downwards_any _ x y) hH (Blk.lt hblk) (by simp; omega)
    simp only [List.size_toArray] at h
    refine Calls.mono (f := 38) h ?_
    rintro e w' ⟨rfl, d', n, os, hp, hs, rfl⟩
    have hsz : d'.size = st.length := by simpa using hp.1
    have hperm : d'.toList.Perm st := by
      have := hp.2.2
      have e : d'.toList.take st.length = d'.toList := List.take_of_length_le (by simp [hsz])
      simp [hsz] at this
      rw [e] at this
      exact this
    have hB : Blk (sortWorldK stV 2 w g 0 n d' os) g 78 (putCells id 0 (flatK stV 2 d') cur) := by
      unfold sortWorldK putRowK putRow
      unfold Blk
      rw [heap_grow_old _ _ (by have := Blk.lt hblk; simpa [mapBlock] using this)]
      simp [mapBlock, Array.getElem?_modify, hblk, onCells]
    have hd : d' = d'.toList.toArray := by simp
    have hl : d'.toList.length = st.length := by simpa using hsz
    refine ⟨rfl, d'.toList, hperm, ?_, ?_, ?_⟩
    · intro i j x y hij hxi hyj hg
      have hj := (List.getElem?_eq_some_iff.1 hyj)
      have hi := (List.getElem?_eq_some_iff.1 hxi)
      have := hs i j (Nat.zero_le _) hij (by have := hj.1; simp at this; simp; omega)
      rw [getElem!_pos d' j (by simpa using hj.1), getElem!_pos d' i (by simpa using hi.1)] at this
      have e1 : d'[j]'(by simpa using hj.1) = y := by have := hj.2; simpa using this
      have e2 : d'[i]'(by simpa using hi.1) = x := by have := hi.2; simpa using this
      rw [e1, e2] at this
      simp only [ltOf, decide_eq_false_iff_not] at this
      exact this ((dwn_neg y x).2 hg)
    · rw [hl]
      refine ownsRow_of hB hb hnc hcm (by simp [putCells, hcs]) ?_
      apply List.ext_getElem?
      intro t
      rw [List.getElem?_take]
      by_cases ht : t < st.length * 2
      · rw [if_pos ht, flat_get _ (by rw [hl]; exact ht)]
        have htc : t < cur.size := by omega
        simp only [putCells, Array.getElem?_toList, Array.getElem?_mapIdx]
        rw [Array.getElem?_eq_getElem htc]
        simp only [Option.map_some, Nat.zero_le, true_and, Nat.zero_add, size_flatK, hsz, ht, if_true, Nat.sub_zero, id, Option.some.injEq]
        rw [get_flatK _ _ _ _ (by rw [hsz]; exact ht), ← hd]
      · rw [if_neg ht, List.getElem?_eq_none (by rw [stV_len, hl]; omega)]
    · refine ⟨rfl, rfl, rfl, by simp [sortWorldK, putRowK], fun k hk hne => ?_⟩
      have hne' : k ≠ g := fun e => hne (by rw [e]; rfl)
      unfold sortWorldK putRowK putRow
      rw [heap_grow_old _ _ (by simpa [mapBlock] using hk)]
      simp [mapBlock, Array.getElem?_modify, Ne.symm hne']
end Go.Proofs.Ytimbimnbaoaboaa
