import Derived.Test.YthcjikpabpgpfaaGreatZp0
import Derived.Test.YthcjikpabpgpfaaGreatZp19
import Derived.Test.YthcjikpabpgpfaaGreatZp3
import Derived.Test.YthcjikpabpgpfaaGreatZp22
import Derived.Lib.Overlaps
import Derived.Lib.AppendZerosOnto
import Derived.Deep.AppendLies
import Derived.Laws.Externs
import Derived.Maps.AppendAt
import Derived.Deep.RegionHeld3
import Derived.Test.YthcjikpabpgpfaaGreatZp2
set_option linter.unusedSimpArgs false
set_option maxHeartbeats 16000000
set_option maxRecDepth 100000
namespace Go.Proofs.YthcjikpabpgpfaaGreat
open Go.RowKit Go.Maps Go.WideMaps
theorem wpList_copy_known {P : Program} (w : World) {ops : Array Oper} {rest : List Oper} {o : Oper} {a : Act} {Q : Exit → Act → World → Prop} (hgd : o.guard = none) (d s : Operand) (t t' : TypeId)
  (ho : o.op = .call { callee := .builtin .copy, args := #[d, s], argTypes := #[t, t'] }) (v u : Value) (hd : a.eval d = v) (hs : a.eval s = u) {v' : Value} {w' : World}
  (hr : (Builtin.copy_ #[t, t'] o.type #[v, u]).run P w = .ok v' w') (h : wpList P ops Q rest (a.put o.dst v') w') : wpList P ops Q (o :: rest) a w :=
 wpList_plain hgd fun K hK => by
  unfold Oper.wp execOp
  simp only [ho, resolve, invoke, builtin, Sem.run_bind, Sem.run_pure, Result.andThen_ok, List.map_toArray, List.map_cons, List.map_nil, hd, hs, hr]
  exact hK _ _ h
theorem step_copy_known {P : Program} {ops : Array Oper} {o : Oper} {a : Act} {w : World} {K : Act → World → Prop} {Q : Exit → Act → World → Prop} {E : Prop}
  (hg : o.guard = none) (d x : Operand) (dT sT : TypeId) (hop : o.op = Op.call { callee := Callee.builtin Builtin.copy, args := #[d, x], argTypes := #[dT, sT] })
  (v u : Value) (hd : a.eval d = v) (hx : a.eval x = u) {v' : Value} {w' : World} (hr : (Builtin.copy_ #[dT, sT] o.type #[v, u]).run P w = .ok v' w') (hK : K (a.put o.dst v') w') :
  if Region.wanted o (yielded ops a.tmps) = true then Oper.wp P o a w K Q else E := by
 have hw : Region.wanted o (yielded ops a.tmps) = true := by simp [Region.wanted, hg]
 rw [if_pos hw]
 unfold Oper.wp
 simp [execOp, hop, resolve, invoke, builtin, hd, hx, hr, Result.andThen]
 exact hK
def InsOut (w : World) (base : Nat) (v : Value) (n : Nat) (ys : List Value) (e : Ending) (w' : World) : Prop :=
 ∃ v', e = .returned v' ∧ w'.ownsRow base 201 2 v' (n + 1) ys ∧ w.grownBy w' v.ownBlock ∧ (v'.ownBlock = v.ownBlock ∨ v'.ownBlock = some w.heap.size)
theorem ins_end (w : World) (base : Nat) (v : Value) (n : Nat) (xs : List Value) (hown : w.ownsRow base 201 2 v n xs) (hn : n ≤ 1048576) (vb : Nat) (x y : Value) (hvb : Blk w vb 201 #[x, y])
  (h1x : x.oneCell' = true) (h1y : y.oneCell' = true) (hbase : base ≤ w.heap.size) :
  Calls Tryz.prog 159 #[v, .int .i64 n, .slice (some ⟨vb, 0, none⟩) 1 1] w (InsOut w base v n (xs ++ [x, y])) := by
 obtain ⟨i0, hi0, hz0, hz1, hz2⟩ := info_parts stepInfo
 obtain ⟨A, c, rfl⟩ := own_slice hown
 have hnc : n ≤ c := by
  rcases hown.2 with ⟨h1, h2⟩ | ⟨g, cap, cur, h1, h2, h3, h4, _⟩
  ·omega
  ·simp only [Value.slice.injEq, true_and] at h1; omega
 have hnews : ∀ (j : Nat) (u : Value), [x, y][j]? = some u → w.cell? ((⟨vb, 0, none⟩ : Addr).add j) = some u := fun j u hu => by
  rw [addr_add, hvb.cell j]
  simpa using hu
 have hone : ∀ u ∈ [x, y], u.oneCell' = true := fun u hu => by
  simp at hu
  rcases hu with rfl | rfl
  ·exact h1x
  ·exact h1y
 have HN := Lib.hid hnews
 have HO := Lib.hid hown
 have H1 := Lib.hid hone
 clear hown hvb hnews hone h1x h1y
 have hz : ((1 : Int) == 0) = false := by decide
 by_cases hcn : c = n
 ·subst hcn
  have he : ((c : Int) == (c : Int)) = true := by simp
  go_enter Tryz.func159, Tryz.ntmps159
  go_wp2_with (at_builtin; refine wpList_append_lies _ rfl (.tmp 23) (.tmp 24) 128 rfl base 201 i0 _ 2 16 Tryz.underlying128 hi0 hz0 hz1 hz2 rfl (by decide) (.slice A c c) c xs rfl HO.out ⟨vb, 0, none⟩ 1 1 [x, y] rfl rfl HN.out H1.out (by omega) (by unfold maxLen; omega) (by omega) hbase _ rfl ?_; intro g cap w2 hown' hg2 hloc hlt2; have HOWN := Lib.hid hown'; have HG2 := Lib.hid hg2; have HLOC := Lib.hid hloc; clear hown' hg2 hloc hlt2)
  go_ret
  exact ⟨_, rfl, HOWN.out, HG2.out, HLOC.out.imp (fun h => Eq.symm h) (fun h => by rw [h]; rfl)⟩
 ·skip
  have he : ((n : Int) == (n : Int)) = true := by simp
  go_enter Tryz.func159, Tryz.ntmps159
  go_wp2_with (at_builtin; refine wpList_append_lies _ rfl (.tmp 23) (.tmp 24) 128 rfl base 201 i0 _ 2 16 Tryz.underlying128 hi0 hz0 hz1 hz2 rfl (by decide) (.slice A n c) n xs rfl HO.out ⟨vb, 0, none⟩ 1 1 [x, y] rfl rfl HN.out H1.out (by omega) (by unfold maxLen; omega) (by omega) hbase _ rfl ?_; intro g cap w2 hown' hg2 hloc hlt2; have HOWN := Lib.hid hown'; have HG2 := Lib.hid hg2; have HLOC := Lib.hid hloc; clear hown' hg2 hloc hlt2)
  go_ret
  exact ⟨_, rfl, HOWN.out, HG2.out, HLOC.out.imp (fun h => Eq.symm h) (fun h => by rw [h]; rfl)⟩
theorem ins_shift (w : World) (base g cap : Nat) (cur : Array Value) (n : Nat) (xs : List Value) (hblk : Blk w g 201 cur) (hb : base ≤ g) (hcm : cap ≤ maxLen) (hcs : cur.size = cap * 2) (hx : cur.toList.take (n * 2) = xs) (hone : ∀ u ∈ xs, u.oneCell' = true)
  (i : Nat) (hi : i < n) (hn : n ≤ 1048576) (hroom : n + 1 ≤ cap) (vb : Nat) (x y : Value) (hvb : Blk w vb 201 #[x, y]) (hne : vb ≠ g) (h1x : x.oneCell' = true) (h1y : y.oneCell' = true) :
  Calls Tryz.prog 159 #[.slice (some ⟨g, 0, none⟩) n cap, .int .i64 i, .slice (some ⟨vb, 0, none⟩) 1 1] w (InsOut w base (.slice (some ⟨g, 0, none⟩) n cap) n (xs.take (i * 2) ++ [x, y] ++ xs.drop (i * 2))) := by
 obtain ⟨i0, hi0, hz0, hz1, hz2⟩ := info_parts stepInfo
 have hxl : xs.length = n * 2 := by rw [← hx]; simp; omega
 have hcl : cur.toList.length = cap * 2 := by simp [hcs]
 obtain ⟨D, hD⟩ : ∃ D, D = xs.drop (i * 2) := ⟨_, rfl⟩
 rw [← hD]
 have hDl : D.length = (n - i) * 2 := by rw [hD, List.length_drop, hxl]; omega
 have hD1 : ∀ u ∈ D, u.oneCell' = true := fun u hu => hone u (List.mem_of_mem_drop (hD ▸ hu))
 have hxy : ∀ u ∈ [x, y], u.oneCell' = true := fun u hu => by
  simp at hu
  rcases hu with rfl | rfl
  ·exact h1x
  ·exact h1y
 have hcell : ∀ (j : Nat) (u : Value), xs[j]? = some u → w.drew.cell? ⟨g, j, none⟩ = some u := fun j u hu => by
  have : (w.drew).cell? ⟨g, j, none⟩ = cur[j]? := Blk.cell (w := w.drew) hblk j
  rw [this, ← Array.getElem?_toList]
  rw [← hx, List.getElem?_take] at hu
  split at hu
  ·exact hu
  ·cases hu
 have hov : ∀ lb cb, (callFunc 189 #[.slice (some ⟨vb, 0, none⟩) 1 1, .slice (some ⟨g, (i + 1) * 2, none⟩) lb cb]).run Tryz.prog w = .ok (.value (.bool false)) w := fun lb cb => by
  rw [run_callFunc_extern Tryz.func189 (by kernel_rfl) (by kernel_rfl) (by kernel_rfl) (e := Extern.SlicesOverlaps.overlaps #[128, 128] #[4]) (by kernel_rfl),
   Lib.run_overlaps_apart w 128 4 201 Tryz.underlying128 2 Tryz.sizeOf201 ⟨vb, 0, none⟩ ⟨g, (i + 1) * 2, none⟩ 1 1 lb cb hne 201 201 2 cur.size (by unfold Blk at hvb; simp [World.shape?, hvb]) (by unfold Blk at hblk; simp [World.shape?, hblk]) (by omega) (hvb.frozen 0) (hvb.frozen 2)]
  rfl
 have hcp1 : ∀ ty dc sc, (Builtin.copy_ #[128, 128] ty #[.slice (some ⟨g, (i + 1) * 2, none⟩) (n - i) dc, .slice (some ⟨g, i * 2, none⟩) (n + 1 - i) sc]).run Tryz.prog w.drew = .ok (goInt (n - i : Nat)) (w.drew.setCells g ((i + 1) * 2) D) := fun ty dc sc =>
  run_copy_cellsK w.drew _ _ ty 201 i0 2 g ((i + 1) * 2) (n - i) dc ⟨g, i * 2, none⟩ (n + 1 - i) sc (n - i) D Tryz.underlying128 hi0 hz1 (by simp only [Nat.min_def]; split <;> omega) hDl
   (fun j u hj => by rw [Addr.add_lit]; exact hcell (i * 2 + j) u (by rw [hD, List.getElem?_drop] at hj; exact hj))
   (fun j hj => blk_isSome (w := w.drew) hblk (by omega)) (fun j hj => Blk.frozen (w := w.drew) hblk _) hD1
 obtain ⟨W1, hW1⟩ : ∃ W1, W1 = w.drew.setCells g ((i + 1) * 2) D := ⟨_, rfl⟩
 have hB1 : Blk W1 g 201 (seg cur.toList ((i + 1) * 2) D).toArray := by rw [hW1]; exact setCells_blk D _ w.drew cur hblk (by omega)
 have hs1 : (seg cur.toList ((i + 1) * 2) D).length = cap * 2 := by rw [seg_len (by omega)]; exact hcl
 have hv1 : Blk W1 vb 201 #[x, y] := by rw [hW1]; exact (setCells_heap g D _ w.drew vb hne).trans hvb
 have hcp2 : ∀ ty dc, (Builtin.copy_ #[128, 128] ty #[.slice (some ⟨g, i * 2, none⟩) (n + 1 - i) dc, .slice (some ⟨vb, 0, none⟩) 1 1]).run Tryz.prog W1 = .ok (goInt (1 : Nat)) (W1.setCells g (i * 2) [x, y]) := fun ty dc =>
  run_copy_cellsK W1 _ _ ty 201 i0 2 g (i * 2) (n + 1 - i) dc ⟨vb, 0, none⟩ 1 1 1 [x, y] Tryz.underlying128 hi0 hz1 (by simp only [Nat.min_def]; split <;> omega) rfl
   (fun j u hj => by rw [addr_add, hv1.cell j]; simpa using hj)
   (fun j hj => blk_isSome hB1 (by simp only [List.size_toArray, hs1]; simp at hj; omega)) (fun j hj => hB1.frozen _) hxy
 have hB2 : Blk (W1.setCells g (i * 2) [x, y]) g 201 (seg (seg cur.toList ((i + 1) * 2) D) (i * 2) [x, y]).toArray := setCells_blk _ _ W1 _ hB1 (by simp only [List.size_toArray, hs1]; simp; omega)
 have hG : w.grownBy (W1.setCells g (i * 2) [x, y]) (some g) := by
  rw [hW1]
  exact grown_setCells (grown_setCells (grown_drew (grown_refl w _)) _ _) _ _
 have hfin : (W1.setCells g (i * 2) [x, y]).ownsRow base 201 2 (.slice (some ⟨g, 0, none⟩) (n + 1) cap) (n + 1) (xs.take (i * 2) ++ [x, y] ++ D) := by
  refine ownsRow_of hB2 hb (by omega) hcm ?_ ?_
  ·simp only [List.size_toArray]
   rw [seg_len (by rw [hs1]; simp; omega), hs1]
  ·have hxt : xs.take (i * 2) = cur.toList.take (i * 2) := by rw [← hx, List.take_take]; congr 1; omega
   rw [hxt]
   show (seg (seg cur.toList ((i + 1) * 2) D) (i * 2) [x, y]).take ((n + 1) * 2) = _
   unfold seg
   have e1 : (cur.toList.take ((i + 1) * 2)).length = (i + 1) * 2 := by simp; omega
   have e2 : (cur.toList.take (i * 2)).length = i * 2 := by simp; omega
   have e3 : (cur.toList.take ((i + 1) * 2) ++ D ++ cur.toList.drop ((i + 1) * 2 + D.length)).take (i * 2) = cur.toList.take (i * 2) := by
    rw [List.append_assoc, List.take_append_of_le_length (by omega), List.take_take, Nat.min_eq_left (by omega)]
   have e4 : (cur.toList.take ((i + 1) * 2) ++ D ++ cur.toList.drop ((i + 1) * 2 + D.length)).drop (i * 2 + [x, y].length) = D ++ cur.toList.drop ((i + 1) * 2 + D.length) := by
    rw [List.append_assoc]
    exact List.drop_left' (by rw [e1]; simp; omega)
   rw [e3, e4, ← List.append_assoc]
   rw [List.take_append_of_le_length (by simp; omega)]
   rw [List.take_of_length_le (by simp; omega)]
 obtain ⟨YS, hYS⟩ : ∃ YS, YS = xs.take (i * 2) ++ [x, y] ++ D := ⟨_, rfl⟩
 rw [← hYS] at hfin ⊢
 have HF := Lib.hid hfin
 have HG := Lib.hid hG
 have HC1 := Lib.hid hcp1
 have HC2 := Lib.hid hcp2
 have HW := Lib.hid hW1
 unfold maxLen at hcm
 have hz : ((1 : Int) == 0) = false := by decide
 have hin : ((i : Int) == (n : Int)) = false := by simp; omega
 have hw0 : (0 : Int) ≤ (i : Int) := by omega
 have hle : (i : Int) ≤ (n : Int) := by omega
 have hle2 : (i : Int) ≤ (n : Int) + 1 := by omega
 have hq1 : IntKind.i64.wrap ((n : Int) + 1) = (n : Int) + 1 := by rw [IntKind.wrap_i64]; omega
 have hq2 : IntKind.i64.wrap ((i : Int) + 1) = (i : Int) + 1 := by rw [IntKind.wrap_i64]; omega
 have hq3 : ((i : Int) + 1).toNat = i + 1 := by omega
 have hq4 : ((n : Int) + 1).toNat = n + 1 := by omega
 have hq5 : (0 : Int) ≤ (i : Int) + 1 := by omega
 have hq6 : (0 : Int) ≤ (n : Int) + 1 := by omega
 have hq7 : (i : Int) + 1 ≤ (n : Int) + 1 := by omega
 have hq8 : (n : Int) + 1 ≤ (cap : Int) := by omega
 have hq9 : ¬ ((cap : Int) < (n : Int) + 1) := by omega
 have hc1 : ¬ (cap = i) := by omega
 have hc2 : ¬ (cap = i + 1) := by omega
 have hni : n + 1 - (i + 1) = n - i := by omega
 clear hblk hx hcell hD hDl hD1 hB1 hs1 hv1 hB2 hG hfin hcp1 hcp2 hW1 hxl hcl hone hcs hxy hvb hYS
 go_enter Tryz.func159, Tryz.ntmps159
 go_wp2_with (simp only [hov])
 go_region_law (refine step_copy_known rfl (.tmp 73) (.tmp 76) 128 128 rfl (.slice (some ⟨g, (i + 1) * 2, none⟩) (n - i) (cap - (i + 1))) (.slice (some ⟨g, i * 2, none⟩) (n + 1 - i) (cap - i)) (by simp [Act.eval, Act.put, hni]) (by simp [Act.eval, Act.put]) (HC1.out 3 _ _) ?_)
 rw [← HW.out]
 go_wp2_with (refine wpList_copy_known _ rfl (.tmp 80) (.tmp 81) 128 128 rfl _ _ rfl rfl (HC2.out _ _) ?_)
 go_ret
 exact ⟨_, rfl, HF.out, HG.out, .inl rfl⟩
theorem ins_grow (w : World) (base g cap : Nat) (cur : Array Value) (n : Nat) (xs : List Value) (hblk : Blk w g 201 cur) (hbase : base ≤ w.heap.size) (hcs : cur.size = cap * 2) (hx : cur.toList.take (n * 2) = xs) (hone : ∀ u ∈ xs, u.oneCell' = true)
  (i : Nat) (hi : i < n) (hn : n ≤ 1048576) (hnc : n ≤ cap) (hroom : cap < n + 1) (vb : Nat) (x y : Value) (hvb : Blk w vb 201 #[x, y]) (h1x : x.oneCell' = true) (h1y : y.oneCell' = true) :
  Calls Tryz.prog 159 #[.slice (some ⟨g, 0, none⟩) n cap, .int .i64 i, .slice (some ⟨vb, 0, none⟩) 1 1] w (InsOut w base (.slice (some ⟨g, 0, none⟩) n cap) n (xs.take (i * 2) ++ [x, y] ++ xs.drop (i * 2))) := by
 obtain ⟨i0, hi0, hz0, hz1, hz2⟩ := info_parts stepInfo
 obtain rfl : cap = n := by omega
 have hxl : xs.length = cap * 2 := by rw [← hx]; simp; omega
 have hcl : cur.toList.length = cap * 2 := by simp [hcs]
 obtain ⟨D, hD⟩ : ∃ D, D = xs.drop (i * 2) := ⟨_, rfl⟩
 obtain ⟨T, hT⟩ : ∃ T, T = xs.take (i * 2) := ⟨_, rfl⟩
 rw [← hD, ← hT]
 have hDl : D.length = (cap - i) * 2 := by rw [hD, List.length_drop, hxl]; omega
 have hTl : T.length = i * 2 := by rw [hT, List.length_take, hxl]; omega
 have hD1 : ∀ u ∈ D, u.oneCell' = true := fun u hu => hone u (List.mem_of_mem_drop (hD ▸ hu))
 have hxy : ∀ u ∈ [x, y], u.oneCell' = true := fun u hu => by
  simp at hu
  rcases hu with rfl | rfl
  ·exact h1x
  ·exact h1y
 have hcell : ∀ (j : Nat) (u : Value), xs[j]? = some u → w.cell? ⟨g, j, none⟩ = some u := fun j u hu => by
  rw [hblk.cell j, ← Array.getElem?_toList]
  rw [← hx, List.getElem?_take] at hu
  split at hu
  ·exact hu
  ·cases hu
 have hold : (Builtin.firstCells i0.size i (.slice (some ⟨g, 0, none⟩) i cap)).run Tryz.prog w.drew = .ok T.toArray w.drew := by
  rw [hz1]
  exact run_firstCells_some w.drew 2 i ⟨g, 0, none⟩ i cap T hTl (fun j u hj => by
   rw [Addr.add_lit]
   rw [hT, List.getElem?_take] at hj
   split at hj
   ·have := hcell j u hj
    simpa using this
   ·cases hj)
 obtain ⟨G, hG⟩ : ∃ G, G = grownCap w (cap + 1) cap 201 := ⟨_, rfl⟩
 obtain ⟨ROW, hROW⟩ : ∃ ROW : Array Value, ROW = T.toArray ++ Builtin.zeroCells (Value.agg #[.int .i64 0, .int .i64 0]).cells (cap + 1 - i) ++ Builtin.zeroCells (Value.agg #[.int .i64 0, .int .i64 0]).cells (G - (cap + 1)) := ⟨_, rfl⟩
 have hGn : cap + 1 ≤ G := by rw [hG]; exact grownCap_ge w _ _ _
 have hG63 : G ≤ maxLen := by
  have := grownCap_le_maxLen w (cap + 1) cap 201 (by unfold maxLen; omega)
  rw [← hG] at this
  exact this
 have hzz : (Value.agg #[.int .i64 0, .int .i64 0]).cells.size = 2 := rfl
 have hRl : ROW.size = G * 2 := by
  rw [hROW]
  simp only [Array.size_append, List.size_toArray, hTl, Builtin.zeroCells, Array.size_map, Array.size_range, hzz]
  omega
 have hkk : (cap : Int) + 1 - (i : Int) = ((cap + 1 - i : Nat) : Int) := by omega
 have hik : i + (cap + 1 - i) = cap + 1 := by omega
 have hrz : ∀ ty, (Builtin.append_ #[128, 3] ty #[.slice (some ⟨g, 0, none⟩) i cap, .int .i64 ((cap : Int) + 1 - (i : Int))]).run Tryz.prog w =
   .ok (.slice (some ⟨w.heap.size, 0, none⟩) (cap + 1) G) (w.drew.alloc (.cells ROW 201)) := fun ty => by
  have h := Lib.run_append_grow_zeros w 128 3 ty 201 i0 _ .i64 .i64 Tryz.underlying128 Tryz.underlying3 hi0 hz0 (some ⟨g, 0, none⟩) i cap T hold (cap + 1 - i) (by omega) (by omega) (by omega) (by omega) (by rw [hz2]; omega) (by rw [hz2, hik]; exact growslice_fits (by omega) (by omega))
  rw [hik, ← hG, ← hROW] at h
  rw [hkk]
  exact h
 obtain ⟨W0, hW0⟩ : ∃ W0, W0 = w.drew.alloc (.cells ROW 201) := ⟨_, rfl⟩
 have hB0 : Blk W0 w.heap.size 201 ROW := by rw [hW0]; exact Blk.new w.drew _ _
 have hv0 : Blk W0 vb 201 #[x, y] := by rw [hW0]; exact Blk.alloc (w := w.drew) hvb _
 have hg0 : Blk W0 g 201 cur := by rw [hW0]; exact Blk.alloc (w := w.drew) hblk _
 have hgl := hblk.lt
 have hcpA : ∀ ty dc, (Builtin.copy_ #[128, 128] ty #[.slice (some ⟨w.heap.size, i * 2, none⟩) (cap + 1 - i) dc, .slice (some ⟨vb, 0, none⟩) 1 1]).run Tryz.prog W0 = .ok (goInt (1 : Nat)) (W0.setCells w.heap.size (i * 2) [x, y]) := fun ty dc =>
  run_copy_cellsK W0 _ _ ty 201 i0 2 w.heap.size (i * 2) (cap + 1 - i) dc ⟨vb, 0, none⟩ 1 1 1 [x, y] Tryz.underlying128 hi0 hz1 (by simp only [Nat.min_def]; split <;> omega) rfl
   (fun j u hj => by rw [addr_add, hv0.cell j]; simpa using hj)
   (fun j hj => blk_isSome hB0 (by simp at hj; omega)) (fun j hj => hB0.frozen _) hxy
 obtain ⟨W1, hW1⟩ : ∃ W1, W1 = W0.setCells w.heap.size (i * 2) [x, y] := ⟨_, rfl⟩
 have hB1 : Blk W1 w.heap.size 201 (seg ROW.toList (i * 2) [x, y]).toArray := by rw [hW1]; exact setCells_blk _ _ W0 _ hB0 (by simp; omega)
 have hs1 : (seg ROW.toList (i * 2) [x, y]).length = G * 2 := by rw [seg_len (by simp; omega)]; simp [hRl]
 have hg1 : Blk W1 g 201 cur := by rw [hW1]; exact (setCells_heap _ _ _ W0 g (by omega)).trans hg0
 have hcpB : ∀ ty dc sc, (Builtin.copy_ #[128, 128] ty #[.slice (some ⟨w.heap.size, (i + 1) * 2, none⟩) (cap - i) dc, .slice (some ⟨g, i * 2, none⟩) (cap - i) sc]).run Tryz.prog W1.drew = .ok (goInt (cap - i : Nat)) (W1.drew.setCells w.heap.size ((i + 1) * 2) D) := fun ty dc sc =>
  run_copy_cellsK W1.drew _ _ ty 201 i0 2 w.heap.size ((i + 1) * 2) (cap - i) dc ⟨g, i * 2, none⟩ (cap - i) sc (cap - i) D Tryz.underlying128 hi0 hz1 (by simp only [Nat.min_def]; split <;> omega) hDl
   (fun j u hj => by
    rw [Addr.add_lit]
    have h1 : W1.drew.cell? ⟨g, i * 2 + j, none⟩ = cur[i * 2 + j]? := Blk.cell (w := W1.drew) hg1 _
    rw [h1, ← hblk.cell]
    exact hcell (i * 2 + j) u (by rw [hD, List.getElem?_drop] at hj; exact hj))
   (fun j hj => blk_isSome (w := W1.drew) hB1 (by simp only [List.size_toArray, hs1]; omega)) (fun j hj => Blk.frozen (w := W1.drew) hB1 _) hD1
 have hB2 : Blk (W1.drew.setCells w.heap.size ((i + 1) * 2) D) w.heap.size 201 (seg (seg ROW.toList (i * 2) [x, y]) ((i + 1) * 2) D).toArray := setCells_blk D ((i + 1) * 2) W1.drew (seg ROW.toList (i * 2) [x, y]).toArray hB1 (by simp only [List.size_toArray, hs1]; omega)
 have hgr : w.grownBy (W1.drew.setCells w.heap.size ((i + 1) * 2) D) (some g) := by
  rw [hW1, hW0]
  exact grown_new (grown_drew (grown_new (grown_alloc (grown_drew (grown_refl w _)) _) (Nat.le_refl _) _ _)) (Nat.le_refl _) _ _
 have hfin : (W1.drew.setCells w.heap.size ((i + 1) * 2) D).ownsRow base 201 2 (.slice (some ⟨w.heap.size, 0, none⟩) (cap + 1) G) (cap + 1) (T ++ [x, y] ++ D) := by
  refine ownsRow_of hB2 hbase hGn hG63 ?_ ?_
  ·simp only [List.size_toArray]
   rw [seg_len (by rw [hs1]; omega), hs1]
  ·show (seg (seg ROW.toList (i * 2) [x, y]) ((i + 1) * 2) D).take ((cap + 1) * 2) = _
   have hRT : ROW.toList.take (i * 2) = T := by
    rw [hROW]
    simp only [Array.toList_append, List.append_assoc]
    exact List.take_left' hTl
   have e1 : (seg ROW.toList (i * 2) [x, y]).take ((i + 1) * 2) = T ++ [x, y] := by
    unfold seg
    rw [hRT]
    exact List.take_left' (by simp; omega)
   rw [seg, e1]
   exact List.take_left' (by simp; omega)
 obtain ⟨YS, hYS⟩ : ∃ YS, YS = T ++ [x, y] ++ D := ⟨_, rfl⟩
 rw [← hYS] at hfin ⊢
 have HF := Lib.hid hfin
 have HG := Lib.hid hgr
 have HC1 := Lib.hid hcpA
 have HC2 := Lib.hid hcpB
 have HZ := Lib.hid hrz
 have HW0 := Lib.hid hW0
 have HW1 := Lib.hid hW1
 unfold maxLen at hG63
 have hz : ((1 : Int) == 0) = false := by decide
 have hin : ((i : Int) == (cap : Int)) = false := by simp; omega
 have hw0 : (0 : Int) ≤ (i : Int) := by omega
 have hle : (i : Int) ≤ (cap : Int) := by omega
 have hle2 : (i : Int) ≤ (cap : Int) + 1 := by omega
 have hq1 : IntKind.i64.wrap ((cap : Int) + 1) = (cap : Int) + 1 := by rw [IntKind.wrap_i64]; omega
 have hq2 : IntKind.i64.wrap ((i : Int) + 1) = (i : Int) + 1 := by rw [IntKind.wrap_i64]; omega
 have hq3 : ((i : Int) + 1).toNat = i + 1 := by omega
 have hq5 : (0 : Int) ≤ (i : Int) + 1 := by omega
 have hq7 : (i : Int) + 1 ≤ (cap : Int) + 1 := by omega
 have hq9 : (cap : Int) < (cap : Int) + 1 := by omega
 have hc1 : ¬ (G = i) := by omega
 have hc2 : ¬ (G = i + 1) := by omega
 have hc3 : ¬ (cap = i) := by omega
 have hni : cap + 1 - (i + 1) = cap - i := by omega
 clear hblk hx hcell hD hDl hD1 hB1 hs1 hB2 hG hfin hcpA hcpB hW1 hW0 hxl hcl hone hcs hxy hvb hYS hT hTl hold hROW hzz hRl hkk hik hrz hB0 hv0 hg0 hg1 hgr
 go_enter Tryz.func159, Tryz.ntmps159
 go_wp2_with (at_builtin; refine Lib.wpList_append_run _ rfl (.tmp 34) (.tmp 39) 128 3 rfl _ _ rfl rfl _ _ (HZ.out _) ?_; rw [← HW0.out]; go_wp2_with (refine wpList_copy_known _ rfl (.tmp 43) (.tmp 44) 128 128 rfl _ _ rfl rfl (HC1.out _ _) ?_; rw [← HW1.out]))
 go_region_law (refine step_copy_known rfl (.tmp 50) (.tmp 53) 128 128 rfl (.slice (some ⟨w.heap.size, (i + 1) * 2, none⟩) (cap - i) (G - (i + 1))) (.slice (some ⟨g, i * 2, none⟩) (cap - i) (cap - i)) (by simp [Act.eval, Act.put, hni]) (by simp [Act.eval, Act.put]) (HC2.out 3 _ _) ?_)
 go_wp2_with fail
 go_ret
 exact ⟨_, rfl, HF.out, HG.out, .inr rfl⟩
theorem ins_any (w : World) (base : Nat) (v : Value) (n : Nat) (xs : List Value) (hown : w.ownsRow base 201 2 v n xs) (hone : ∀ u ∈ xs, u.oneCell' = true) (i : Nat) (hi : i ≤ n) (hn : n ≤ 1048576) (vb : Nat) (x y : Value) (hvb : Blk w vb 201 #[x, y])
  (hne : v.ownBlock ≠ some vb) (h1x : x.oneCell' = true) (h1y : y.oneCell' = true) (hbase : base ≤ w.heap.size) :
  Calls Tryz.prog 159 #[v, .int .i64 i, .slice (some ⟨vb, 0, none⟩) 1 1] w (InsOut w base v n (xs.take (i * 2) ++ [x, y] ++ xs.drop (i * 2))) := by
 rcases Nat.lt_or_ge i n with h | h
 ·rcases hown.2 with ⟨_, h0⟩ | ⟨g, cap, cur, rfl, hb, hblk, hnc, hcm, hcs, hx⟩
  ·omega
  ·rcases Nat.lt_or_ge cap (n + 1) with h2 | h2
   ·exact ins_grow w base g cap cur n xs hblk hbase hcs hx hone i h hn hnc h2 vb x y hvb h1x h1y
   ·exact ins_shift w base g cap cur n xs hblk hb hcm hcs hx hone i h hn h2 vb x y hvb (fun e => hne (by rw [e]; rfl)) h1x h1y
 ·obtain rfl : i = n := by omega
  have hl := hown.1
  rw [List.take_of_length_le (by omega), List.drop_eq_nil_of_le (by omega), List.append_nil]
  exact ins_end w base v i xs hown hn vb x y hvb h1x h1y hbase
theorem stV_take : ∀ (st : List (Nat × Nat)) (i : Nat), (st.flatMap stV).take (i * 2) = (st.take i).flatMap stV
 | [], i => by simp
 | s :: r, 0 => by simp
 | s :: r, i + 1 => by
  have ih := stV_take r i
  rw [List.take_succ_cons, List.flatMap_cons, List.flatMap_cons, ← ih]
  rw [show (i + 1) * 2 = (stV s).length + i * 2 by simp [stV]; omega]
  rw [List.take_append, List.take_of_length_le (by omega), Nat.add_sub_cancel_left]
theorem stV_drop : ∀ (st : List (Nat × Nat)) (i : Nat), (st.flatMap stV).drop (i * 2) = (st.drop i).flatMap stV
 | [], i => by simp
 | s :: r, 0 => by simp
 | s :: r, i + 1 => by
  have ih := stV_drop r i
  rw [List.drop_succ_cons, List.flatMap_cons, ← ih]
  rw [show (i + 1) * 2 = (stV s).length + i * 2 by simp [stV]; omega]
  rw [← List.drop_drop, List.drop_left]
theorem IsRow.setSt {w0 w w2 : World} {r b : Nat} {at_ before behind : List Int} {st st' : List (Nat × Nat)} {va vb vc vs vs' : Value} (h : IsRow w0 w r b at_ before behind st va vb vc vs)
  (hown : w2.ownsRow w0.heap.size 201 2 vs' st'.length (st'.flatMap stV)) (hg : w.grownBy w2 vs.ownBlock) (hs : st'.length ≤ 1048576) (hF : ∀ s ∈ st', s.1 ≤ 1048576 ∧ s.2 ≤ 1048576) :
  IsRow w0 (w2.setCell ⟨r, 4, none⟩ vs') r b at_ before behind st' va vb vc vs' := by
 have hrb := h.blk.lt
 have hnr : vs.ownBlock ≠ some r := own_blk_ne h.stR h.blk (by decide)
 have hblk2 : Blk w2 r 130 #[at0 b, va, vb, vc, vs] := h.blk.grown hg (fun e => hnr e.symm)
 have hold : ∀ {v : Value} {l : List Int}, w.ownsRow w0.heap.size 3 1 v l.length (l.map i64V) → (w2.setCell ⟨r, 4, none⟩ vs').ownsRow w0.heap.size 3 1 v l.length (l.map i64V) := fun hv =>
  ownsRow_block hv fun g e => by
   rw [heap_setCell_other _ _ _ (fun e2 => own_blk_ne hv h.blk (by decide) (by rw [e, e2]))]
   exact hg.block g (hv.lt g e).2 (fun e2 => own_row_ne hv h.stR (by decide) g e e2.symm)
 exact {
  blk := by have := hblk2.set_ 4 vs'; simpa using this
  new := h.new
  below := by
   have h1 : Below w0.heap.size w0 w2 := h.below.grown hg h.below.size (fun k e => (h.stR.lt k e).1)
   exact h1.setCell h.new _
  atR := hold h.atR
  befR := hold h.befR
  behR := hold h.behR
  stR := ownsRow_block hown fun g e => heap_setCell_other _ _ _ fun e2 => own_blk_ne hown hblk2 (by decide) (by rw [e, e2])
  nab := h.nab
  nac := h.nac
  nbc := h.nbc
  fits := h.fits
  small := ⟨h.small.1, h.small.2.1, h.small.2.2.1, hs⟩
  stF := hF }
structure StStep (w w' : World) (r : Nat) (vs vs' : Value) : Prop where
 size : w.heap.size ≤ w'.heap.size
 keep : ∀ g, g < w.heap.size → g ≠ r → vs.ownBlock ≠ some g → w'.heap[g]? = w.heap[g]?
 own : vs'.ownBlock = vs.ownBlock ∨ ∀ g, vs'.ownBlock = some g → w.heap.size ≤ g
theorem StStep.trans {w w1 w2 : World} {r : Nat} {vs v1 v2 : Value} (h : StStep w w1 r vs v1) (k : StStep w1 w2 r v1 v2) : StStep w w2 r vs v2 where
 size := Nat.le_trans h.size k.size
 keep := fun g hg hr hv => (k.keep g (Nat.lt_of_lt_of_le hg h.size) hr (by
  rcases h.own with e | e
  ·rw [e]; exact hv
  ·exact fun e2 => by have := e g e2; omega)).trans (h.keep g hg hr hv)
 own := by
  rcases k.own with e | e
  ·rcases h.own with e1 | e1
   ·exact .inl (e.trans e1)
   ·exact .inr fun g hg => e1 g (e ▸ hg)
  ·exact .inr fun g hg => Nat.le_trans h.size (e g hg)
theorem StStep.below {w w' : World} (hb : Below w.heap.size w w') (r : Nat) (vs : Value) : StStep w w' r vs vs := ⟨hb.size, fun g hg _ _ => hb.block g hg, .inl rfl⟩
theorem StStep.set {w w2 w3 : World} {r : Nat} {vs v' : Value} (hb : Below w.heap.size w w2) (hg : w2.grownBy w3 vs.ownBlock) (ho : v'.ownBlock = vs.ownBlock ∨ v'.ownBlock = some w2.heap.size) : StStep w (w3.setCell ⟨r, 4, none⟩ v') r vs v' where
 size := by rw [size_setCell']; exact Nat.le_trans hb.size hg.size
 keep := fun g hl hr hv => by
  rw [heap_setCell_other _ _ _ hr, hg.block g (Nat.lt_of_lt_of_le hl hb.size) (fun e => hv e.symm)]
  exact hb.block g hl
 own := by
  rcases ho with e | e
  ·exact .inl e
  ·refine .inr fun g hg => ?_
   rw [e] at hg
   cases hg
   exact hb.size
theorem StStep.blk {w w' : World} {r : Nat} {vs vs' : Value} (h : StStep w w' r vs vs') {g : Nat} {t : TypeId} {cs : Array Value} (hb : Blk w g t cs) (hr : g ≠ r) (hv : vs.ownBlock ≠ some g) : Blk w' g t cs := hb.same (h.keep g hb.lt hr hv)
def Steps (w0 w : World) (r b : Nat) (at_ before behind : List Int) (st : List (Nat × Nat)) (va vb vc vs : Value) (e : Ending) (w' : World) : Prop :=
 e = .returned (.tuple #[]) ∧ ∃ vs', IsRow w0 w' r b at_ before behind st va vb vc vs' ∧ StStep w w' r vs vs'
def StepAt (M : List Mg) (at_ behind : List Int) (place : Int) (s : Option (Nat × Nat)) : Prop := StepIs M at_ behind place (s.map (·.1)) ∧ ∀ k p, s = some (k, p) → place = p
theorem drop_any (w0 w : World) (r b : Nat) (V : Voc) (hC : Coder w0 b V) {at_ before behind : List Int} {st : List (Nat × Nat)} {va vb vc vs : Value} (hR : IsRow w0 w r b at_ before behind st va vb vc vs) (hsort : st.Pairwise gtS) {place : Int} {s : Option (Nat × Nat)} (hs : StepAt V.mer at_ behind place s)
  (hmem : ∀ x, s = some x → st[idxS st x]? = some x) :
  Calls Tryz.prog 116 #[at0 r, .int .i64 place] w (Steps w0 w r b at_ before behind (dropO st s) va vb vc vs) := by
 have hstep := stepAt_any w0 w r b V (hC.below hR.below) ⟨va, vb, vc, vs, hR⟩ hs.1
 have hI := hR
 have HR := Lib.hid hI
 clear hR
 have hsm := hI.small.2.2.2
 have HS := Lib.hid hstep
 have HP := Lib.hid hs.2
 have HM := Lib.hid hmem
 have HSO := Lib.hid hsort
 clear hstep hC hs hmem hsort hI
 unfold at0
 go_enter Tryz.func116, Tryz.ntmps116
 cases s with
 | none =>
  go_wp2_with (go_at_call 113; refine HS.out.mono ?_; rintro e w1 ⟨x, y, rfl, hk, hb⟩; have HB := Lib.hid hb; clear hb hk)
  go_end0
  exact ⟨rfl, vs, (HR.out.then HB.out).then ((Below.refl _ w1).alloc (Nat.le_refl _) _), .below (below_then HB.out ((Below.refl _ w1).alloc (Nat.le_refl _) _) HB.out.size) _ _⟩
 | some sp =>
  obtain ⟨k, p⟩ := sp
  obtain rfl : place = p := HP.out k p rfl
  have hM := HM.out (k, p) rfl
  obtain ⟨I, hI⟩ : ∃ I, I = idxS st (k, p) := ⟨_, rfl⟩
  rw [← hI] at hM
  have hIl : I < st.length := (List.getElem?_eq_some_iff.1 hM).1
  have hI0 : (I : Int) ≤ 1048576 := by omega
  have HI := Lib.hid hI
  have hds : dropS st (k, p) = st.take I ++ st.drop (I + 1) := by unfold dropS; rw [hI]
  have HD := Lib.hid hds
  clear hI hM hds
  go_wp2_with fail
  refine HS.out.mono ?_
  rintro e w1 ⟨x, y, rfl, hk, hb⟩
  obtain ⟨rfl, rfl⟩ := hk k rfl
  have b1 : Below w1.heap.size w1 (w1.alloc (.cells #[.int .i64 k, .int .i64 p] 201)) := (Below.refl _ w1).alloc (Nat.le_refl _) _
  have HB := Lib.hid ((HR.out.then hb).then b1)
  have HK := Lib.hid (below_then hb b1 hb.size)
  have hcells := Blk.new w1 201 #[.int .i64 k, .int .i64 p]
  have s0 := hcells.cell 0
  have s1 := hcells.cell 1
  simp only [lz0, lz1, lz2] at s0 s1
  clear hb b1 hcells hk
  go_wp2_with fail
  refine (find_any w0 _ r b ⟨va, vb, vc, vs, HB.out⟩ HSO.out (k, p)).mono ?_
  rintro e w2 ⟨rfl, hb2⟩
  rw [← HI.out]
  have hR2 := HB.out.then hb2
  have g4 : w2.cell? ⟨r, 4, none⟩ = some vs := by have := hR2.blk.cell 4; simpa using this
  have HR2 := Lib.hid hR2
  have HK2 := Lib.hid (below_then HK.out hb2 HK.out.size)
  clear hb2 hR2 s0 s1
  go_wp2_with fail
  refine (del_any w2 w0.heap.size vs st.length (st.flatMap stV) HR2.out.stR (stV_one st) I hIl hsm).mono ?_
  rintro e w3 ⟨v', rfl, hown, hg, hloc⟩
  have hst : (dropS st (k, p)).length = st.length - 1 := by rw [HD.out, List.length_append, List.length_take, List.length_drop]; omega
  have hcs : (st.flatMap stV).take (I * 2) ++ (st.flatMap stV).drop (I * 2 + 2) = (dropS st (k, p)).flatMap stV := by
   rw [HD.out, List.flatMap_append, stV_take, show I * 2 + 2 = (I + 1) * 2 by omega, stV_drop]
  rw [hcs, ← hst] at hown
  obtain ⟨A3, c3, rfl⟩ := own_slice hown
  have hfin := HR2.out.setSt hown hg (by omega) (fun s hs => HR2.out.stF s (by
   rw [HD.out] at hs
   rcases List.mem_append.1 hs with h | h
   ·exact List.mem_of_mem_take h
   ·exact List.mem_of_mem_drop h))
  have hb3 : Blk w3 r 130 #[at0 b, va, vb, vc, vs] := HR2.out.blk.grown hg (fun e => own_blk_ne HR2.out.stR HR2.out.blk (by decide) e.symm)
  have e4 : w3.cell? ⟨r, 4, none⟩ = some vs := by have := hb3.cell 4; simpa using this
  have z4 := hb3.frozen 4
  have HF := Lib.hid hfin
  have HKF := Lib.hid (StStep.set (r := r) HK2.out hg (.inl hloc))
  clear hown hg hloc hst hcs hfin hb3 g4
  go_wp2_with fail
  go_end0
  exact ⟨rfl, _, HF.out, HKF.out⟩
end Go.Proofs.YthcjikpabpgpfaaGreat
namespace Go.Proofs.YthcjikpabpgpfaaGreat
section
variable {n : Nat} {l : List Int} {qs : List Nat} {at_ before behind : List Int}
theorem RowOK.stepAt (h : RowOK n l qs at_ before behind) {M : List Mg} {j p : Nat} (hp : qs[j]? = some p) (hj : j < l.length) : StepAt M at_ behind p (stepOf M l qs j) := by
 refine ⟨?_, fun k p' e => ?_⟩
 ·rcases Nat.lt_or_ge (j + 1) l.length with h1 | h1
  ·obtain ⟨q, hq⟩ := h.get (i := j + 1) (by omega)
   have ha : l[j]? = some (l[j]'hj) := List.getElem?_eq_getElem _
   have hb : l[j + 1]? = some (l[j + 1]'h1) := List.getElem?_eq_getElem _
   have e : (stepOf M l qs j).map (·.1) = rkOf M (l[j]'hj) (l[j + 1]'h1) := by
    unfold stepOf
    rw [hp, pairRk_at ha hb]
    cases rkOf M (l[j]'hj) (l[j + 1]'h1) <;> rfl
   rw [e]
   exact .pair p q _ _ (h.beh j p q hp hq) (by rw [h.atL]; exact h.lt h1 hq) (h.tok j _ p ha hp) (h.tok (j + 1) _ q hb hq)
  ·have e : stepOf M l qs j = none := by
    unfold stepOf
    rw [hp, pairRk_end h1]
   rw [e]
   have hlast := h.last
   rw [show l.length = j + 1 by omega] at hlast
   refine .stop p ?_
   rw [h.atL]
   exact h.beh j p n hp hlast
 ·have := (stepOf_some.1 e).1
  rw [hp] at this
  cases this
  rfl
theorem RowOK.ahead (h : RowOK n l qs at_ before behind) {i p : Nat} (hp : qs[i]? = some p) (hi : i < l.length) (M : List Mg) : ∃ pa : Int, before[p]? = some pa ∧ StepAt M at_ behind pa (stepAhead M l qs i) := by
 cases i with
 | zero =>
  have : p = 0 := by have := h.first; rw [hp] at this; cases this; rfl
  subst this
  exact ⟨-1, h.bef0, .neg, fun k p e => by cases e⟩
 | succ j =>
  obtain ⟨r, hr⟩ := h.get (i := j) (by omega)
  exact ⟨r, h.bef j r p hr hp, h.stepAt hr (by omega)⟩
theorem RowOK.step_small (h : RowOK n l qs at_ before behind) {M : List Mg} {j : Nat} {x : Nat × Nat} (hx : stepOf M l qs j = some x) : x.1 < M.length ∧ x.2 ≤ n := by
 obtain ⟨h1, h2⟩ := stepOf_some.1 hx
 obtain ⟨a, b, _, _, h3⟩ := pairRk_some h2
 exact ⟨(rkOf_lt h3).1, h.le h1⟩
end
theorem dropO_len (st : List (Nat × Nat)) (o : Option (Nat × Nat)) : (dropO st o).length ≤ st.length := by
 cases o with
 | none => exact Nat.le_refl _
 | some s => show (dropS st s).length ≤ _; unfold dropS; rw [List.length_append, List.length_take, List.length_drop]; omega
theorem dropO_less {st : List (Nat × Nat)} {S : Nat × Nat → Prop} (h : StOK st S) {s : Nat × Nat} (hs : S s) : (dropO st (some s)).length + 1 = st.length := by
 have := (List.getElem?_eq_some_iff.1 (h.at_ hs)).1
 show (dropS st s).length + 1 = _
 unfold dropS
 rw [List.length_append, List.length_take, List.length_drop]
 omega
theorem addO_len (st : List (Nat × Nat)) (o : Option (Nat × Nat)) : (addO st o).length ≤ st.length + 1 := by
 cases o with
 | none => exact Nat.le_succ _
 | some s =>
  have := idxS_le st s
  show (addS st s).length ≤ _
  unfold addS
  rw [List.length_append, List.length_cons, List.length_take, List.length_drop]
  omega
end Go.Proofs.YthcjikpabpgpfaaGreat
namespace Go.Proofs.YthcjikpabpgpfaaGreat
open Go.RowKit Go.Maps Go.WideMaps
theorem own_set {w : World} {base : Nat} {e : TypeId} {ad : Addr} {n c : Nat} {xs : List Value} (h : w.ownsRow base e 1 (.slice (some ad) n c) n xs) (p : Nat) (u : Value) : (w.setCell (ad.add p) u).ownsRow base e 1 (.slice (some ad) n c) n (xs.set p u) := by
 rcases h.2 with ⟨h1, _⟩ | ⟨g, cap, cur, h1, hb, hblk, hnc, hcm, hcs, hx⟩
 ·cases h1
 ·simp only [Value.slice.injEq, Option.some.injEq, true_and] at h1
  obtain ⟨rfl, rfl⟩ := h1
  rw [addr_add]
  have hB : Blk w g e cur := hblk
  refine ownsRow_of (hB.set_ p u) hb hnc hcm (by simpa using hcs) ?_
  rw [← hx, Array.toList_setIfInBounds, List.take_set]
theorem own_set_cell {w : World} {base : Nat} {e : TypeId} {ad : Addr} {n c : Nat} {xs : List Value} (h : w.ownsRow base e 1 (.slice (some ad) n c) n xs) : (∃ g, ad = ⟨g, 0, none⟩) ∧ ∀ p, w.frozen? (ad.add p) = false := by
 rcases h.2 with ⟨h1, _⟩ | ⟨g, cap, cur, h1, hb, hblk, hnc, hcm, hcs, hx⟩
 ·cases h1
 ·simp only [Value.slice.injEq, Option.some.injEq, true_and] at h1
  obtain ⟨rfl, rfl⟩ := h1
  exact ⟨⟨g, rfl⟩, fun p => by rw [addr_add]; exact Blk.frozen hblk p⟩
theorem map_set (l : List Int) (p : Nat) (x : Int) : (l.map i64V).set p (.int .i64 x) = (l.set p x).map i64V := by
 rw [List.map_set]; rfl
theorem fits_set {l : List Int} (h : ∀ x ∈ l, fits64 x) (p : Nat) {x : Int} (hx : fits64 x) : ∀ y ∈ l.set p x, fits64 y := fun y hy => by
 rcases List.mem_or_eq_of_mem_set hy with h1 | h1
 ·exact h y h1
 ·rw [h1]; exact hx
theorem add_block (ad : Addr) (p : Nat) : (ad.add p).block = ad.block := by unfold Addr.add; split <;> rfl
section
variable {w0 w : World} {r b : Nat} {at_ before behind : List Int} {st : List (Nat × Nat)} {va vb vc vs : Value} {ad : Addr} {c p : Nat} {x : Int}
theorem IsRow.setAt (h : IsRow w0 w r b at_ before behind st (.slice (some ad) at_.length c) vb vc vs) (hx : fits64 x) :
  IsRow w0 (w.setCell (ad.add p) (.int .i64 x)) r b (at_.set p x) before behind st (.slice (some ad) at_.length c) vb vc vs := by
 have hb := (h.atR.lt ad.block rfl).1
 have oth : ∀ {e : TypeId} {size m : Nat} {v : Value} {xs : List Value}, w.ownsRow w0.heap.size e size v m xs → v.ownBlock ≠ some ad.block → (w.setCell (ad.add p) (.int .i64 x)).ownsRow w0.heap.size e size v m xs := fun hv hne =>
  ownsRow_block hv fun g e => heap_setCell_other _ _ _ (by rw [add_block]; exact fun e2 => hne (by rw [e, e2]))
 exact {
  blk := h.blk.far (by rw [add_block]; exact fun e => own_blk_ne h.atR h.blk (by decide) (by rw [e]; rfl)) _
  new := h.new
  below := h.below.setCell (by rw [add_block]; exact hb) _
  atR := by
   have := own_set h.atR p (.int .i64 x)
   rw [map_set] at this
   rw [List.length_set]
   exact this
  befR := oth h.befR (h.nab _ rfl)
  behR := oth h.behR (h.nac _ rfl)
  stR := oth h.stR (own_row_ne h.atR h.stR (by decide) _ rfl)
  nab := h.nab
  nac := h.nac
  nbc := h.nbc
  fits := ⟨fits_set h.fits.1 p hx, h.fits.2⟩
  small := by rw [List.length_set]; exact h.small
  stF := h.stF }
theorem IsRow.setBef (h : IsRow w0 w r b at_ before behind st va (.slice (some ad) before.length c) vc vs) (hx : fits64 x) :
  IsRow w0 (w.setCell (ad.add p) (.int .i64 x)) r b at_ (before.set p x) behind st va (.slice (some ad) before.length c) vc vs := by
 have hb := (h.befR.lt ad.block rfl).1
 have oth : ∀ {e : TypeId} {size m : Nat} {v : Value} {xs : List Value}, w.ownsRow w0.heap.size e size v m xs → v.ownBlock ≠ some ad.block → (w.setCell (ad.add p) (.int .i64 x)).ownsRow w0.heap.size e size v m xs := fun hv hne =>
  ownsRow_block hv fun g e => heap_setCell_other _ _ _ (by rw [add_block]; exact fun e2 => hne (by rw [e, e2]))
 exact {
  blk := h.blk.far (by rw [add_block]; exact fun e => own_blk_ne h.befR h.blk (by decide) (by rw [e]; rfl)) _
  new := h.new
  below := h.below.setCell (by rw [add_block]; exact hb) _
  atR := oth h.atR (fun e => h.nab _ e rfl)
  befR := by
   have := own_set h.befR p (.int .i64 x)
   rw [map_set] at this
   rw [List.length_set]
   exact this
  behR := oth h.behR (h.nbc _ rfl)
  stR := oth h.stR (own_row_ne h.befR h.stR (by decide) _ rfl)
  nab := h.nab
  nac := h.nac
  nbc := h.nbc
  fits := ⟨h.fits.1, fits_set h.fits.2.1 p hx, h.fits.2.2⟩
  small := by rw [List.length_set]; exact h.small
  stF := h.stF }
theorem IsRow.setBeh (h : IsRow w0 w r b at_ before behind st va vb (.slice (some ad) behind.length c) vs) (hx : fits64 x) :
  IsRow w0 (w.setCell (ad.add p) (.int .i64 x)) r b at_ before (behind.set p x) st va vb (.slice (some ad) behind.length c) vs := by
 have hb := (h.behR.lt ad.block rfl).1
 have oth : ∀ {e : TypeId} {size m : Nat} {v : Value} {xs : List Value}, w.ownsRow w0.heap.size e size v m xs → v.ownBlock ≠ some ad.block → (w.setCell (ad.add p) (.int .i64 x)).ownsRow w0.heap.size e size v m xs := fun hv hne =>
  ownsRow_block hv fun g e => heap_setCell_other _ _ _ (by rw [add_block]; exact fun e2 => hne (by rw [e, e2]))
 exact {
  blk := h.blk.far (by rw [add_block]; exact fun e => own_blk_ne h.behR h.blk (by decide) (by rw [e]; rfl)) _
  new := h.new
  below := h.below.setCell (by rw [add_block]; exact hb) _
  atR := oth h.atR (fun e => h.nac _ e rfl)
  befR := oth h.befR (fun e => h.nbc _ e rfl)
  behR := by
   have := own_set h.behR p (.int .i64 x)
   rw [map_set] at this
   rw [List.length_set]
   exact this
  stR := oth h.stR (own_row_ne h.behR h.stR (by decide) _ rfl)
  nab := h.nab
  nac := h.nac
  nbc := h.nbc
  fits := ⟨h.fits.1, h.fits.2.1, fits_set h.fits.2.2 p hx⟩
  small := by rw [List.length_set]; exact h.small
  stF := h.stF }
theorem IsRow.cl {va : Value} (h : IsRow w0 w r b at_ before behind st va vb vc vs) : w.cell? ⟨r, 0, none⟩ = some (.pointer (some ⟨b, 0, none⟩)) ∧ w.cell? ⟨r, 1, none⟩ = some va ∧ w.cell? ⟨r, 2, none⟩ = some vb ∧ w.cell? ⟨r, 3, none⟩ = some vc ∧ w.cell? ⟨r, 4, none⟩ = some vs := by
 have h0 := h.blk.cell 0
 have h1 := h.blk.cell 1
 have h2 := h.blk.cell 2
 have h3 := h.blk.cell 3
 have h4 := h.blk.cell 4
 unfold at0 at h0
 exact ⟨by simpa using h0, by simpa using h1, by simpa using h2, by simpa using h3, by simpa using h4⟩
end
theorem own_int_cell {w : World} {base : Nat} {ad : Addr} {n c : Nat} {l : List Int} (h : w.ownsRow base 3 1 (.slice (some ad) n c) n (l.map i64V)) {p : Nat} {x : Int} (hx : l[p]? = some x) : w.cell? (ad.add p) = some (.int .i64 x) ∧ w.frozen? (ad.add p) = false :=
 ⟨(src_of_own h).cells ad rfl p (.int .i64 x) (by rw [List.getElem?_map, hx]; rfl), (own_set_cell h).2 p⟩
end Go.Proofs.YthcjikpabpgpfaaGreat
namespace Go.Proofs.YthcjikpabpgpfaaGreat
open Go.RowKit Go.Maps Go.WideMaps
section
variable {w0 w w2 : World} {r b : Nat} {at_ before behind : List Int} {st : List (Nat × Nat)} {va vb vc vs v' : Value} {x : Int}
theorem hold_push {base : Nat} {va v u : Value} {i : Nat} {e : TypeId} {size m : Nat} {xs : List Value} (hg : w.grownBy w2 va.ownBlock) (hv : w.ownsRow base e size v m xs) (hne : ∀ g, v.ownBlock = some g → va.ownBlock ≠ some g) (hnr : v.ownBlock ≠ some r) : (w2.setCell ⟨r, i, none⟩ u).ownsRow base e size v m xs :=
 ownsRow_block hv fun g e => by
  rw [heap_setCell_other _ _ _ (fun e2 => hnr (by rw [e, e2]))]
  exact hg.block g (hv.lt g e).2 (fun e2 => hne g e e2.symm)
theorem map_snoc (l : List Int) (x : Int) : l.map i64V ++ [.int .i64 x] = (l ++ [x]).map i64V := by rw [List.map_append]; rfl
theorem IsRow.pushAt (h : IsRow w0 w r b at_ before behind st va vb vc vs) (hown : w2.ownsRow w0.heap.size 3 1 v' (at_.length + 1) (at_.map i64V ++ [.int .i64 x])) (hg : w.grownBy w2 va.ownBlock) (hloc : v'.ownBlock = va.ownBlock ∨ v'.ownBlock = some w.heap.size) (hx : fits64 x) (hl : at_.length < 1048576) :
  IsRow w0 (w2.setCell ⟨r, 1, none⟩ v') r b (at_ ++ [x]) before behind st v' vb vc vs := by
 have hnr : va.ownBlock ≠ some r := own_blk_ne h.atR h.blk (by decide)
 have hblk2 : Blk w2 r 130 #[at0 b, va, vb, vc, vs] := h.blk.grown hg (fun e => hnr e.symm)
 have new : ∀ {e : TypeId} {size m : Nat} {v : Value} {xs : List Value}, w.ownsRow w0.heap.size e size v m xs → (∀ g, va.ownBlock = some g → v.ownBlock ≠ some g) → ∀ g, v'.ownBlock = some g → v.ownBlock ≠ some g := fun hv hne g hg' => by
  rcases hloc with e | e
  ·exact hne g (e ▸ hg')
  ·rw [e] at hg'
   cases hg'
   exact fun e2 => by have := (hv.lt _ e2).2; omega
 exact {
  blk := by have := hblk2.set_ 1 v'; simpa using this
  new := h.new
  below := (h.below.grown hg h.below.size (fun k e => (h.atR.lt k e).1)).setCell h.new _
  atR := by
   rw [List.length_append, List.length_singleton, ← map_snoc]
   exact ownsRow_block hown fun g e => heap_setCell_other _ _ _ fun e2 => own_blk_ne hown hblk2 (by decide) (by rw [e, e2])
  befR := hold_push hg h.befR (fun g e e2 => h.nab g e2 e) (own_blk_ne h.befR h.blk (by decide))
  behR := hold_push hg h.behR (fun g e e2 => h.nac g e2 e) (own_blk_ne h.behR h.blk (by decide))
  stR := hold_push hg h.stR (own_row_ne h.stR h.atR (by decide)) (own_blk_ne h.stR h.blk (by decide))
  nab := new h.befR h.nab
  nac := new h.behR h.nac
  nbc := h.nbc
  fits := ⟨fun y hy => by
   rcases List.mem_append.1 hy with h1 | h1
   ·exact h.fits.1 y h1
   ·rw [List.mem_singleton.1 h1]; exact hx, h.fits.2⟩
  small := ⟨by rw [List.length_append, List.length_singleton]; omega, h.small.2⟩
  stF := h.stF }
theorem IsRow.pushBef (h : IsRow w0 w r b at_ before behind st va vb vc vs) (hown : w2.ownsRow w0.heap.size 3 1 v' (before.length + 1) (before.map i64V ++ [.int .i64 x])) (hg : w.grownBy w2 vb.ownBlock) (hloc : v'.ownBlock = vb.ownBlock ∨ v'.ownBlock = some w.heap.size) (hx : fits64 x) (hl : before.length < 1048576) :
  IsRow w0 (w2.setCell ⟨r, 2, none⟩ v') r b at_ (before ++ [x]) behind st va v' vc vs := by
 have hnr : vb.ownBlock ≠ some r := own_blk_ne h.befR h.blk (by decide)
 have hblk2 : Blk w2 r 130 #[at0 b, va, vb, vc, vs] := h.blk.grown hg (fun e => hnr e.symm)
 have new : ∀ {e : TypeId} {size m : Nat} {v : Value} {xs : List Value}, w.ownsRow w0.heap.size e size v m xs → (∀ g, vb.ownBlock = some g → v.ownBlock ≠ some g) → ∀ g, v'.ownBlock = some g → v.ownBlock ≠ some g := fun hv hne g hg' => by
  rcases hloc with e | e
  ·exact hne g (e ▸ hg')
  ·rw [e] at hg'
   cases hg'
   exact fun e2 => by have := (hv.lt _ e2).2; omega
 exact {
  blk := by have := hblk2.set_ 2 v'; simpa using this
  new := h.new
  below := (h.below.grown hg h.below.size (fun k e => (h.befR.lt k e).1)).setCell h.new _
  atR := hold_push hg h.atR (fun g e => h.nab g e) (own_blk_ne h.atR h.blk (by decide))
  befR := by
   rw [List.length_append, List.length_singleton, ← map_snoc]
   exact ownsRow_block hown fun g e => heap_setCell_other _ _ _ fun e2 => own_blk_ne hown hblk2 (by decide) (by rw [e, e2])
  behR := hold_push hg h.behR (fun g e e2 => h.nbc g e2 e) (own_blk_ne h.behR h.blk (by decide))
  stR := hold_push hg h.stR (own_row_ne h.stR h.befR (by decide)) (own_blk_ne h.stR h.blk (by decide))
  nab := fun g e e2 => new h.atR (fun g e3 e4 => h.nab g e4 e3) g e2 e
  nac := h.nac
  nbc := new h.behR h.nbc
  fits := ⟨h.fits.1, fun y hy => by
   rcases List.mem_append.1 hy with h1 | h1
   ·exact h.fits.2.1 y h1
   ·rw [List.mem_singleton.1 h1]; exact hx, h.fits.2.2⟩
  small := ⟨h.small.1, by rw [List.length_append, List.length_singleton]; omega, h.small.2.2⟩
  stF := h.stF }
theorem IsRow.pushBeh (h : IsRow w0 w r b at_ before behind st va vb vc vs) (hown : w2.ownsRow w0.heap.size 3 1 v' (behind.length + 1) (behind.map i64V ++ [.int .i64 x])) (hg : w.grownBy w2 vc.ownBlock) (hloc : v'.ownBlock = vc.ownBlock ∨ v'.ownBlock = some w.heap.size) (hx : fits64 x) (hl : behind.length < 1048576) :
  IsRow w0 (w2.setCell ⟨r, 3, none⟩ v') r b at_ before (behind ++ [x]) st va vb v' vs := by
 have hnr : vc.ownBlock ≠ some r := own_blk_ne h.behR h.blk (by decide)
 have hblk2 : Blk w2 r 130 #[at0 b, va, vb, vc, vs] := h.blk.grown hg (fun e => hnr e.symm)
 have new : ∀ {e : TypeId} {size m : Nat} {v : Value} {xs : List Value}, w.ownsRow w0.heap.size e size v m xs → (∀ g, vc.ownBlock = some g → v.ownBlock ≠ some g) → ∀ g, v'.ownBlock = some g → v.ownBlock ≠ some g := fun hv hne g hg' => by
  rcases hloc with e | e
  ·exact hne g (e ▸ hg')
  ·rw [e] at hg'
   cases hg'
   exact fun e2 => by have := (hv.lt _ e2).2; omega
 exact {
  blk := by have := hblk2.set_ 3 v'; simpa using this
  new := h.new
  below := (h.below.grown hg h.below.size (fun k e => (h.behR.lt k e).1)).setCell h.new _
  atR := hold_push hg h.atR (fun g e => h.nac g e) (own_blk_ne h.atR h.blk (by decide))
  befR := hold_push hg h.befR (fun g e => h.nbc g e) (own_blk_ne h.befR h.blk (by decide))
  behR := by
   rw [List.length_append, List.length_singleton, ← map_snoc]
   exact ownsRow_block hown fun g e => heap_setCell_other _ _ _ fun e2 => own_blk_ne hown hblk2 (by decide) (by rw [e, e2])
  stR := hold_push hg h.stR (own_row_ne h.stR h.behR (by decide)) (own_blk_ne h.stR h.blk (by decide))
  nab := h.nab
  nac := fun g e e2 => new h.atR (fun g e3 e4 => h.nac g e4 e3) g e2 e
  nbc := fun g e e2 => new h.befR (fun g e3 e4 => h.nbc g e4 e3) g e2 e
  fits := ⟨h.fits.1, h.fits.2.1, fun y hy => by
   rcases List.mem_append.1 hy with h1 | h1
   ·exact h.fits.2.2 y h1
   ·rw [List.mem_singleton.1 h1]; exact hx⟩
  small := ⟨h.small.1, h.small.2.1, by rw [List.length_append, List.length_singleton]; omega, h.small.2.2.2⟩
  stF := h.stF }
theorem IsRow.sorted {st' : List (Nat × Nat)} (h : IsRow w0 w r b at_ before behind st va vb vc vs) (hown : w2.ownsRow w0.heap.size 201 2 vs st'.length (st'.flatMap stV)) (hg : w.grownBy w2 vs.ownBlock) (hl : st'.length ≤ 1048576) (hF : ∀ s ∈ st', s.1 ≤ 1048576 ∧ s.2 ≤ 1048576) :
  IsRow w0 w2 r b at_ before behind st' va vb vc vs := by
 have oth : ∀ {v : Value} {l : List Int}, w.ownsRow w0.heap.size 3 1 v l.length (l.map i64V) → w2.ownsRow w0.heap.size 3 1 v l.length (l.map i64V) := fun hv =>
  ownsRow_block hv fun g e => hg.block g (hv.lt g e).2 (fun e2 => own_row_ne hv h.stR (by decide) g e e2.symm)
 exact {
  blk := h.blk.grown hg (fun e => own_blk_ne h.stR h.blk (by decide) e.symm)
  new := h.new
  below := h.below.grown hg h.below.size (fun k e => (h.stR.lt k e).1)
  atR := oth h.atR
  befR := oth h.befR
  behR := oth h.behR
  stR := hown
  nab := h.nab
  nac := h.nac
  nbc := h.nbc
  fits := h.fits
  small := ⟨h.small.1, h.small.2.1, h.small.2.2.1, hl⟩
  stF := hF }
end
end Go.Proofs.YthcjikpabpgpfaaGreat
namespace Go.Proofs.YthcjikpabpgpfaaGreat
open Go.RowKit Go.Maps Go.WideMaps
theorem one_cell_at' {w : World} {t : TypeId} {x : Value} {H : Nat} (hH : w.heap.size = H) : ∀ (j : Nat) (u : Value), [x][j]? = some u → (w.alloc (.cells #[x] t)).cell? ((⟨H, 0, none⟩ : Addr).add j) = some u := hH ▸ one_cell_at
def ENumsOut (w : World) (l : List Int) (e : Ending) (w' : World) : Prop := ∃ v, e = .returned v ∧ w'.ownsRow w.heap.size 3 1 v l.length (l.map i64V) ∧ Below w.heap.size w w'
theorem list_any (w0 w : World) (r b : Nat) {n : Nat} {l : List Int} {qs : List Nat} {at_ before behind : List Int} {st : List (Nat × Nat)} (hR : Row w0 w r b at_ before behind st) (hO : RowOK n l qs at_ before behind) (hn : n ≤ 1000000) :
  Calls Tryz.prog 63 #[at0 r] w (ENumsOut w l) := by
 obtain ⟨i0, hi, hz0, hz1, hz2⟩ := info_parts intInfo1
 obtain ⟨va, vb, vc, vs, hR⟩ := hR
 obtain ⟨Aa, ca, rfl⟩ := own_slice hR.atR
 have HR := Lib.hid hR
 have HO := Lib.hid hO
 have hlm : l.length ≤ n := by
  have : ∀ (j p : Nat), qs[j]? = some p → j ≤ p := by
   intro j
   induction j with
   | zero => intro p _; omega
   | succ j ih =>
    intro p hp
    obtain ⟨q, hq⟩ := hO.get (i := j) (by have := (List.getElem?_eq_some_iff.1 hp).1; rw [hO.len] at this; omega)
    have h1 := ih q hq
    have h2 := hO.inc j (j + 1) q p (by omega) hq hp
    omega
  exact this _ _ hO.last
 have hAL := hO.atL
 have HAL := Lib.hid hAL
 have HF0 := Lib.hid hO.first
 clear hR hO hAL
 unfold at0
 go_enter Tryz.func63, Tryz.ntmps63
 go_wp2_with fail
 go_loopw [3, 4] (fun v i wr => ∃ j q, j ≤ l.length ∧ qs[j]? = some q ∧ i = .int .i64 (q : Nat) ∧ wr.ownsRow w.heap.size 3 1 v j ((l.take j).map i64V) ∧ Below w.heap.size w wr) (fun _ i _ => n - (intOf i).toNat)
 case atStart => exact ⟨0, 0, Nat.zero_le _, HF0.out, rfl, by rw [List.take_zero]; exact World.ownsRow_nil _ _ _ _, Below.refl _ _⟩
 case round =>
  obtain ⟨j, q, hj, hq, rfl, hown, hB⟩ := hrel
  have hRr := HR.out.then hB
  obtain ⟨_, g1, _, g3, _⟩ := hRr.cl
  rw [HAL.out] at g1
  rcases Nat.lt_or_ge j l.length with hlt | hge
  ·obtain ⟨q2, hq2⟩ := HO.out.get (i := j + 1) (by omega)
   have hqn : q < n := HO.out.lt hlt hq
   have hq2n := HO.out.le hq2
   have hqq := HO.out.inc j (j + 1) q q2 (by omega) hq hq2
   have hx : l[j]? = some (l[j]'hlt) := List.getElem?_eq_getElem hlt
   obtain ⟨x, hxe⟩ : ∃ x, x = l[j]'hlt := ⟨_, rfl⟩
   rw [← hxe] at hx
   have htk : (l.take (j + 1)).map i64V = (l.take j).map i64V ++ [.int .i64 x] := by rw [List.take_add_one, hx, List.map_append]; rfl
   obtain ⟨ada, c2, e1, x1, _⟩ := own_int_at hRr.atR (HO.out.tok j x q hx hq)
   simp only [Value.slice.injEq, true_and] at e1
   obtain ⟨rfl, rfl⟩ := e1
   obtain ⟨adc, c3, rfl, x3, _⟩ := own_int_at hRr.behR (HO.out.beh j q q2 hq hq2)
   have hbl : behind.length = n := HO.out.behL
   have HBL := Lib.hid hbl
   have HBQ := Lib.hid (HO.out.beh j q q2 hq hq2)
   rw [hbl] at g3
   have hq0 : (0 : Int) ≤ (q : Int) := by omega
   have hqN : (q : Int) < (n : Int) := by omega
   have HOWN := Lib.hid hown
   have HB := Lib.hid hB
   have HTK := Lib.hid htk
   have HQ2 := Lib.hid hq2
   have HRR := Lib.hid hRr
   have HX3 := Lib.hid x3
   have HG3 := Lib.hid g3
   clear hown hB htk hx hxe hbl hRr x3 g3 hq2
   go_wp2_with (at_builtin; refine wpList_append_own_at _ rfl _ _ 52 rfl w.heap.size 3 i0 (.int .i64 0) 1 8 Tryz.underlying52 hi hz0 hz1 hz2 rfl (by decide) _ j _ rfl (HOWN.out.alloc _) ⟨wr.heap.size, 0, none⟩ 1 1 [.int .i64 x] rfl rfl one_cell_at (by simp [Value.oneCell']) (by unfold maxLen; omega) (by omega) (by simp; have := HB.out.size; omega) ?_; intro v' w2 hown' hg2 hnil hloc; obtain ⟨A2, c2, hv⟩ := own_slice hown'; rw [hv]; clear hnil hloc; have HV := Lib.hid hv; clear hv; have hb2 : Below w.heap.size wr w2 := (((Below.refl _ wr).alloc HB.out.size _).grown hg2 (by simp; have := HB.out.size; omega) (fun k e => (HOWN.out.lt k e).1)); have HB2 := Lib.hid (HB.out.trans hb2); have hr2 := HR.out.then HB2.out; have f3 := hr2.cl.2.2.2.1; rw [HBL.out] at f3; have y3 := (own_int_cell hr2.behR HBQ.out).1; have HOWN2 := Lib.hid hown'; clear hown' hg2 hb2 hr2)
   go_roundw
   case rel => exact ⟨j + 1, q2, by omega, HQ2.out, rfl, by rw [HTK.out, ← HV.out]; exact HOWN2.out, HB2.out⟩
   case measure => simp [intOf]; omega
  ·obtain rfl : j = l.length := by omega
   obtain rfl : q = n := by have := HO.out.last; rw [hq] at this; exact Option.some.inj this
   obtain ⟨A3, c3, rfl⟩ := own_slice hown
   rw [List.take_length] at hown
   have HOWN := Lib.hid hown
   have HB := Lib.hid hB
   clear hown hB hRr g3
   go_wp2
   go_ret
   exact ⟨_, rfl, HOWN.out, HB.out⟩
theorem two_cells {w : World} {g : Nat} {t : TypeId} {x y : Value} (h : Blk w g t #[x, y]) : w.cell? ⟨g, 0, none⟩ = some x ∧ w.cell? ⟨g, 1, none⟩ = some y := by
 have h0 := h.cell 0
 have h1 := h.cell 1
 simp only [lz0, lz1, lz2] at h0 h1
 exact ⟨h0, h1⟩
theorem add_any (w0 w : World) (r b : Nat) (V : Voc) (hC : Coder w0 b V) {at_ before behind : List Int} {st : List (Nat × Nat)} {va vb vc vs : Value} (hR : IsRow w0 w r b at_ before behind st va vb vc vs) (hsort : st.Pairwise gtS) {place : Int} {s : Option (Nat × Nat)} (hs : StepAt V.mer at_ behind place s)
  (hlen : st.length < 1048576) (hsm : ∀ x, s = some x → x.1 ≤ 1048576 ∧ x.2 ≤ 1048576) :
  Calls Tryz.prog 117 #[at0 r, .int .i64 place] w (Steps w0 w r b at_ before behind (addO st s) va vb vc vs) := by
 have hstep := stepAt_any w0 w r b V (hC.below hR.below) ⟨va, vb, vc, vs, hR⟩ hs.1
 have hI := hR
 clear hR
 have HR := Lib.hid hI
 have HS := Lib.hid hstep
 have HP := Lib.hid hs.2
 have HSM := Lib.hid hsm
 have HSO := Lib.hid hsort
 have HSF := Lib.hid hI.stF
 clear hstep hC hs hsm hsort hI
 unfold at0
 go_enter Tryz.func117, Tryz.ntmps117
 cases s with
 | none =>
  go_wp2_with (go_at_call 113; refine HS.out.mono ?_; rintro e w1 ⟨x, y, rfl, hk, hb⟩; have HB := Lib.hid hb; clear hb hk)
  go_end0
  exact ⟨rfl, vs, (HR.out.then HB.out).then ((Below.refl _ w1).alloc (Nat.le_refl _) _), .below (below_then HB.out ((Below.refl _ w1).alloc (Nat.le_refl _) _) HB.out.size) _ _⟩
 | some sp =>
  obtain ⟨k, p⟩ := sp
  obtain rfl : place = p := HP.out k p rfl
  have hkp := HSM.out (k, p) rfl
  obtain ⟨I, hI⟩ : ∃ I, I = idxS st (k, p) := ⟨_, rfl⟩
  have hIl : I ≤ st.length := by rw [hI]; exact idxS_le _ _
  have hds : (st.flatMap stV).take (I * 2) ++ [.int .i64 k, .int .i64 p] ++ (st.flatMap stV).drop (I * 2) = (addS st (k, p)).flatMap stV := by
   unfold addS
   rw [← hI, List.flatMap_append, List.flatMap_cons, stV_take, stV_drop, List.append_assoc]
   rfl
  have hll : (addS st (k, p)).length = st.length + 1 := by
   unfold addS
   rw [← hI, List.length_append, List.length_cons, List.length_take, List.length_drop]
   omega
  have HF : Hid (∀ s ∈ addS st (k, p), s.1 ≤ 1048576 ∧ s.2 ≤ 1048576) := Lib.hid (fun s hs => by
   unfold addS at hs
   rcases List.mem_append.1 hs with h | h
   ·exact HSF.out s (List.mem_of_mem_take h)
   ·rcases List.mem_cons.1 h with rfl | h
    ·exact hkp
    ·exact HSF.out s (List.mem_of_mem_drop h))
  have HI := Lib.hid hI
  have HD := Lib.hid hds
  have HL := Lib.hid hll
  clear hI hds hll hkp
  go_wp2_with fail
  refine HS.out.mono ?_
  rintro e w1 ⟨x, y, rfl, hk, hb⟩
  obtain ⟨rfl, rfl⟩ := hk k rfl
  have b1 : Below w1.heap.size w1 (w1.alloc (.cells #[.int .i64 k, .int .i64 p] 201)) := (Below.refl _ w1).alloc (Nat.le_refl _) _
  obtain ⟨W2, hW2⟩ : ∃ W2, W2 = w1.alloc (.cells #[.int .i64 k, .int .i64 p] 201) := ⟨_, rfl⟩
  have HST : Hid (Blk W2 w1.heap.size 201 #[.int .i64 k, .int .i64 p]) := Lib.hid (by rw [hW2]; exact Blk.new _ _ _)
  rw [← hW2] at b1
  have HNS : Hid (vs.ownBlock ≠ some w1.heap.size) := Lib.hid (fun e => Nat.lt_irrefl _ ((HR.out.then hb).stR.lt _ e).2)
  have HNR : Hid (w1.heap.size ≠ r) := Lib.hid (fun e => by have := (HR.out.then hb).blk.lt; omega)
  have HB := Lib.hid ((HR.out.then hb).then b1)
  have HK := Lib.hid (below_then hb b1 hb.size)
  have HW2 := Lib.hid hW2
  clear hb b1 hk hW2
  go_wp2_with fail
  rw [← HW2.out]
  refine wp_region_held_drew (S := fun w' => w'.cell? ⟨w1.heap.size, 0, none⟩ = some (.int .i64 k) ∧ w'.cell? ⟨w1.heap.size, 1, none⟩ = some (.int .i64 p)) (by kernel_rfl) (two_cells HST.out) (fun hHeld => ?_)
  obtain ⟨u0, hu0⟩ : ∃ z, z = W2.drew := ⟨_, rfl⟩
  rw [← hu0] at hHeld ⊢
  have hb0 : Below W2.heap.size W2 u0 := by rw [hu0]; exact (Below.refl _ W2).drew
  have HR0 := Lib.hid (HB.out.then hb0)
  have HST0 := Lib.hid (HST.out.below hb0 HST.out.lt)
  have HK0 := Lib.hid (below_then HK.out hb0 HK.out.size)
  clear hu0 hb0
  refine wpAnyH_take (i := 0) (oi := ?oit10) (v := ?vt10) ?hit10 (by kernel_rfl) (by kernel_rfl) (by kernel_rfl) ?hQt10 (Or.inl ⟨?hwt10, ?hyt10⟩) (by assumption) ?restt10
  case hit10 => (first | (simp only [lz0, lz1, lz2]; rfl) | rfl)
  case hQt10 => exact fun _ _ _ h => h
  case hwt10 => rfl
  case hyt10 => ((intro w hSw; go_simp); first | done | with_reducible rfl)
  try simp only [Act.put, lz3, lz4, lz5]
  refine wpAnyH_take (i := 1) (oi := ?oit21) (v := ?vt21) ?hit21 (by kernel_rfl) (by kernel_rfl) (by kernel_rfl) ?hQt21 (Or.inl ⟨?hwt21, ?hyt21⟩) (by assumption) ?restt21
  case hit21 => (first | (simp only [lz0, lz1, lz2]; rfl) | rfl)
  case hQt21 => exact fun _ _ _ h => h
  case hwt21 => rfl
  case hyt21 => ((intro w hSw; go_simp); first | done | with_reducible rfl)
  try simp only [Act.put, lz3, lz4, lz5]
  refine wpAnyH_take (i := 5) (oi := ?oit35) (v := ?vt35) ?hit35 (by kernel_rfl) (by kernel_rfl) (by kernel_rfl) ?hQt35 (Or.inl ⟨?hwt35, ?hyt35⟩) (by assumption) ?restt35
  case hit35 => (first | (simp only [lz0, lz1, lz2]; rfl) | rfl)
  case hQt35 => exact fun _ _ _ h => h
  case hwt35 => rfl
  case hyt35 => ((intro w hSw; go_simp); first | done | with_reducible rfl)
  try simp only [Act.put, lz3, lz4, lz5]
  refine wpAnyH_take (i := 6) (oi := ?oit46) (v := ?vt46) ?hit46 (by kernel_rfl) (by kernel_rfl) (by kernel_rfl) ?hQt46 (Or.inl ⟨?hwt46, ?hyt46⟩) (by assumption) ?restt46
  case hit46 => (first | (simp only [lz0, lz1, lz2]; rfl) | rfl)
  case hQt46 => exact fun _ _ _ h => h
  case hwt46 => rfl
  case hyt46 => ((intro w hSw; go_simp); first | done | with_reducible rfl)
  try simp only [Act.put, lz3, lz4, lz5]
  refine wpAnyH_take (i := 8) (oi := ?oit58) (v := ?vt58) ?hit58 (by kernel_rfl) (by kernel_rfl) (by kernel_rfl) ?hQt58 (Or.inl ⟨?hwt58, ?hyt58⟩) (by assumption) ?restt58
  case hit58 => (first | (simp only [lz0, lz1, lz2]; rfl) | rfl)
  case hQt58 => exact fun _ _ _ h => h
  case hwt58 => rfl
  case hyt58 => ((intro w hSw; go_simp); first | done | with_reducible rfl)
  try simp only [Act.put, lz3, lz4, lz5]
  refine wpAnyH_take (i := 2) (oi := ?oit62) (v := ?vt62) ?hit62 (by kernel_rfl) (by kernel_rfl) (by kernel_rfl) ?hQt62 (Or.inl ⟨?hwt62, ?hyt62⟩) (by assumption) ?restt62
  case hit62 => (first | (simp only [lz0, lz1, lz2]; rfl) | rfl)
  case hQt62 => exact fun _ _ _ h => h
  case hwt62 => rfl
  case hyt62 => ((intro w hSw; go_simp); first | done | with_reducible rfl)
  try simp only [Act.put, lz3, lz4, lz5]
  refine wpAnyH_take (i := 3) (oi := ?oit73) (v := ?vt73) ?hit73 (by kernel_rfl) (by kernel_rfl) (by kernel_rfl) ?hQt73 (Or.inl ⟨?hwt73, ?hyt73⟩) (by assumption) ?restt73
  case hit73 => (first | (simp only [lz0, lz1, lz2]; rfl) | rfl)
  case hQt73 => exact fun _ _ _ h => h
  case hwt73 => rfl
  case hyt73 => ((intro w hSw; go_simp); first | done | with_reducible rfl)
  try simp only [Act.put, lz3, lz4, lz5]
  refine wpAnyH_ready (rs := [4, 7, 9]) (by kernel_rfl) (by simp) ?_
  refine AllReadyH.cons (o := ?ot8) ?ht8 ?st8 (AllReadyH.cons (o := ?ot9) ?ht9 ?st9 (AllReadyH.cons (o := ?ot10) ?ht10 ?st10 AllReadyH.nil))
  case ht8 => (simp only [lz0, lz1, lz2]; rfl)
  case ht9 => (simp only [lz0, lz1, lz2]; rfl)
  case ht10 => (simp only [lz0, lz1, lz2]; rfl)
  case st8 =>
   intro K hK
   have yq1 : u0.cell? ⟨r, 4, none⟩ = some vs := by have := HR0.out.blk.cell 4; simpa using this
   go_simp
   clear yq1
   refine hK.out _ _ (two_cells HST0.out) (fun ht11 => ?_)
   clear hK K
   try simp only [Act.put, lz3, lz4, lz5]
   refine wpAnyH_ready (rs := [7, 9]) (by kernel_rfl) (by simp) ?_
   refine AllReadyH.cons (o := ?ot12) ?ht12 ?st12 (AllReadyH.cons (o := ?ot13) ?ht13 ?st13 AllReadyH.nil)
   case ht12 => (simp only [lz0, lz1, lz2]; rfl)
   case ht13 => (simp only [lz0, lz1, lz2]; rfl)
   case st12 =>
    intro K hK
    go_simp
    refine (find_any w0 _ r b ⟨va, vb, vc, vs, HR0.out⟩ HSO.out (k, p)).mono ?_
    rintro eq7 uq2 ⟨rfl, hq3⟩
    rw [← HI.out]
    have Rq4 := Lib.hid (HR0.out.then hq3)
    have Tq5 := Lib.hid (HST0.out.below hq3 HST0.out.lt)
    have Kq8 := Lib.hid (below_then HK0.out hq3 HK0.out.size)
    clear hq3
    go_wp2_with fail
    refine hK.out _ _ (two_cells Tq5.out) (fun ht14 => ?_)
    clear hK K
    try simp only [Act.put, lz3, lz4, lz5]
    refine wpAnyH_ready (rs := [9]) (by kernel_rfl) (by simp) ?_
    refine AllReadyH.cons (o := ?ot15) ?ht15 ?st15 AllReadyH.nil
    case ht15 => (simp only [lz0, lz1, lz2]; rfl)
    case st15 =>
     intro K hK
     go_simp
     obtain ⟨uq9, huq10⟩ : ∃ z, z = uq2.alloc (.cells #[.int .i64 k, .int .i64 p] 201) := ⟨_, rfl⟩
     have Nq14 : Hid (Blk uq9 uq2.heap.size 201 #[.int .i64 k, .int .i64 p]) := Lib.hid (by rw [huq10]; exact Blk.new _ _ _)
     rw [← huq10]
     have hbq11 : Below uq2.heap.size uq2 uq9 := by rw [huq10]; exact (Below.refl _ uq2).alloc (Nat.le_refl _) _
     have NEq15 : Hid (vs.ownBlock ≠ some uq2.heap.size) := Lib.hid (fun e => Nat.lt_irrefl _ (Rq4.out.stR.lt _ e).2)
     have Rq12 := Lib.hid (Rq4.out.then hbq11)
     have Tq13 := Lib.hid (Tq5.out.below hbq11 Tq5.out.lt)
     have Kq16 := Lib.hid (below_then Kq8.out hbq11 Kq8.out.size)
     clear huq10 hbq11
     refine hK.out _ _ (two_cells Tq13.out) (fun ht16 => ?_)
     clear hK K
     try simp only [Act.put, lz3, lz4, lz5]
     refine wpAnyH_ready (rs := [10]) (by kernel_rfl) (by simp) ?_
     refine AllReadyH.cons (o := ?ot17) ?ht17 ?st17 AllReadyH.nil
     case ht17 => (simp only [lz0, lz1, lz2]; rfl)
     case st17 =>
      intro K hK
      go_simp
      refine (ins_any _ w0.heap.size vs st.length (st.flatMap stV) Rq12.out.stR (stV_one st) I hIl (by omega) _ (.int .i64 k) (.int .i64 p) Nq14.out NEq15.out rfl rfl Rq12.out.below.size).mono ?_
      rintro eq18 uq17 ⟨v', rfl, hwq19, hgq20, hlq21⟩
      obtain ⟨Aq24, cq25, rfl⟩ := own_slice hwq19
      rw [HD.out] at hwq19
      have Bq22 := Lib.hid (Rq12.out.blk.grown hgq20 (fun e => own_blk_ne Rq12.out.stR Rq12.out.blk (by decide) e.symm))
      have Tq23 := Lib.hid (Tq13.out.grown hgq20 (fun e => HNS.out e.symm))
      have Hhwq19 := Lib.hid hwq19
      have Hhgq20 := Lib.hid hgq20
      have Hhlq21 := Lib.hid hlq21
      clear hwq19 hgq20 hlq21
      go_wp2_with fail
      refine hK.out _ _ (two_cells Tq23.out) (fun ht18 => ?_)
      clear hK K
      try simp only [Act.put, lz3, lz4, lz5]
      refine wpAnyH_take (i := 11) (oi := ?oit1911) (v := ?vt1911) ?hit1911 (by kernel_rfl) (by kernel_rfl) (by kernel_rfl) ?hQt1911 (Or.inl ⟨?hwt1911, ?hyt1911⟩) (by assumption) ?restt1911
      case hit1911 => (first | (simp only [lz0, lz1, lz2]; rfl) | rfl)
      case hQt1911 => exact fun _ _ _ h => h
      case hwt1911 => rfl
      case hyt1911 => ((intro w hSw; go_simp); first | done | with_reducible rfl)
      try simp only [Act.put, lz3, lz4, lz5]
      refine wpAnyH_take (i := 12) (oi := ?oit2012) (v := ?vt2012) ?hit2012 (by kernel_rfl) (by kernel_rfl) (by kernel_rfl) ?hQt2012 (Or.inl ⟨?hwt2012, ?hyt2012⟩) (by assumption) ?restt2012
      case hit2012 => (first | (simp only [lz0, lz1, lz2]; rfl) | rfl)
      case hQt2012 => exact fun _ _ _ h => h
      case hwt2012 => rfl
      case hyt2012 => ((intro w hSw; go_simp); first | done | with_reducible rfl)
      try simp only [Act.put, lz3, lz4, lz5]
      refine wpAnyH_ready (rs := [13]) (by kernel_rfl) (by simp) ?_
      refine AllReadyH.cons (o := ?ot21) ?ht21 ?st21 AllReadyH.nil
      case ht21 => (simp only [lz0, lz1, lz2]; rfl)
      case st21 =>
       intro K hK
       have yq26 : uq17.cell? ⟨r, 4, none⟩ = some vs := by have := Bq22.out.cell 4; simpa using this
       have zq27 := Bq22.out.frozen 4
       go_simp
       clear yq26 zq27
       have Fq28 := Lib.hid (Rq12.out.setSt (st' := addS st (k, p)) (vs' := (.slice Aq24 (st.length + 1) cq25)) (w2 := uq17) (by rw [HL.out]; exact Hhwq19.out) Hhgq20.out (by rw [HL.out]; omega) HF.out)
       have Tq29 := Lib.hid (Tq23.out.far (p := ⟨r, 4, none⟩) HNR.out (.slice Aq24 (st.length + 1) cq25))
       have Kq30 := Lib.hid (StStep.set (r := r) Kq16.out Hhgq20.out Hhlq21.out)
       refine hK.out _ _ (two_cells Tq29.out) (fun ht22 => ?_)
       clear hK K
       try simp only [Act.put, lz3, lz4, lz5]
       refine wpAnyH_done (by kernel_rfl) ?_ _
       go_wp2_with fail
       go_end0
       exact ⟨rfl, _, Fq28.out, Kq30.out⟩
   case st13 =>
    intro K hK
    go_simp
    obtain ⟨uq31, huq32⟩ : ∃ z, z = u0.alloc (.cells #[.int .i64 k, .int .i64 p] 201) := ⟨_, rfl⟩
    have Nq36 : Hid (Blk uq31 u0.heap.size 201 #[.int .i64 k, .int .i64 p]) := Lib.hid (by rw [huq32]; exact Blk.new _ _ _)
    rw [← huq32]
    have hbq33 : Below u0.heap.size u0 uq31 := by rw [huq32]; exact (Below.refl _ u0).alloc (Nat.le_refl _) _
    have NEq37 : Hid (vs.ownBlock ≠ some u0.heap.size) := Lib.hid (fun e => Nat.lt_irrefl _ (HR0.out.stR.lt _ e).2)
    have Rq34 := Lib.hid (HR0.out.then hbq33)
    have Tq35 := Lib.hid (HST0.out.below hbq33 HST0.out.lt)
    have Kq38 := Lib.hid (below_then HK0.out hbq33 HK0.out.size)
    clear huq32 hbq33
    refine hK.out _ _ (two_cells Tq35.out) (fun ht23 => ?_)
    clear hK K
    try simp only [Act.put, lz3, lz4, lz5]
    refine wpAnyH_ready (rs := [7]) (by kernel_rfl) (by simp) ?_
    refine AllReadyH.cons (o := ?ot24) ?ht24 ?st24 AllReadyH.nil
    case ht24 => (simp only [lz0, lz1, lz2]; rfl)
    case st24 =>
     intro K hK
     go_simp
     refine (find_any w0 _ r b ⟨va, vb, vc, vs, Rq34.out⟩ HSO.out (k, p)).mono ?_
     rintro eq44 uq39 ⟨rfl, hq40⟩
     rw [← HI.out]
     have Rq41 := Lib.hid (Rq34.out.then hq40)
     have Tq42 := Lib.hid (Tq35.out.below hq40 Tq35.out.lt)
     have Kq45 := Lib.hid (below_then Kq38.out hq40 Kq38.out.size)
     have Nq43 := Lib.hid (Nq36.out.below hq40 Nq36.out.lt)
     clear hq40
     go_wp2_with fail
     refine hK.out _ _ (two_cells Tq42.out) (fun ht25 => ?_)
     clear hK K
     try simp only [Act.put, lz3, lz4, lz5]
     refine wpAnyH_ready (rs := [10]) (by kernel_rfl) (by simp) ?_
     refine AllReadyH.cons (o := ?ot26) ?ht26 ?st26 AllReadyH.nil
     case ht26 => (simp only [lz0, lz1, lz2]; rfl)
     case st26 =>
      intro K hK
      go_simp
      refine (ins_any _ w0.heap.size vs st.length (st.flatMap stV) Rq41.out.stR (stV_one st) I hIl (by omega) _ (.int .i64 k) (.int .i64 p) Nq43.out NEq37.out rfl rfl Rq41.out.below.size).mono ?_
      rintro eq47 uq46 ⟨v', rfl, hwq48, hgq49, hlq50⟩
      obtain ⟨Aq53, cq54, rfl⟩ := own_slice hwq48
      rw [HD.out] at hwq48
      have Bq51 := Lib.hid (Rq41.out.blk.grown hgq49 (fun e => own_blk_ne Rq41.out.stR Rq41.out.blk (by decide) e.symm))
      have Tq52 := Lib.hid (Tq42.out.grown hgq49 (fun e => HNS.out e.symm))
      have Hhwq48 := Lib.hid hwq48
      have Hhgq49 := Lib.hid hgq49
      have Hhlq50 := Lib.hid hlq50
      clear hwq48 hgq49 hlq50
      go_wp2_with fail
      refine hK.out _ _ (two_cells Tq52.out) (fun ht27 => ?_)
      clear hK K
      try simp only [Act.put, lz3, lz4, lz5]
      refine wpAnyH_take (i := 11) (oi := ?oit2811) (v := ?vt2811) ?hit2811 (by kernel_rfl) (by kernel_rfl) (by kernel_rfl) ?hQt2811 (Or.inl ⟨?hwt2811, ?hyt2811⟩) (by assumption) ?restt2811
      case hit2811 => (first | (simp only [lz0, lz1, lz2]; rfl) | rfl)
      case hQt2811 => exact fun _ _ _ h => h
      case hwt2811 => rfl
      case hyt2811 => ((intro w hSw; go_simp); first | done | with_reducible rfl)
      try simp only [Act.put, lz3, lz4, lz5]
      refine wpAnyH_take (i := 12) (oi := ?oit2912) (v := ?vt2912) ?hit2912 (by kernel_rfl) (by kernel_rfl) (by kernel_rfl) ?hQt2912 (Or.inl ⟨?hwt2912, ?hyt2912⟩) (by assumption) ?restt2912
      case hit2912 => (first | (simp only [lz0, lz1, lz2]; rfl) | rfl)
      case hQt2912 => exact fun _ _ _ h => h
      case hwt2912 => rfl
      case hyt2912 => ((intro w hSw; go_simp); first | done | with_reducible rfl)
      try simp only [Act.put, lz3, lz4, lz5]
      refine wpAnyH_ready (rs := [13]) (by kernel_rfl) (by simp) ?_
      refine AllReadyH.cons (o := ?ot30) ?ht30 ?st30 AllReadyH.nil
      case ht30 => (simp only [lz0, lz1, lz2]; rfl)
      case st30 =>
       intro K hK
       have yq55 : uq46.cell? ⟨r, 4, none⟩ = some vs := by have := Bq51.out.cell 4; simpa using this
       have zq56 := Bq51.out.frozen 4
       go_simp
       clear yq55 zq56
       have Fq57 := Lib.hid (Rq41.out.setSt (st' := addS st (k, p)) (vs' := (.slice Aq53 (st.length + 1) cq54)) (w2 := uq46) (by rw [HL.out]; exact Hhwq48.out) Hhgq49.out (by rw [HL.out]; omega) HF.out)
       have Tq58 := Lib.hid (Tq52.out.far (p := ⟨r, 4, none⟩) HNR.out (.slice Aq53 (st.length + 1) cq54))
       have Kq59 := Lib.hid (StStep.set (r := r) Kq45.out Hhgq49.out Hhlq50.out)
       refine hK.out _ _ (two_cells Tq58.out) (fun ht31 => ?_)
       clear hK K
       try simp only [Act.put, lz3, lz4, lz5]
       refine wpAnyH_done (by kernel_rfl) ?_ _
       go_wp2_with fail
       go_end0
       exact ⟨rfl, _, Fq57.out, Kq59.out⟩
  case st9 =>
   intro K hK
   go_simp
   refine (find_any w0 _ r b ⟨va, vb, vc, vs, HR0.out⟩ HSO.out (k, p)).mono ?_
   rintro eq65 uq60 ⟨rfl, hq61⟩
   rw [← HI.out]
   have Rq62 := Lib.hid (HR0.out.then hq61)
   have Tq63 := Lib.hid (HST0.out.below hq61 HST0.out.lt)
   have Kq66 := Lib.hid (below_then HK0.out hq61 HK0.out.size)
   clear hq61
   go_wp2_with fail
   refine hK.out _ _ (two_cells Tq63.out) (fun ht32 => ?_)
   clear hK K
   try simp only [Act.put, lz3, lz4, lz5]
   refine wpAnyH_ready (rs := [4, 9]) (by kernel_rfl) (by simp) ?_
   refine AllReadyH.cons (o := ?ot33) ?ht33 ?st33 (AllReadyH.cons (o := ?ot34) ?ht34 ?st34 AllReadyH.nil)
   case ht33 => (simp only [lz0, lz1, lz2]; rfl)
   case ht34 => (simp only [lz0, lz1, lz2]; rfl)
   case st33 =>
    intro K hK
    have yq67 : uq60.cell? ⟨r, 4, none⟩ = some vs := by have := Rq62.out.blk.cell 4; simpa using this
    go_simp
    clear yq67
    refine hK.out _ _ (two_cells Tq63.out) (fun ht35 => ?_)
    clear hK K
    try simp only [Act.put, lz3, lz4, lz5]
    refine wpAnyH_ready (rs := [9]) (by kernel_rfl) (by simp) ?_
    refine AllReadyH.cons (o := ?ot36) ?ht36 ?st36 AllReadyH.nil
    case ht36 => (simp only [lz0, lz1, lz2]; rfl)
    case st36 =>
     intro K hK
     go_simp
     obtain ⟨uq68, huq69⟩ : ∃ z, z = uq60.alloc (.cells #[.int .i64 k, .int .i64 p] 201) := ⟨_, rfl⟩
     have Nq73 : Hid (Blk uq68 uq60.heap.size 201 #[.int .i64 k, .int .i64 p]) := Lib.hid (by rw [huq69]; exact Blk.new _ _ _)
     rw [← huq69]
     have hbq70 : Below uq60.heap.size uq60 uq68 := by rw [huq69]; exact (Below.refl _ uq60).alloc (Nat.le_refl _) _
     have NEq74 : Hid (vs.ownBlock ≠ some uq60.heap.size) := Lib.hid (fun e => Nat.lt_irrefl _ (Rq62.out.stR.lt _ e).2)
     have Rq71 := Lib.hid (Rq62.out.then hbq70)
     have Tq72 := Lib.hid (Tq63.out.below hbq70 Tq63.out.lt)
     have Kq75 := Lib.hid (below_then Kq66.out hbq70 Kq66.out.size)
     clear huq69 hbq70
     refine hK.out _ _ (two_cells Tq72.out) (fun ht37 => ?_)
     clear hK K
     try simp only [Act.put, lz3, lz4, lz5]
     refine wpAnyH_ready (rs := [10]) (by kernel_rfl) (by simp) ?_
     refine AllReadyH.cons (o := ?ot38) ?ht38 ?st38 AllReadyH.nil
     case ht38 => (simp only [lz0, lz1, lz2]; rfl)
     case st38 =>
      intro K hK
      go_simp
      refine (ins_any _ w0.heap.size vs st.length (st.flatMap stV) Rq71.out.stR (stV_one st) I hIl (by omega) _ (.int .i64 k) (.int .i64 p) Nq73.out NEq74.out rfl rfl Rq71.out.below.size).mono ?_
      rintro eq77 uq76 ⟨v', rfl, hwq78, hgq79, hlq80⟩
      obtain ⟨Aq83, cq84, rfl⟩ := own_slice hwq78
      rw [HD.out] at hwq78
      have Bq81 := Lib.hid (Rq71.out.blk.grown hgq79 (fun e => own_blk_ne Rq71.out.stR Rq71.out.blk (by decide) e.symm))
      have Tq82 := Lib.hid (Tq72.out.grown hgq79 (fun e => HNS.out e.symm))
      have Hhwq78 := Lib.hid hwq78
      have Hhgq79 := Lib.hid hgq79
      have Hhlq80 := Lib.hid hlq80
      clear hwq78 hgq79 hlq80
      go_wp2_with fail
      refine hK.out _ _ (two_cells Tq82.out) (fun ht39 => ?_)
      clear hK K
      try simp only [Act.put, lz3, lz4, lz5]
      refine wpAnyH_take (i := 11) (oi := ?oit4011) (v := ?vt4011) ?hit4011 (by kernel_rfl) (by kernel_rfl) (by kernel_rfl) ?hQt4011 (Or.inl ⟨?hwt4011, ?hyt4011⟩) (by assumption) ?restt4011
      case hit4011 => (first | (simp only [lz0, lz1, lz2]; rfl) | rfl)
      case hQt4011 => exact fun _ _ _ h => h
      case hwt4011 => rfl
      case hyt4011 => ((intro w hSw; go_simp); first | done | with_reducible rfl)
      try simp only [Act.put, lz3, lz4, lz5]
      refine wpAnyH_take (i := 12) (oi := ?oit4112) (v := ?vt4112) ?hit4112 (by kernel_rfl) (by kernel_rfl) (by kernel_rfl) ?hQt4112 (Or.inl ⟨?hwt4112, ?hyt4112⟩) (by assumption) ?restt4112
      case hit4112 => (first | (simp only [lz0, lz1, lz2]; rfl) | rfl)
      case hQt4112 => exact fun _ _ _ h => h
      case hwt4112 => rfl
      case hyt4112 => ((intro w hSw; go_simp); first | done | with_reducible rfl)
      try simp only [Act.put, lz3, lz4, lz5]
      refine wpAnyH_ready (rs := [13]) (by kernel_rfl) (by simp) ?_
      refine AllReadyH.cons (o := ?ot42) ?ht42 ?st42 AllReadyH.nil
      case ht42 => (simp only [lz0, lz1, lz2]; rfl)
      case st42 =>
       intro K hK
       have yq85 : uq76.cell? ⟨r, 4, none⟩ = some vs := by have := Bq81.out.cell 4; simpa using this
       have zq86 := Bq81.out.frozen 4
       go_simp
       clear yq85 zq86
       have Fq87 := Lib.hid (Rq71.out.setSt (st' := addS st (k, p)) (vs' := (.slice Aq83 (st.length + 1) cq84)) (w2 := uq76) (by rw [HL.out]; exact Hhwq78.out) Hhgq79.out (by rw [HL.out]; omega) HF.out)
       have Tq88 := Lib.hid (Tq82.out.far (p := ⟨r, 4, none⟩) HNR.out (.slice Aq83 (st.length + 1) cq84))
       have Kq89 := Lib.hid (StStep.set (r := r) Kq75.out Hhgq79.out Hhlq80.out)
       refine hK.out _ _ (two_cells Tq88.out) (fun ht43 => ?_)
       clear hK K
       try simp only [Act.put, lz3, lz4, lz5]
       refine wpAnyH_done (by kernel_rfl) ?_ _
       go_wp2_with fail
       go_end0
       exact ⟨rfl, _, Fq87.out, Kq89.out⟩
   case st34 =>
    intro K hK
    go_simp
    obtain ⟨uq90, huq91⟩ : ∃ z, z = uq60.alloc (.cells #[.int .i64 k, .int .i64 p] 201) := ⟨_, rfl⟩
    have Nq95 : Hid (Blk uq90 uq60.heap.size 201 #[.int .i64 k, .int .i64 p]) := Lib.hid (by rw [huq91]; exact Blk.new _ _ _)
    rw [← huq91]
    have hbq92 : Below uq60.heap.size uq60 uq90 := by rw [huq91]; exact (Below.refl _ uq60).alloc (Nat.le_refl _) _
    have NEq96 : Hid (vs.ownBlock ≠ some uq60.heap.size) := Lib.hid (fun e => Nat.lt_irrefl _ (Rq62.out.stR.lt _ e).2)
    have Rq93 := Lib.hid (Rq62.out.then hbq92)
    have Tq94 := Lib.hid (Tq63.out.below hbq92 Tq63.out.lt)
    have Kq97 := Lib.hid (below_then Kq66.out hbq92 Kq66.out.size)
    clear huq91 hbq92
    refine hK.out _ _ (two_cells Tq94.out) (fun ht44 => ?_)
    clear hK K
    try simp only [Act.put, lz3, lz4, lz5]
    refine wpAnyH_ready (rs := [4]) (by kernel_rfl) (by simp) ?_
    refine AllReadyH.cons (o := ?ot45) ?ht45 ?st45 AllReadyH.nil
    case ht45 => (simp only [lz0, lz1, lz2]; rfl)
    case st45 =>
     intro K hK
     have yq98 : uq90.cell? ⟨r, 4, none⟩ = some vs := by have := Rq93.out.blk.cell 4; simpa using this
     go_simp
     clear yq98
     refine hK.out _ _ (two_cells Tq94.out) (fun ht46 => ?_)
     clear hK K
     try simp only [Act.put, lz3, lz4, lz5]
     refine wpAnyH_ready (rs := [10]) (by kernel_rfl) (by simp) ?_
     refine AllReadyH.cons (o := ?ot47) ?ht47 ?st47 AllReadyH.nil
     case ht47 => (simp only [lz0, lz1, lz2]; rfl)
     case st47 =>
      intro K hK
      go_simp
      refine (ins_any _ w0.heap.size vs st.length (st.flatMap stV) Rq93.out.stR (stV_one st) I hIl (by omega) _ (.int .i64 k) (.int .i64 p) Nq95.out NEq96.out rfl rfl Rq93.out.below.size).mono ?_
      rintro eq100 uq99 ⟨v', rfl, hwq101, hgq102, hlq103⟩
      obtain ⟨Aq106, cq107, rfl⟩ := own_slice hwq101
      rw [HD.out] at hwq101
      have Bq104 := Lib.hid (Rq93.out.blk.grown hgq102 (fun e => own_blk_ne Rq93.out.stR Rq93.out.blk (by decide) e.symm))
      have Tq105 := Lib.hid (Tq94.out.grown hgq102 (fun e => HNS.out e.symm))
      have Hhwq101 := Lib.hid hwq101
      have Hhgq102 := Lib.hid hgq102
      have Hhlq103 := Lib.hid hlq103
      clear hwq101 hgq102 hlq103
      go_wp2_with fail
      refine hK.out _ _ (two_cells Tq105.out) (fun ht48 => ?_)
      clear hK K
      try simp only [Act.put, lz3, lz4, lz5]
      refine wpAnyH_take (i := 11) (oi := ?oit4911) (v := ?vt4911) ?hit4911 (by kernel_rfl) (by kernel_rfl) (by kernel_rfl) ?hQt4911 (Or.inl ⟨?hwt4911, ?hyt4911⟩) (by assumption) ?restt4911
      case hit4911 => (first | (simp only [lz0, lz1, lz2]; rfl) | rfl)
      case hQt4911 => exact fun _ _ _ h => h
      case hwt4911 => rfl
      case hyt4911 => ((intro w hSw; go_simp); first | done | with_reducible rfl)
      try simp only [Act.put, lz3, lz4, lz5]
      refine wpAnyH_take (i := 12) (oi := ?oit5012) (v := ?vt5012) ?hit5012 (by kernel_rfl) (by kernel_rfl) (by kernel_rfl) ?hQt5012 (Or.inl ⟨?hwt5012, ?hyt5012⟩) (by assumption) ?restt5012
      case hit5012 => (first | (simp only [lz0, lz1, lz2]; rfl) | rfl)
      case hQt5012 => exact fun _ _ _ h => h
      case hwt5012 => rfl
      case hyt5012 => ((intro w hSw; go_simp); first | done | with_reducible rfl)
      try simp only [Act.put, lz3, lz4, lz5]
      refine wpAnyH_ready (rs := [13]) (by kernel_rfl) (by simp) ?_
      refine AllReadyH.cons (o := ?ot51) ?ht51 ?st51 AllReadyH.nil
      case ht51 => (simp only [lz0, lz1, lz2]; rfl)
      case st51 =>
       intro K hK
       have yq108 : uq99.cell? ⟨r, 4, none⟩ = some vs := by have := Bq104.out.cell 4; simpa using this
       have zq109 := Bq104.out.frozen 4
       go_simp
       clear yq108 zq109
       have Fq110 := Lib.hid (Rq93.out.setSt (st' := addS st (k, p)) (vs' := (.slice Aq106 (st.length + 1) cq107)) (w2 := uq99) (by rw [HL.out]; exact Hhwq101.out) Hhgq102.out (by rw [HL.out]; omega) HF.out)
       have Tq111 := Lib.hid (Tq105.out.far (p := ⟨r, 4, none⟩) HNR.out (.slice Aq106 (st.length + 1) cq107))
       have Kq112 := Lib.hid (StStep.set (r := r) Kq97.out Hhgq102.out Hhlq103.out)
       refine hK.out _ _ (two_cells Tq111.out) (fun ht52 => ?_)
       clear hK K
       try simp only [Act.put, lz3, lz4, lz5]
       refine wpAnyH_done (by kernel_rfl) ?_ _
       go_wp2_with fail
       go_end0
       exact ⟨rfl, _, Fq110.out, Kq112.out⟩
  case st10 =>
   intro K hK
   go_simp
   obtain ⟨uq113, huq114⟩ : ∃ z, z = u0.alloc (.cells #[.int .i64 k, .int .i64 p] 201) := ⟨_, rfl⟩
   have Nq118 : Hid (Blk uq113 u0.heap.size 201 #[.int .i64 k, .int .i64 p]) := Lib.hid (by rw [huq114]; exact Blk.new _ _ _)
   rw [← huq114]
   have hbq115 : Below u0.heap.size u0 uq113 := by rw [huq114]; exact (Below.refl _ u0).alloc (Nat.le_refl _) _
   have NEq119 : Hid (vs.ownBlock ≠ some u0.heap.size) := Lib.hid (fun e => Nat.lt_irrefl _ (HR0.out.stR.lt _ e).2)
   have Rq116 := Lib.hid (HR0.out.then hbq115)
   have Tq117 := Lib.hid (HST0.out.below hbq115 HST0.out.lt)
   have Kq120 := Lib.hid (below_then HK0.out hbq115 HK0.out.size)
   clear huq114 hbq115
   refine hK.out _ _ (two_cells Tq117.out) (fun ht53 => ?_)
   clear hK K
   try simp only [Act.put, lz3, lz4, lz5]
   refine wpAnyH_ready (rs := [4, 7]) (by kernel_rfl) (by simp) ?_
   refine AllReadyH.cons (o := ?ot54) ?ht54 ?st54 (AllReadyH.cons (o := ?ot55) ?ht55 ?st55 AllReadyH.nil)
   case ht54 => (simp only [lz0, lz1, lz2]; rfl)
   case ht55 => (simp only [lz0, lz1, lz2]; rfl)
   case st54 =>
    intro K hK
    have yq121 : uq113.cell? ⟨r, 4, none⟩ = some vs := by have := Rq116.out.blk.cell 4; simpa using this
    go_simp
    clear yq121
    refine hK.out _ _ (two_cells Tq117.out) (fun ht56 => ?_)
    clear hK K
    try simp only [Act.put, lz3, lz4, lz5]
    refine wpAnyH_ready (rs := [7]) (by kernel_rfl) (by simp) ?_
    refine AllReadyH.cons (o := ?ot57) ?ht57 ?st57 AllReadyH.nil
    case ht57 => (simp only [lz0, lz1, lz2]; rfl)
    case st57 =>
     intro K hK
     go_simp
     refine (find_any w0 _ r b ⟨va, vb, vc, vs, Rq116.out⟩ HSO.out (k, p)).mono ?_
     rintro eq127 uq122 ⟨rfl, hq123⟩
     rw [← HI.out]
     have Rq124 := Lib.hid (Rq116.out.then hq123)
     have Tq125 := Lib.hid (Tq117.out.below hq123 Tq117.out.lt)
     have Kq128 := Lib.hid (below_then Kq120.out hq123 Kq120.out.size)
     have Nq126 := Lib.hid (Nq118.out.below hq123 Nq118.out.lt)
     clear hq123
     go_wp2_with fail
     refine hK.out _ _ (two_cells Tq125.out) (fun ht58 => ?_)
     clear hK K
     try simp only [Act.put, lz3, lz4, lz5]
     refine wpAnyH_ready (rs := [10]) (by kernel_rfl) (by simp) ?_
     refine AllReadyH.cons (o := ?ot59) ?ht59 ?st59 AllReadyH.nil
     case ht59 => (simp only [lz0, lz1, lz2]; rfl)
     case st59 =>
      intro K hK
      go_simp
      refine (ins_any _ w0.heap.size vs st.length (st.flatMap stV) Rq124.out.stR (stV_one st) I hIl (by omega) _ (.int .i64 k) (.int .i64 p) Nq126.out NEq119.out rfl rfl Rq124.out.below.size).mono ?_
      rintro eq130 uq129 ⟨v', rfl, hwq131, hgq132, hlq133⟩
      obtain ⟨Aq136, cq137, rfl⟩ := own_slice hwq131
      rw [HD.out] at hwq131
      have Bq134 := Lib.hid (Rq124.out.blk.grown hgq132 (fun e => own_blk_ne Rq124.out.stR Rq124.out.blk (by decide) e.symm))
      have Tq135 := Lib.hid (Tq125.out.grown hgq132 (fun e => HNS.out e.symm))
      have Hhwq131 := Lib.hid hwq131
      have Hhgq132 := Lib.hid hgq132
      have Hhlq133 := Lib.hid hlq133
      clear hwq131 hgq132 hlq133
      go_wp2_with fail
      refine hK.out _ _ (two_cells Tq135.out) (fun ht60 => ?_)
      clear hK K
      try simp only [Act.put, lz3, lz4, lz5]
      refine wpAnyH_take (i := 11) (oi := ?oit6111) (v := ?vt6111) ?hit6111 (by kernel_rfl) (by kernel_rfl) (by kernel_rfl) ?hQt6111 (Or.inl ⟨?hwt6111, ?hyt6111⟩) (by assumption) ?restt6111
      case hit6111 => (first | (simp only [lz0, lz1, lz2]; rfl) | rfl)
      case hQt6111 => exact fun _ _ _ h => h
      case hwt6111 => rfl
      case hyt6111 => ((intro w hSw; go_simp); first | done | with_reducible rfl)
      try simp only [Act.put, lz3, lz4, lz5]
      refine wpAnyH_take (i := 12) (oi := ?oit6212) (v := ?vt6212) ?hit6212 (by kernel_rfl) (by kernel_rfl) (by kernel_rfl) ?hQt6212 (Or.inl ⟨?hwt6212, ?hyt6212⟩) (by assumption) ?restt6212
      case hit6212 => (first | (simp only [lz0, lz1, lz2]; rfl) | rfl)
      case hQt6212 => exact fun _ _ _ h => h
      case hwt6212 => rfl
      case hyt6212 => ((intro w hSw; go_simp); first | done | with_reducible rfl)
      try simp only [Act.put, lz3, lz4, lz5]
      refine wpAnyH_ready (rs := [13]) (by kernel_rfl) (by simp) ?_
      refine AllReadyH.cons (o := ?ot63) ?ht63 ?st63 AllReadyH.nil
      case ht63 => (simp only [lz0, lz1, lz2]; rfl)
      case st63 =>
       intro K hK
       have yq138 : uq129.cell? ⟨r, 4, none⟩ = some vs := by have := Bq134.out.cell 4; simpa using this
       have zq139 := Bq134.out.frozen 4
       go_simp
       clear yq138 zq139
       have Fq140 := Lib.hid (Rq124.out.setSt (st' := addS st (k, p)) (vs' := (.slice Aq136 (st.length + 1) cq137)) (w2 := uq129) (by rw [HL.out]; exact Hhwq131.out) Hhgq132.out (by rw [HL.out]; omega) HF.out)
       have Tq141 := Lib.hid (Tq135.out.far (p := ⟨r, 4, none⟩) HNR.out (.slice Aq136 (st.length + 1) cq137))
       have Kq142 := Lib.hid (StStep.set (r := r) Kq128.out Hhgq132.out Hhlq133.out)
       refine hK.out _ _ (two_cells Tq141.out) (fun ht64 => ?_)
       clear hK K
       try simp only [Act.put, lz3, lz4, lz5]
       refine wpAnyH_done (by kernel_rfl) ?_ _
       go_wp2_with fail
       go_end0
       exact ⟨rfl, _, Fq140.out, Kq142.out⟩
   case st55 =>
    intro K hK
    go_simp
    refine (find_any w0 _ r b ⟨va, vb, vc, vs, Rq116.out⟩ HSO.out (k, p)).mono ?_
    rintro eq148 uq143 ⟨rfl, hq144⟩
    rw [← HI.out]
    have Rq145 := Lib.hid (Rq116.out.then hq144)
    have Tq146 := Lib.hid (Tq117.out.below hq144 Tq117.out.lt)
    have Kq149 := Lib.hid (below_then Kq120.out hq144 Kq120.out.size)
    have Nq147 := Lib.hid (Nq118.out.below hq144 Nq118.out.lt)
    clear hq144
    go_wp2_with fail
    refine hK.out _ _ (two_cells Tq146.out) (fun ht65 => ?_)
    clear hK K
    try simp only [Act.put, lz3, lz4, lz5]
    refine wpAnyH_ready (rs := [4]) (by kernel_rfl) (by simp) ?_
    refine AllReadyH.cons (o := ?ot66) ?ht66 ?st66 AllReadyH.nil
    case ht66 => (simp only [lz0, lz1, lz2]; rfl)
    case st66 =>
     intro K hK
     have yq150 : uq143.cell? ⟨r, 4, none⟩ = some vs := by have := Rq145.out.blk.cell 4; simpa using this
     go_simp
     clear yq150
     refine hK.out _ _ (two_cells Tq146.out) (fun ht67 => ?_)
     clear hK K
     try simp only [Act.put, lz3, lz4, lz5]
     refine wpAnyH_ready (rs := [10]) (by kernel_rfl) (by simp) ?_
     refine AllReadyH.cons (o := ?ot68) ?ht68 ?st68 AllReadyH.nil
     case ht68 => (simp only [lz0, lz1, lz2]; rfl)
     case st68 =>
      intro K hK
      go_simp
      refine (ins_any _ w0.heap.size vs st.length (st.flatMap stV) Rq145.out.stR (stV_one st) I hIl (by omega) _ (.int .i64 k) (.int .i64 p) Nq147.out NEq119.out rfl rfl Rq145.out.below.size).mono ?_
      rintro eq152 uq151 ⟨v', rfl, hwq153, hgq154, hlq155⟩
      obtain ⟨Aq158, cq159, rfl⟩ := own_slice hwq153
      rw [HD.out] at hwq153
      have Bq156 := Lib.hid (Rq145.out.blk.grown hgq154 (fun e => own_blk_ne Rq145.out.stR Rq145.out.blk (by decide) e.symm))
      have Tq157 := Lib.hid (Tq146.out.grown hgq154 (fun e => HNS.out e.symm))
      have Hhwq153 := Lib.hid hwq153
      have Hhgq154 := Lib.hid hgq154
      have Hhlq155 := Lib.hid hlq155
      clear hwq153 hgq154 hlq155
      go_wp2_with fail
      refine hK.out _ _ (two_cells Tq157.out) (fun ht69 => ?_)
      clear hK K
      try simp only [Act.put, lz3, lz4, lz5]
      refine wpAnyH_take (i := 11) (oi := ?oit7011) (v := ?vt7011) ?hit7011 (by kernel_rfl) (by kernel_rfl) (by kernel_rfl) ?hQt7011 (Or.inl ⟨?hwt7011, ?hyt7011⟩) (by assumption) ?restt7011
      case hit7011 => (first | (simp only [lz0, lz1, lz2]; rfl) | rfl)
      case hQt7011 => exact fun _ _ _ h => h
      case hwt7011 => rfl
      case hyt7011 => ((intro w hSw; go_simp); first | done | with_reducible rfl)
      try simp only [Act.put, lz3, lz4, lz5]
      refine wpAnyH_take (i := 12) (oi := ?oit7112) (v := ?vt7112) ?hit7112 (by kernel_rfl) (by kernel_rfl) (by kernel_rfl) ?hQt7112 (Or.inl ⟨?hwt7112, ?hyt7112⟩) (by assumption) ?restt7112
      case hit7112 => (first | (simp only [lz0, lz1, lz2]; rfl) | rfl)
      case hQt7112 => exact fun _ _ _ h => h
      case hwt7112 => rfl
      case hyt7112 => ((intro w hSw; go_simp); first | done | with_reducible rfl)
      try simp only [Act.put, lz3, lz4, lz5]
      refine wpAnyH_ready (rs := [13]) (by kernel_rfl) (by simp) ?_
      refine AllReadyH.cons (o := ?ot72) ?ht72 ?st72 AllReadyH.nil
      case ht72 => (simp only [lz0, lz1, lz2]; rfl)
      case st72 =>
       intro K hK
       have yq160 : uq151.cell? ⟨r, 4, none⟩ = some vs := by have := Bq156.out.cell 4; simpa using this
       have zq161 := Bq156.out.frozen 4
       go_simp
       clear yq160 zq161
       have Fq162 := Lib.hid (Rq145.out.setSt (st' := addS st (k, p)) (vs' := (.slice Aq158 (st.length + 1) cq159)) (w2 := uq151) (by rw [HL.out]; exact Hhwq153.out) Hhgq154.out (by rw [HL.out]; omega) HF.out)
       have Tq163 := Lib.hid (Tq157.out.far (p := ⟨r, 4, none⟩) HNR.out (.slice Aq158 (st.length + 1) cq159))
       have Kq164 := Lib.hid (StStep.set (r := r) Kq149.out Hhgq154.out Hhlq155.out)
       refine hK.out _ _ (two_cells Tq163.out) (fun ht73 => ?_)
       clear hK K
       try simp only [Act.put, lz3, lz4, lz5]
       refine wpAnyH_done (by kernel_rfl) ?_ _
       go_wp2_with fail
       go_end0
       exact ⟨rfl, _, Fq162.out, Kq164.out⟩
def NewOut (w : World) (b : Nat) (M : List Mg) (s : Nm) (e : Ending) (w' : World) : Prop :=
 ∃ r st, e = .returned (at0 r) ∧ Row w w' r b (bytesI s) (befI (s.length + 1)) (behI s.length) st ∧ StOK st (stepSet M (bytesI s) (List.range (s.length + 1))) ∧ st.length ≤ s.length
theorem newRow_any (w : World) (b : Nat) (V : Voc) (hC : Coder w b V) (A : Option Addr) (n c : Nat) (s : Nm) (hs : BytesIn w A n s) (hn : n ≤ 1000000) (hM : V.mer.length ≤ 1000000) :
  Calls Tryz.prog 61 #[at0 b, .slice A n c] w (NewOut w b V.mer s) := by
 obtain ⟨i0, hi, hz0, hz1, hz2⟩ := info_parts intInfo1
 obtain ⟨j0, hj0, hy0, hy1, hy2⟩ := info_parts stepInfo
 have hsl : s.length = n := by have := hs.2.1.len; simpa using this
 have hO := rowOK_init s
 rw [hsl] at hO
 obtain ⟨r, hr⟩ : ∃ r, r = w.heap.size := ⟨_, rfl⟩
 have hb1 : Below w.heap.size w (w.alloc (.cells #[at0 b, .slice none 0 0, .slice none 0 0, .slice none 0 0, .slice none 0 0] 130)) := (Below.refl _ w).alloc (Nat.le_refl _) _
 have hR1 : IsRow w (w.alloc (.cells #[at0 b, .slice none 0 0, .slice none 0 0, .slice none 0 0, .slice none 0 0] 130)) r b [] [] [] [] (.slice none 0 0) (.slice none 0 0) (.slice none 0 0) (.slice none 0 0) := {
  blk := by rw [hr]; exact Blk.new _ _ _
  new := by omega
  below := hb1
  atR := World.ownsRow_nil _ _ _ _
  befR := World.ownsRow_nil _ _ _ _
  behR := World.ownsRow_nil _ _ _ _
  stR := World.ownsRow_nil _ _ _ _
  nab := fun g h => by simp [Value.ownBlock] at h
  nac := fun g h => by simp [Value.ownBlock] at h
  nbc := fun g h => by simp [Value.ownBlock] at h
  fits := ⟨by simp, by simp, by simp⟩
  small := by simp
  stF := by simp }
 have HC := Lib.hid hC
 have HSB := Lib.hid hs
 have HSL := Lib.hid hsl
 have HO := Lib.hid hO
 have HR1 := Lib.hid hR1
 have HRR := Lib.hid hr
 clear hC hs hsl hO hb1 hR1
 unfold at0
 go_enter Tryz.func61, Tryz.ntmps61
 go_wp2_with fail
 rw [← hr]
 clear hr
 go_loopw [16] (fun i wr => ∃ (j : Nat) (va vb vc : Value), j ≤ n ∧ i = .int .i64 (j : Nat) ∧ IsRow w wr r b ((bytesI s).take j) (befI j) (behI j) [] va vb vc (.slice none 0 0)) (fun i _ => n - (intOf i).toNat)
 case atStart => exact ⟨0, _, _, _, Nat.zero_le _, rfl, HR1.out⟩
 case round =>
  obtain ⟨j, va, vb, vc, hj, rfl, hR⟩ := hrel
  rcases Nat.lt_or_ge j n with hlt | hge
  ·obtain ⟨adx, x, e1, hx, xc⟩ := (HSB.out.below hR.below).at j hlt
   subst e1
   have hxl : x.toNat < 256 := x.toBitVec.isLt
   have hx0 : (0 : Int) ≤ (x.toNat : Int) := by omega
   have hx1 : (x.toNat : Int) < 256 := by omega
   obtain ⟨L, hL⟩ : ∃ L, L = (bytesI s).take j := ⟨_, rfl⟩
   have htl : L.length = j := by rw [hL, List.length_take, bytesI_len, HSL.out]; omega
   have htk : (bytesI s).take (j + 1) = L ++ [((x.toNat : Nat) : Int)] := by
    rw [hL, List.take_add_one]
    unfold bytesI
    rw [List.getElem?_map, hx]
    rfl
   rw [← hL] at hR
   have HR := Lib.hid hR
   have HTL := Lib.hid htl
   have HTK := Lib.hid htk
   obtain ⟨Ac, Bc, ca, cb, bp, D, csC, hCC⟩ := HC.out
   have hcb : ∀ w', Below w.heap.size w w' → w'.cell? ⟨b, 2 + x.toNat, none⟩ = some (.int .i64 (x.toNat : Nat)) := fun w' hb => by
    rw [(hCC.blk.below hb hCC.blk.lt).cell]
    exact hCC.cB x.toNat hxl
   have HCB := Lib.hid hcb
   have hjz : (0 : Int) ≤ (j : Int) := by omega
   have hjn : (j : Int) < (n : Int) := by omega
   have hjb : (j : Int) ≤ 1000000 := by omega
   clear hR htl htk hcb hCC hx hL
   go_wp2_with fail
   clear xc
   refine wp_region_held_drew (S := fun w' => w'.cell? ⟨b, 2 + x.toNat, none⟩ = some (.int .i64 (x.toNat : Nat))) (by kernel_rfl) (HCB.out _ HR.out.below.drew) (fun hHeld => ?_)
   obtain ⟨u0, hu0⟩ : ∃ z, z = wr.drew := ⟨_, rfl⟩
   rw [← hu0] at hHeld ⊢
   have hb0 : Below wr.heap.size wr u0 := by rw [hu0]; exact (Below.refl _ wr).drew
   have HR0 := Lib.hid (HR.out.then hb0)
   clear hu0 hb0
   refine wpAnyH_take (i := 0) (oi := ?oit10) (v := ?vt10) ?hit10 (by kernel_rfl) (by kernel_rfl) (by kernel_rfl) ?hQt10 (Or.inl ⟨?hwt10, ?hyt10⟩) (by assumption) ?restt10
   case hit10 => (first | (simp only [lz0, lz1, lz2]; rfl) | rfl)
   case hQt10 => exact fun _ _ _ h => h
   case hwt10 => rfl
   case hyt10 => ((intro w hSw; go_simp); first | done | with_reducible rfl)
   try simp only [Act.put, lz3, lz4, lz5]
   refine wpAnyH_take (i := 1) (oi := ?oit21) (v := ?vt21) ?hit21 (by kernel_rfl) (by kernel_rfl) (by kernel_rfl) ?hQt21 (Or.inl ⟨?hwt21, ?hyt21⟩) (by assumption) ?restt21
   case hit21 => (first | (simp only [lz0, lz1, lz2]; rfl) | rfl)
   case hQt21 => exact fun _ _ _ h => h
   case hwt21 => rfl
   case hyt21 => ((intro w hSw; go_simp); first | done | with_reducible rfl)
   try simp only [Act.put, lz3, lz4, lz5]
   refine wpAnyH_take (i := 5) (oi := ?oit35) (v := ?vt35) ?hit35 (by kernel_rfl) (by kernel_rfl) (by kernel_rfl) ?hQt35 (Or.inl ⟨?hwt35, ?hyt35⟩) (by assumption) ?restt35
   case hit35 => (first | (simp only [lz0, lz1, lz2]; rfl) | rfl)
   case hQt35 => exact fun _ _ _ h => h
   case hwt35 => rfl
   case hyt35 => ((intro w hSw; go_simp); first | done | with_reducible rfl)
   try simp only [Act.put, lz3, lz4, lz5]
   refine wpAnyH_take (i := 6) (oi := ?oit46) (v := ?vt46) ?hit46 (by kernel_rfl) (by kernel_rfl) (by kernel_rfl) ?hQt46 (Or.inl ⟨?hwt46, ?hyt46⟩) (by assumption) ?restt46
   case hit46 => (first | (simp only [lz0, lz1, lz2]; rfl) | rfl)
   case hQt46 => exact fun _ _ _ h => h
   case hwt46 => rfl
   case hyt46 => ((intro w hSw; go_simp); first | done | with_reducible rfl)
   try simp only [Act.put, lz3, lz4, lz5]
   refine wpAnyH_take (i := 2) (oi := ?oit52) (v := ?vt52) ?hit52 (by kernel_rfl) (by kernel_rfl) (by kernel_rfl) ?hQt52 (Or.inl ⟨?hwt52, ?hyt52⟩) (by assumption) ?restt52
   case hit52 => (first | (simp only [lz0, lz1, lz2]; rfl) | rfl)
   case hQt52 => exact fun _ _ _ h => h
   case hwt52 => rfl
   case hyt52 => ((intro w hSw; go_simp); first | done | with_reducible rfl)
   try simp only [Act.put, lz3, lz4, lz5]
   refine wpAnyH_take (i := 7) (oi := ?oit67) (v := ?vt67) ?hit67 (by kernel_rfl) (by kernel_rfl) (by kernel_rfl) ?hQt67 (Or.inl ⟨?hwt67, ?hyt67⟩) (by assumption) ?restt67
   case hit67 => (first | (simp only [lz0, lz1, lz2]; rfl) | rfl)
   case hQt67 => exact fun _ _ _ h => h
   case hwt67 => rfl
   case hyt67 => ((intro w hSw; go_simp); first | done | with_reducible rfl)
   try simp only [Act.put, lz3, lz4, lz5]
   refine wpAnyH_take (i := 3) (oi := ?oit73) (v := ?vt73) ?hit73 (by kernel_rfl) (by kernel_rfl) (by kernel_rfl) ?hQt73 (Or.inl ⟨?hwt73, ?hyt73⟩) (by assumption) ?restt73
   case hit73 => (first | (simp only [lz0, lz1, lz2]; rfl) | rfl)
   case hQt73 => exact fun _ _ _ h => h
   case hwt73 => rfl
   case hyt73 => ((intro w hSw; go_simp); first | done | with_reducible rfl)
   try simp only [Act.put, lz3, lz4, lz5]
   refine wpAnyH_take (i := 8) (oi := ?oit88) (v := ?vt88) ?hit88 (by kernel_rfl) (by kernel_rfl) (by kernel_rfl) ?hQt88 (Or.inl ⟨?hwt88, ?hyt88⟩) (by assumption) ?restt88
   case hit88 => (first | (simp only [lz0, lz1, lz2]; rfl) | rfl)
   case hQt88 => exact fun _ _ _ h => h
   case hwt88 => rfl
   case hyt88 => ((intro w hSw; go_simp); first | done | with_reducible rfl)
   try simp only [Act.put, lz3, lz4, lz5]
   refine wpAnyH_take (i := 9) (oi := ?oit99) (v := ?vt99) ?hit99 (by kernel_rfl) (by kernel_rfl) (by kernel_rfl) ?hQt99 (Or.inl ⟨?hwt99, ?hyt99⟩) (by assumption) ?restt99
   case hit99 => (first | (simp only [lz0, lz1, lz2]; rfl) | rfl)
   case hQt99 => exact fun _ _ _ h => h
   case hwt99 => rfl
   case hyt99 => ((intro w hSw; go_simp); first | done | with_reducible rfl)
   try simp only [Act.put, lz3, lz4, lz5]
   refine wpAnyH_take (i := 10) (oi := ?oit1010) (v := ?vt1010) ?hit1010 (by kernel_rfl) (by kernel_rfl) (by kernel_rfl) ?hQt1010 (Or.inl ⟨?hwt1010, ?hyt1010⟩) (by assumption) ?restt1010
   case hit1010 => (first | (simp only [lz0, lz1, lz2]; rfl) | rfl)
   case hQt1010 => exact fun _ _ _ h => h
   case hwt1010 => rfl
   case hyt1010 => ((intro w hSw; go_simp); first | done | with_reducible rfl)
   try simp only [Act.put, lz3, lz4, lz5]
   refine wpAnyH_ready (rs := [4, 11]) (by kernel_rfl) (by simp) ?_
   refine AllReadyH.cons (o := ?ot11) ?ht11 ?st11 (AllReadyH.cons (o := ?ot12) ?ht12 ?st12 AllReadyH.nil)
   case ht11 => (simp only [lz0, lz1, lz2]; rfl)
   case ht12 => (simp only [lz0, lz1, lz2]; rfl)
   case st11 =>
    intro K hK
    have yq1 : u0.cell? ⟨r, 1, none⟩ = some va := by have := HR0.out.blk.cell 1; simpa using this
    go_simp
    clear yq1
    refine hK.out _ _ (HCB.out _ HR0.out.below) (fun ht13 => ?_)
    clear hK K
    try simp only [Act.put, lz3, lz4, lz5]
    refine wpAnyH_ready (rs := [11]) (by kernel_rfl) (by simp) ?_
    refine AllReadyH.cons (o := ?ot14) ?ht14 ?st14 AllReadyH.nil
    case ht14 => (simp only [lz0, lz1, lz2]; rfl)
    case st14 =>
     intro K hK
     go_simp
     obtain ⟨uq2, huq3⟩ : ∃ z, z = u0.alloc (.cells #[.int .i64 (x.toNat : Nat)] 3) := ⟨_, rfl⟩
     have Nq6 : Hid (Blk uq2 u0.heap.size 3 #[.int .i64 (x.toNat : Nat)]) := Lib.hid (by rw [huq3]; exact Blk.new _ _ _)
     rw [← huq3]
     have hbq4 : Below u0.heap.size u0 uq2 := by rw [huq3]; exact (Below.refl _ u0).alloc (Nat.le_refl _) _
     have Rq5 := Lib.hid (HR0.out.then hbq4)
     clear huq3 hbq4
     refine hK.out _ _ (HCB.out _ Rq5.out.below) (fun ht15 => ?_)
     clear hK K
     try simp only [Act.put, lz3, lz4, lz5]
     refine wpAnyH_ready (rs := [12]) (by kernel_rfl) (by simp) ?_
     refine AllReadyH.cons (o := ?ot16) ?ht16 ?st16 AllReadyH.nil
     case ht16 => (simp only [lz0, lz1, lz2]; rfl)
     case st16 =>
      intro K hK
      refine step_append_srcN _ rfl (.tmp 25) (.tmp 32) 52 rfl w.heap.size 3 i0 (.int .i64 0) 1 8 Tryz.underlying52 hi hz0 hz1 hz2 rfl (by omega) va _ _ rfl Rq5.out.atR (some ⟨u0.heap.size, 0, none⟩) 1 1 [.int .i64 (x.toNat : Nat)] rfl ⟨rfl, fun ad e j u hu => by cases e; rw [addr_add, Nq6.out.cell]; simpa using hu, fun e => by cases e⟩ (by simp [Value.oneCell']) (by rw [HTL.out]; unfold maxLen; omega) (by rw [HTL.out]; omega) Rq5.out.below.size ?_
      intro v' uq8 hwq9 hgq10 hlq11
      obtain ⟨Aq12, cq13, rfl⟩ := own_slice hwq9
      have Bq14 := Lib.hid (Rq5.out.blk.grown hgq10 (fun e => own_blk_ne Rq5.out.atR Rq5.out.blk (by decide) e.symm))
      have Bq14b : Hid (Below w.heap.size w uq8) := Lib.hid (Rq5.out.below.grown hgq10 Rq5.out.below.size (fun k e => (Rq5.out.atR.lt k e).1))
      have Hhwq9 := Lib.hid hwq9
      have Hhgq10 := Lib.hid hgq10
      have Hhlq11 := Lib.hid hlq11
      clear hwq9 hgq10 hlq11
      refine hK.out _ _ (HCB.out _ Bq14b.out) (fun ht17 => ?_)
      clear hK K
      try simp only [Act.put, lz3, lz4, lz5]
      refine wpAnyH_take (i := 13) (oi := ?oit1813) (v := ?vt1813) ?hit1813 (by kernel_rfl) (by kernel_rfl) (by kernel_rfl) ?hQt1813 (Or.inl ⟨?hwt1813, ?hyt1813⟩) (by assumption) ?restt1813
      case hit1813 => (first | (simp only [lz0, lz1, lz2]; rfl) | rfl)
      case hQt1813 => exact fun _ _ _ h => h
      case hwt1813 => rfl
      case hyt1813 => ((intro w hSw; go_simp); first | done | with_reducible rfl)
      try simp only [Act.put, lz3, lz4, lz5]
      refine wpAnyH_take (i := 14) (oi := ?oit1914) (v := ?vt1914) ?hit1914 (by kernel_rfl) (by kernel_rfl) (by kernel_rfl) ?hQt1914 (Or.inl ⟨?hwt1914, ?hyt1914⟩) (by assumption) ?restt1914
      case hit1914 => (first | (simp only [lz0, lz1, lz2]; rfl) | rfl)
      case hQt1914 => exact fun _ _ _ h => h
      case hwt1914 => rfl
      case hyt1914 => ((intro w hSw; go_simp); first | done | with_reducible rfl)
      try simp only [Act.put, lz3, lz4, lz5]
      refine wpAnyH_ready (rs := [15]) (by kernel_rfl) (by simp) ?_
      refine AllReadyH.cons (o := ?ot20) ?ht20 ?st20 AllReadyH.nil
      case ht20 => (simp only [lz0, lz1, lz2]; rfl)
      case st20 =>
       intro K hK
       have yq15 : uq8.cell? ⟨r, 1, none⟩ = some va := by have := Bq14.out.cell 1; simpa using this
       have zq16 := Bq14.out.frozen 1
       go_simp
       clear yq15 zq16
       have Fq17 := Lib.hid (Rq5.out.pushAt (v' := (.slice Aq12 (L.length + 1) cq13)) (w2 := uq8) (x := (x.toNat : Nat)) Hhwq9.out Hhgq10.out Hhlq11.out ⟨by omega, by omega⟩ (by rw [HTL.out]; omega))
       refine hK.out _ _ (HCB.out _ Fq17.out.below) (fun ht21 => ?_)
       clear hK K
       try simp only [Act.put, lz3, lz4, lz5]
       refine wpAnyH_done (by kernel_rfl) ?_ _
       obtain ⟨W5, hW5⟩ : ∃ z, z = (uq8.setCell ⟨r, 1, none⟩ (.slice Aq12 (L.length + 1) cq13)) := ⟨_, rfl⟩
       have H5 := Fq17.out
       rw [← hW5] at H5 ⊢
       have HR5 := Lib.hid H5
       have HR5a := Lib.hid (H5.then ((Below.refl _ W5).alloc (Nat.le_refl _) (.cells #[.int .i64 ((j : Int) - 1)] 3)))
       have y2 : W5.cell? ⟨r, 2, none⟩ = some vb := H5.cl.2.2.1
       clear hW5 H5 hHeld
       go_wp2_with (at_builtin; clear y2; refine wpList_append_own_at _ rfl _ _ 52 rfl w.heap.size 3 i0 (.int .i64 0) 1 8 Tryz.underlying52 hi hz0 hz1 hz2 rfl (by decide) vb _ _ rfl HR5a.out.befR ⟨W5.heap.size, 0, none⟩ 1 1 [.int .i64 ((j : Int) - 1)] rfl rfl one_cell_at (by simp [Value.oneCell']) (by rw [befI_len]; unfold maxLen; omega) (by rw [befI_len]; omega) HR5a.out.below.size ?_; intro v6 w6 ho6 hg6 hn6 hl6; clear hn6; obtain ⟨A6, c6, rfl⟩ := own_slice ho6; have B6 := HR5a.out.blk.grown hg6 (fun e => own_blk_ne HR5a.out.befR HR5a.out.blk (by decide) e.symm); have e6 : w6.cell? ⟨r, 2, none⟩ = some vb := (by have := B6.cell 2; simpa using this); have z6 := B6.frozen 2; have r6 := HR5a.out.pushBef (x := (j : Int) - 1) ho6 hg6 hl6 ⟨by omega, by omega⟩ (by rw [befI_len]; omega); have y3 := r6.cl.2.2.2.1; rw [befI_len] at y3; rw [befI_len]; rw [befI_len, ← befI_succ] at r6; have R6 := Lib.hid r6; clear B6 ho6 hg6 hl6 r6; have R6a := Lib.hid (R6.out.then ((Below.refl _ _).alloc (Nat.le_refl _) (.cells #[.int .i64 ((j : Int) + 1)] 3))); go_wp2_with (at_builtin; clear y3 e6 z6; refine wpList_append_own_at _ rfl _ _ 52 rfl w.heap.size 3 i0 (.int .i64 0) 1 8 Tryz.underlying52 hi hz0 hz1 hz2 rfl (by decide) vc _ _ rfl R6a.out.behR ⟨w6.heap.size, 0, none⟩ 1 1 [.int .i64 ((j : Int) + 1)] rfl rfl (one_cell_at' (size_setCell' _ _ _)) (by simp [Value.oneCell']) (by rw [behI_len]; unfold maxLen; omega) (by rw [behI_len]; omega) R6a.out.below.size ?_; intro v7 w7 ho7 hg7 hn7 hl7; clear hn7; obtain ⟨A7, c7, rfl⟩ := own_slice ho7; have B7 := R6a.out.blk.grown hg7 (fun e => own_blk_ne R6a.out.behR R6a.out.blk (by decide) e.symm); have e7 : w7.cell? ⟨r, 3, none⟩ = some vc := (by have := B7.cell 3; simpa using this); have z7 := B7.frozen 3; have r7 := R6a.out.pushBeh (x := (j : Int) + 1) ho7 hg7 hl7 ⟨by omega, by omega⟩ (by rw [behI_len]; omega); rw [behI_len]; rw [behI_len, ← behI_succ, ← HTK.out] at r7; have R7 := Lib.hid r7; clear B7 ho7 hg7 hl7 r7))
       go_roundw
       case rel => exact ⟨j + 1, _, _, _, by omega, by go_num, R7.out⟩
       case measure => simp [intOf]; omega
   case st12 =>
    intro K hK
    go_simp
    obtain ⟨uq18, huq19⟩ : ∃ z, z = u0.alloc (.cells #[.int .i64 (x.toNat : Nat)] 3) := ⟨_, rfl⟩
    have Nq22 : Hid (Blk uq18 u0.heap.size 3 #[.int .i64 (x.toNat : Nat)]) := Lib.hid (by rw [huq19]; exact Blk.new _ _ _)
    rw [← huq19]
    have hbq20 : Below u0.heap.size u0 uq18 := by rw [huq19]; exact (Below.refl _ u0).alloc (Nat.le_refl _) _
    have Rq21 := Lib.hid (HR0.out.then hbq20)
    clear huq19 hbq20
    refine hK.out _ _ (HCB.out _ Rq21.out.below) (fun ht22 => ?_)
    clear hK K
    try simp only [Act.put, lz3, lz4, lz5]
    refine wpAnyH_ready (rs := [4]) (by kernel_rfl) (by simp) ?_
    refine AllReadyH.cons (o := ?ot23) ?ht23 ?st23 AllReadyH.nil
    case ht23 => (simp only [lz0, lz1, lz2]; rfl)
    case st23 =>
     intro K hK
     have yq24 : uq18.cell? ⟨r, 1, none⟩ = some va := by have := Rq21.out.blk.cell 1; simpa using this
     go_simp
     clear yq24
     refine hK.out _ _ (HCB.out _ Rq21.out.below) (fun ht24 => ?_)
     clear hK K
     try simp only [Act.put, lz3, lz4, lz5]
     refine wpAnyH_ready (rs := [12]) (by kernel_rfl) (by simp) ?_
     refine AllReadyH.cons (o := ?ot25) ?ht25 ?st25 AllReadyH.nil
     case ht25 => (simp only [lz0, lz1, lz2]; rfl)
     case st25 =>
      intro K hK
      refine step_append_srcN _ rfl (.tmp 25) (.tmp 32) 52 rfl w.heap.size 3 i0 (.int .i64 0) 1 8 Tryz.underlying52 hi hz0 hz1 hz2 rfl (by omega) va _ _ rfl Rq21.out.atR (some ⟨u0.heap.size, 0, none⟩) 1 1 [.int .i64 (x.toNat : Nat)] rfl ⟨rfl, fun ad e j u hu => by cases e; rw [addr_add, Nq22.out.cell]; simpa using hu, fun e => by cases e⟩ (by simp [Value.oneCell']) (by rw [HTL.out]; unfold maxLen; omega) (by rw [HTL.out]; omega) Rq21.out.below.size ?_
      intro v' uq25 hwq26 hgq27 hlq28
      obtain ⟨Aq29, cq30, rfl⟩ := own_slice hwq26
      have Bq31 := Lib.hid (Rq21.out.blk.grown hgq27 (fun e => own_blk_ne Rq21.out.atR Rq21.out.blk (by decide) e.symm))
      have Bq31b : Hid (Below w.heap.size w uq25) := Lib.hid (Rq21.out.below.grown hgq27 Rq21.out.below.size (fun k e => (Rq21.out.atR.lt k e).1))
      have Hhwq26 := Lib.hid hwq26
      have Hhgq27 := Lib.hid hgq27
      have Hhlq28 := Lib.hid hlq28
      clear hwq26 hgq27 hlq28
      refine hK.out _ _ (HCB.out _ Bq31b.out) (fun ht26 => ?_)
      clear hK K
      try simp only [Act.put, lz3, lz4, lz5]
      refine wpAnyH_take (i := 13) (oi := ?oit2713) (v := ?vt2713) ?hit2713 (by kernel_rfl) (by kernel_rfl) (by kernel_rfl) ?hQt2713 (Or.inl ⟨?hwt2713, ?hyt2713⟩) (by assumption) ?restt2713
      case hit2713 => (first | (simp only [lz0, lz1, lz2]; rfl) | rfl)
      case hQt2713 => exact fun _ _ _ h => h
      case hwt2713 => rfl
      case hyt2713 => ((intro w hSw; go_simp); first | done | with_reducible rfl)
      try simp only [Act.put, lz3, lz4, lz5]
      refine wpAnyH_take (i := 14) (oi := ?oit2814) (v := ?vt2814) ?hit2814 (by kernel_rfl) (by kernel_rfl) (by kernel_rfl) ?hQt2814 (Or.inl ⟨?hwt2814, ?hyt2814⟩) (by assumption) ?restt2814
      case hit2814 => (first | (simp only [lz0, lz1, lz2]; rfl) | rfl)
      case hQt2814 => exact fun _ _ _ h => h
      case hwt2814 => rfl
      case hyt2814 => ((intro w hSw; go_simp); first | done | with_reducible rfl)
      try simp only [Act.put, lz3, lz4, lz5]
      refine wpAnyH_ready (rs := [15]) (by kernel_rfl) (by simp) ?_
      refine AllReadyH.cons (o := ?ot29) ?ht29 ?st29 AllReadyH.nil
      case ht29 => (simp only [lz0, lz1, lz2]; rfl)
      case st29 =>
       intro K hK
       have yq32 : uq25.cell? ⟨r, 1, none⟩ = some va := by have := Bq31.out.cell 1; simpa using this
       have zq33 := Bq31.out.frozen 1
       go_simp
       clear yq32 zq33
       have Fq34 := Lib.hid (Rq21.out.pushAt (v' := (.slice Aq29 (L.length + 1) cq30)) (w2 := uq25) (x := (x.toNat : Nat)) Hhwq26.out Hhgq27.out Hhlq28.out ⟨by omega, by omega⟩ (by rw [HTL.out]; omega))
       refine hK.out _ _ (HCB.out _ Fq34.out.below) (fun ht30 => ?_)
       clear hK K
       try simp only [Act.put, lz3, lz4, lz5]
       refine wpAnyH_done (by kernel_rfl) ?_ _
       obtain ⟨W5, hW5⟩ : ∃ z, z = (uq25.setCell ⟨r, 1, none⟩ (.slice Aq29 (L.length + 1) cq30)) := ⟨_, rfl⟩
       have H5 := Fq34.out
       rw [← hW5] at H5 ⊢
       have HR5 := Lib.hid H5
       have HR5a := Lib.hid (H5.then ((Below.refl _ W5).alloc (Nat.le_refl _) (.cells #[.int .i64 ((j : Int) - 1)] 3)))
       have y2 : W5.cell? ⟨r, 2, none⟩ = some vb := H5.cl.2.2.1
       clear hW5 H5 hHeld
       go_wp2_with (at_builtin; clear y2; refine wpList_append_own_at _ rfl _ _ 52 rfl w.heap.size 3 i0 (.int .i64 0) 1 8 Tryz.underlying52 hi hz0 hz1 hz2 rfl (by decide) vb _ _ rfl HR5a.out.befR ⟨W5.heap.size, 0, none⟩ 1 1 [.int .i64 ((j : Int) - 1)] rfl rfl one_cell_at (by simp [Value.oneCell']) (by rw [befI_len]; unfold maxLen; omega) (by rw [befI_len]; omega) HR5a.out.below.size ?_; intro v6 w6 ho6 hg6 hn6 hl6; clear hn6; obtain ⟨A6, c6, rfl⟩ := own_slice ho6; have B6 := HR5a.out.blk.grown hg6 (fun e => own_blk_ne HR5a.out.befR HR5a.out.blk (by decide) e.symm); have e6 : w6.cell? ⟨r, 2, none⟩ = some vb := (by have := B6.cell 2; simpa using this); have z6 := B6.frozen 2; have r6 := HR5a.out.pushBef (x := (j : Int) - 1) ho6 hg6 hl6 ⟨by omega, by omega⟩ (by rw [befI_len]; omega); have y3 := r6.cl.2.2.2.1; rw [befI_len] at y3; rw [befI_len]; rw [befI_len, ← befI_succ] at r6; have R6 := Lib.hid r6; clear B6 ho6 hg6 hl6 r6; have R6a := Lib.hid (R6.out.then ((Below.refl _ _).alloc (Nat.le_refl _) (.cells #[.int .i64 ((j : Int) + 1)] 3))); go_wp2_with (at_builtin; clear y3 e6 z6; refine wpList_append_own_at _ rfl _ _ 52 rfl w.heap.size 3 i0 (.int .i64 0) 1 8 Tryz.underlying52 hi hz0 hz1 hz2 rfl (by decide) vc _ _ rfl R6a.out.behR ⟨w6.heap.size, 0, none⟩ 1 1 [.int .i64 ((j : Int) + 1)] rfl rfl (one_cell_at' (size_setCell' _ _ _)) (by simp [Value.oneCell']) (by rw [behI_len]; unfold maxLen; omega) (by rw [behI_len]; omega) R6a.out.below.size ?_; intro v7 w7 ho7 hg7 hn7 hl7; clear hn7; obtain ⟨A7, c7, rfl⟩ := own_slice ho7; have B7 := R6a.out.blk.grown hg7 (fun e => own_blk_ne R6a.out.behR R6a.out.blk (by decide) e.symm); have e7 : w7.cell? ⟨r, 3, none⟩ = some vc := (by have := B7.cell 3; simpa using this); have z7 := B7.frozen 3; have r7 := R6a.out.pushBeh (x := (j : Int) + 1) ho7 hg7 hl7 ⟨by omega, by omega⟩ (by rw [behI_len]; omega); rw [behI_len]; rw [behI_len, ← behI_succ, ← HTK.out] at r7; have R7 := Lib.hid r7; clear B7 ho7 hg7 hl7 r7))
       go_roundw
       case rel => exact ⟨j + 1, _, _, _, by omega, by go_num, R7.out⟩
       case measure => simp [intOf]; omega
  ·obtain rfl : n = j := by omega
   have htl : (bytesI s).take n = bytesI s := List.take_of_length_le (by rw [bytesI_len, HSL.out]; omega)
   rw [htl] at hR
   have y2 : wr.cell? ⟨r, 2, none⟩ = some vb := hR.cl.2.2.1
   have HRa := Lib.hid (hR.then ((Below.refl _ wr).alloc (Nat.le_refl _) (.cells #[.int .i64 ((n : Int) - 1)] 3)))
   have hn0 : (0 : Int) ≤ (n : Int) := by omega
   have hn1 : (n : Int) ≤ 1000000 := by omega
   clear hR htl
   go_wp2_with (at_builtin; clear y2; refine wpList_append_own_at _ rfl _ _ 52 rfl w.heap.size 3 i0 (.int .i64 0) 1 8 Tryz.underlying52 hi hz0 hz1 hz2 rfl (by decide) vb _ _ rfl HRa.out.befR ⟨wr.heap.size, 0, none⟩ 1 1 [.int .i64 ((n : Int) - 1)] rfl rfl one_cell_at (by simp [Value.oneCell']) (by rw [befI_len]; unfold maxLen; omega) (by rw [befI_len]; omega) HRa.out.below.size ?_; intro v6 w6 ho6 hg6 hn6 hl6; clear hn6; obtain ⟨A6, c6, rfl⟩ := own_slice ho6; have B6 := HRa.out.blk.grown hg6 (fun e => own_blk_ne HRa.out.befR HRa.out.blk (by decide) e.symm); have e6 : w6.cell? ⟨r, 2, none⟩ = some vb := (by have := B6.cell 2; simpa using this); have z6 := B6.frozen 2; have r6 := HRa.out.pushBef (x := (n : Int) - 1) ho6 hg6 hl6 ⟨by omega, by omega⟩ (by rw [befI_len]; omega); have y3 := r6.cl.2.2.2.1; rw [befI_len] at y3; rw [befI_len]; rw [befI_len, ← befI_succ] at r6; have R6 := Lib.hid r6; clear B6 ho6 hg6 hl6 r6)
   obtain ⟨W9, hW9⟩ : ∃ z, z = w6.setCell ⟨r, 2, none⟩ (.slice A6 (n + 1) c6) := ⟨_, rfl⟩
   have R9 := R6.out
   rw [← hW9] at R9 ⊢
   have HR9 := Lib.hid R9
   clear R6 HRa HR1 R9 hW9 y3 e6 z6
   go_loopw [73] (fun i wr => ∃ (j : Nat) (st : List (Nat × Nat)) (vs : Value), j ≤ n ∧ i = .int .i64 (j : Nat) ∧ IsRow w wr r b (bytesI s) (befI (n + 1)) (behI n) st va (.slice A6 (n + 1) c6) vc vs ∧ StUp V.mer (bytesI s) (List.range (n + 1)) j st) (fun i _ => n - (intOf i).toNat)
   case atStart => exact ⟨0, [], _, Nat.zero_le _, rfl, HR9.out, StUp.nil _ _ _⟩
   case round =>
    obtain ⟨j, st, vs, hj, rfl, hR, hU⟩ := hrel
    clear HR9
    have hul := hU.len
    rcases Nat.lt_or_ge j n with hlt | hge
    ·have hjq : (List.range (n + 1))[j]? = some j := List.getElem?_range (by omega)
     have hbl : (bytesI s).length = n := by rw [bytesI_len, HSL.out]
     have hso := HO.out.stepAt (M := V.mer) hjq (by rw [hbl]; exact hlt)
     have hsm := fun x hx => HO.out.step_small (M := V.mer) (j := j) (x := x) hx
     have hinc := HO.out.inc
     obtain ⟨o, ho⟩ : ∃ o, o = stepOf V.mer (bytesI s) (List.range (n + 1)) j := ⟨_, rfl⟩
     rw [← ho] at hso
     have hstep := stepAt_any w wr r b V (HC.out.below hR.below) ⟨_, _, _, _, hR⟩ hso.1
     have HSTEP := Lib.hid hstep
     have HR := Lib.hid hR
     have HU := Lib.hid hU
     have hjn : (j : Int) < (n : Int) := by omega
     have hjz : (0 : Int) ≤ (j : Int) := by omega
     have HINC := Lib.hid hinc
     have HSO2 := Lib.hid hso.2
     have HSM := Lib.hid hsm
     have HO2 := Lib.hid ho
     clear hR hU hstep hso hinc hsm ho hjq hbl
     cases o with
     | none =>
      go_wp2_with fail
      refine HSTEP.out.mono ?_
      rintro e w1 ⟨x, y, rfl, hk, hb⟩
      have HR2 := Lib.hid ((HR.out.then hb).then ((Below.refl _ w1).alloc (Nat.le_refl _) (.cells #[.int .i64 x, .int .i64 y] 201)))
      clear hk hb
      go_wp2_with fail
      go_roundw
      case rel => exact ⟨j + 1, st, vs, by omega, by go_num, HR2.out, HU.out.skip HO2.out.symm⟩
      case measure => simp [intOf]; omega
     | some sp =>
      obtain ⟨k, p⟩ := sp
      obtain rfl : j = p := Int.ofNat.inj (HSO2.out k p rfl)
      have hkp := HSM.out (k, j) HO2.out.symm
      have hfl : (st ++ [(k, j)]).flatMap stV = st.flatMap stV ++ [.int .i64 k, .int .i64 j] := by rw [List.flatMap_append]; rfl
      have hll : (st ++ [(k, j)]).length = st.length + 1 := by simp
      have HAP : Hid ((st ++ [(k, j)]).length = st.length + 1 ∧ (st ++ [(k, j)]).flatMap stV = st.flatMap stV ++ [.int .i64 k, .int .i64 j]) := Lib.hid ⟨hll, hfl⟩
      have HSF : Hid (∀ s ∈ st ++ [(k, j)], s.1 ≤ 1048576 ∧ s.2 ≤ 1048576) := Lib.hid (fun s hs => by
       rcases List.mem_append.1 hs with h | h
       ·exact HR.out.stF s h
       ·rw [List.mem_singleton.1 h]; exact ⟨by have := hkp.1; omega, by have := hkp.2; omega⟩)
      clear hkp hfl hll
      go_wp2_with fail
      refine HSTEP.out.mono ?_
      rintro e w1 ⟨x, y, rfl, hk, hb⟩
      obtain ⟨rfl, rfl⟩ := hk k rfl
      obtain ⟨W2, hW2⟩ : ∃ z, z = w1.alloc (.cells #[.int .i64 k, .int .i64 (j : Nat)] 201) := ⟨_, rfl⟩
      have HST : Hid (Blk W2 w1.heap.size 201 #[.int .i64 k, .int .i64 (j : Nat)]) := Lib.hid (by rw [hW2]; exact Blk.new _ _ _)
      have b1 : Below w1.heap.size w1 W2 := by rw [hW2]; exact (Below.refl _ w1).alloc (Nat.le_refl _) _
      have HNS : Hid (vs.ownBlock ≠ some w1.heap.size) := Lib.hid (fun e => Nat.lt_irrefl _ ((HR.out.then hb).stR.lt _ e).2)
      have HNR : Hid (w1.heap.size ≠ r) := Lib.hid (fun e => by have := (HR.out.then hb).blk.lt; omega)
      have HB := Lib.hid ((HR.out.then hb).then b1)
      have HW2 := Lib.hid hW2
      clear hk hb b1 hW2
      go_wp2_with fail
      rw [← HW2.out]
      refine wp_region_held_drew (S := fun w' => w'.cell? ⟨w1.heap.size, 0, none⟩ = some (.int .i64 k) ∧ w'.cell? ⟨w1.heap.size, 1, none⟩ = some (.int .i64 (j : Nat))) (by kernel_rfl) (two_cells HST.out) (fun hHeld => ?_)
      obtain ⟨u0, hu0⟩ : ∃ z, z = W2.drew := ⟨_, rfl⟩
      rw [← hu0] at hHeld ⊢
      have hb0 : Below W2.heap.size W2 u0 := by rw [hu0]; exact (Below.refl _ W2).drew
      have HR0 := Lib.hid (HB.out.then hb0)
      have HST0 := Lib.hid (HST.out.below hb0 HST.out.lt)
      clear hu0 hb0
      refine wpAnyH_take (i := 0) (oi := ?ois10) (v := ?vs10) ?his10 (by kernel_rfl) (by kernel_rfl) (by kernel_rfl) ?hQs10 (Or.inl ⟨?hws10, ?hys10⟩) (by assumption) ?rests10
      case his10 => (first | (simp only [lz0, lz1, lz2]; rfl) | rfl)
      case hQs10 => exact fun _ _ _ h => h
      case hws10 => rfl
      case hys10 => ((intro w hSw; go_simp); first | done | with_reducible rfl)
      try simp only [Act.put, lz3, lz4, lz5]
      refine wpAnyH_take (i := 1) (oi := ?ois21) (v := ?vs21) ?his21 (by kernel_rfl) (by kernel_rfl) (by kernel_rfl) ?hQs21 (Or.inl ⟨?hws21, ?hys21⟩) (by assumption) ?rests21
      case his21 => (first | (simp only [lz0, lz1, lz2]; rfl) | rfl)
      case hQs21 => exact fun _ _ _ h => h
      case hws21 => rfl
      case hys21 => ((intro w hSw; go_simp); first | done | with_reducible rfl)
      try simp only [Act.put, lz3, lz4, lz5]
      refine wpAnyH_take (i := 5) (oi := ?ois35) (v := ?vs35) ?his35 (by kernel_rfl) (by kernel_rfl) (by kernel_rfl) ?hQs35 (Or.inl ⟨?hws35, ?hys35⟩) (by assumption) ?rests35
      case his35 => (first | (simp only [lz0, lz1, lz2]; rfl) | rfl)
      case hQs35 => exact fun _ _ _ h => h
      case hws35 => rfl
      case hys35 => ((intro w hSw; go_simp); first | done | with_reducible rfl)
      try simp only [Act.put, lz3, lz4, lz5]
      refine wpAnyH_take (i := 2) (oi := ?ois42) (v := ?vs42) ?his42 (by kernel_rfl) (by kernel_rfl) (by kernel_rfl) ?hQs42 (Or.inl ⟨?hws42, ?hys42⟩) (by assumption) ?rests42
      case his42 => (first | (simp only [lz0, lz1, lz2]; rfl) | rfl)
      case hQs42 => exact fun _ _ _ h => h
      case hws42 => rfl
      case hys42 => ((intro w hSw; go_simp); first | done | with_reducible rfl)
      try simp only [Act.put, lz3, lz4, lz5]
      refine wpAnyH_take (i := 3) (oi := ?ois53) (v := ?vs53) ?his53 (by kernel_rfl) (by kernel_rfl) (by kernel_rfl) ?hQs53 (Or.inl ⟨?hws53, ?hys53⟩) (by assumption) ?rests53
      case his53 => (first | (simp only [lz0, lz1, lz2]; rfl) | rfl)
      case hQs53 => exact fun _ _ _ h => h
      case hws53 => rfl
      case hys53 => ((intro w hSw; go_simp); first | done | with_reducible rfl)
      try simp only [Act.put, lz3, lz4, lz5]
      refine wpAnyH_ready (rs := [4, 6]) (by kernel_rfl) (by simp) ?_
      refine AllReadyH.cons (o := ?os6) ?hs6 ?ss6 (AllReadyH.cons (o := ?os7) ?hs7 ?ss7 AllReadyH.nil)
      case hs6 => (simp only [lz0, lz1, lz2]; rfl)
      case hs7 => (simp only [lz0, lz1, lz2]; rfl)
      case ss6 =>
       intro K hK
       have yq35 : u0.cell? ⟨r, 4, none⟩ = some vs := by have := HR0.out.blk.cell 4; simpa using this
       go_simp
       clear yq35
       refine hK.out _ _ (two_cells HST0.out) (fun hs8 => ?_)
       clear hK K
       try simp only [Act.put, lz3, lz4, lz5]
       refine wpAnyH_ready (rs := [6]) (by kernel_rfl) (by simp) ?_
       refine AllReadyH.cons (o := ?os9) ?hs9 ?ss9 AllReadyH.nil
       case hs9 => (simp only [lz0, lz1, lz2]; rfl)
       case ss9 =>
        intro K hK
        go_simp
        obtain ⟨uq36, huq37⟩ : ∃ z, z = u0.alloc (.cells #[.int .i64 k, .int .i64 (j : Nat)] 201) := ⟨_, rfl⟩
        have Nq40 : Hid (Blk uq36 u0.heap.size 201 #[.int .i64 k, .int .i64 (j : Nat)]) := Lib.hid (by rw [huq37]; exact Blk.new _ _ _)
        rw [← huq37]
        have hbq38 : Below u0.heap.size u0 uq36 := by rw [huq37]; exact (Below.refl _ u0).alloc (Nat.le_refl _) _
        have Rq39 := Lib.hid (HR0.out.then hbq38)
        have Tq41 := Lib.hid (HST0.out.below hbq38 HST0.out.lt)
        have Tq41n : Hid (vs.ownBlock ≠ some u0.heap.size) := Lib.hid (fun e => Nat.lt_irrefl _ (HR0.out.stR.lt _ e).2)
        clear huq37 hbq38
        refine hK.out _ _ (two_cells Tq41.out) (fun hs10 => ?_)
        clear hK K
        try simp only [Act.put, lz3, lz4, lz5]
        refine wpAnyH_ready (rs := [7]) (by kernel_rfl) (by simp) ?_
        refine AllReadyH.cons (o := ?os11) ?hs11 ?ss11 AllReadyH.nil
        case hs11 => (simp only [lz0, lz1, lz2]; rfl)
        case ss11 =>
         intro K hK
         refine step_append_srcN _ rfl (.tmp 87) (.tmp 89) 128 rfl w.heap.size 201 j0 _ 2 16 Tryz.underlying128 hj0 hy0 hy1 hy2 rfl (by omega) vs _ _ rfl Rq39.out.stR (some ⟨u0.heap.size, 0, none⟩) 1 1 [.int .i64 k, .int .i64 (j : Nat)] rfl ⟨rfl, fun ad e j u hu => by cases e; rw [addr_add, Nq40.out.cell]; simpa using hu, fun e => by cases e⟩ (by simp [Value.oneCell']) (by unfold maxLen; omega) (by omega) Rq39.out.below.size ?_
         intro v' uq42 hwq43 hgq44 hlq45
         obtain ⟨Aq46, cq47, rfl⟩ := own_slice hwq43
         have Bq48 := Lib.hid (Rq39.out.blk.grown hgq44 (fun e => own_blk_ne Rq39.out.stR Rq39.out.blk (by decide) e.symm))
         have Tq49 := Lib.hid (Tq41.out.grown hgq44 (fun e => HNS.out e.symm))
         have Hhwq43 := Lib.hid hwq43
         have Hhgq44 := Lib.hid hgq44
         clear hwq43 hgq44 hlq45
         refine hK.out _ _ (two_cells Tq49.out) (fun hs12 => ?_)
         clear hK K
         try simp only [Act.put, lz3, lz4, lz5]
         refine wpAnyH_take (i := 8) (oi := ?ois138) (v := ?vs138) ?his138 (by kernel_rfl) (by kernel_rfl) (by kernel_rfl) ?hQs138 (Or.inl ⟨?hws138, ?hys138⟩) (by assumption) ?rests138
         case his138 => (first | (simp only [lz0, lz1, lz2]; rfl) | rfl)
         case hQs138 => exact fun _ _ _ h => h
         case hws138 => rfl
         case hys138 => ((intro w hSw; go_simp); first | done | with_reducible rfl)
         try simp only [Act.put, lz3, lz4, lz5]
         refine wpAnyH_take (i := 9) (oi := ?ois149) (v := ?vs149) ?his149 (by kernel_rfl) (by kernel_rfl) (by kernel_rfl) ?hQs149 (Or.inl ⟨?hws149, ?hys149⟩) (by assumption) ?rests149
         case his149 => (first | (simp only [lz0, lz1, lz2]; rfl) | rfl)
         case hQs149 => exact fun _ _ _ h => h
         case hws149 => rfl
         case hys149 => ((intro w hSw; go_simp); first | done | with_reducible rfl)
         try simp only [Act.put, lz3, lz4, lz5]
         refine wpAnyH_ready (rs := [10]) (by kernel_rfl) (by simp) ?_
         refine AllReadyH.cons (o := ?os15) ?hs15 ?ss15 AllReadyH.nil
         case hs15 => (simp only [lz0, lz1, lz2]; rfl)
         case ss15 =>
          intro K hK
          have yq50 : uq42.cell? ⟨r, 4, none⟩ = some vs := by have := Bq48.out.cell 4; simpa using this
          have zq51 := Bq48.out.frozen 4
          go_simp
          clear yq50 zq51
          have Fq52 := Lib.hid (Rq39.out.setSt (st' := st ++ [(k, j)]) (vs' := (.slice Aq46 (st.length + 1) cq47)) (w2 := uq42) (by rw [HAP.out.1, HAP.out.2]; exact Hhwq43.out) Hhgq44.out (by rw [HAP.out.1]; omega) HSF.out)
          have Tq53 := Lib.hid (Tq49.out.far (p := ⟨r, 4, none⟩) HNR.out (.slice Aq46 (st.length + 1) cq47))
          refine hK.out _ _ (two_cells Tq53.out) (fun hs16 => ?_)
          clear hK K
          try simp only [Act.put, lz3, lz4, lz5]
          refine wpAnyH_done (by kernel_rfl) ?_ _
          go_wp2_with fail
          go_roundw
          case rel => exact ⟨j + 1, _, _, by omega, by go_num, Fq52.out, HU.out.push HINC.out HO2.out.symm⟩
          case measure => simp [intOf]; omega
      case ss7 =>
       intro K hK
       go_simp
       obtain ⟨uq54, huq55⟩ : ∃ z, z = u0.alloc (.cells #[.int .i64 k, .int .i64 (j : Nat)] 201) := ⟨_, rfl⟩
       have Nq58 : Hid (Blk uq54 u0.heap.size 201 #[.int .i64 k, .int .i64 (j : Nat)]) := Lib.hid (by rw [huq55]; exact Blk.new _ _ _)
       rw [← huq55]
       have hbq56 : Below u0.heap.size u0 uq54 := by rw [huq55]; exact (Below.refl _ u0).alloc (Nat.le_refl _) _
       have Rq57 := Lib.hid (HR0.out.then hbq56)
       have Tq59 := Lib.hid (HST0.out.below hbq56 HST0.out.lt)
       have Tq59n : Hid (vs.ownBlock ≠ some u0.heap.size) := Lib.hid (fun e => Nat.lt_irrefl _ (HR0.out.stR.lt _ e).2)
       clear huq55 hbq56
       refine hK.out _ _ (two_cells Tq59.out) (fun hs17 => ?_)
       clear hK K
       try simp only [Act.put, lz3, lz4, lz5]
       refine wpAnyH_ready (rs := [4]) (by kernel_rfl) (by simp) ?_
       refine AllReadyH.cons (o := ?os18) ?hs18 ?ss18 AllReadyH.nil
       case hs18 => (simp only [lz0, lz1, lz2]; rfl)
       case ss18 =>
        intro K hK
        have yq60 : uq54.cell? ⟨r, 4, none⟩ = some vs := by have := Rq57.out.blk.cell 4; simpa using this
        go_simp
        clear yq60
        refine hK.out _ _ (two_cells Tq59.out) (fun hs19 => ?_)
        clear hK K
        try simp only [Act.put, lz3, lz4, lz5]
        refine wpAnyH_ready (rs := [7]) (by kernel_rfl) (by simp) ?_
        refine AllReadyH.cons (o := ?os20) ?hs20 ?ss20 AllReadyH.nil
        case hs20 => (simp only [lz0, lz1, lz2]; rfl)
        case ss20 =>
         intro K hK
         refine step_append_srcN _ rfl (.tmp 87) (.tmp 89) 128 rfl w.heap.size 201 j0 _ 2 16 Tryz.underlying128 hj0 hy0 hy1 hy2 rfl (by omega) vs _ _ rfl Rq57.out.stR (some ⟨u0.heap.size, 0, none⟩) 1 1 [.int .i64 k, .int .i64 (j : Nat)] rfl ⟨rfl, fun ad e j u hu => by cases e; rw [addr_add, Nq58.out.cell]; simpa using hu, fun e => by cases e⟩ (by simp [Value.oneCell']) (by unfold maxLen; omega) (by omega) Rq57.out.below.size ?_
         intro v' uq61 hwq62 hgq63 hlq64
         obtain ⟨Aq65, cq66, rfl⟩ := own_slice hwq62
         have Bq67 := Lib.hid (Rq57.out.blk.grown hgq63 (fun e => own_blk_ne Rq57.out.stR Rq57.out.blk (by decide) e.symm))
         have Tq68 := Lib.hid (Tq59.out.grown hgq63 (fun e => HNS.out e.symm))
         have Hhwq62 := Lib.hid hwq62
         have Hhgq63 := Lib.hid hgq63
         clear hwq62 hgq63 hlq64
         refine hK.out _ _ (two_cells Tq68.out) (fun hs21 => ?_)
         clear hK K
         try simp only [Act.put, lz3, lz4, lz5]
         refine wpAnyH_take (i := 8) (oi := ?ois228) (v := ?vs228) ?his228 (by kernel_rfl) (by kernel_rfl) (by kernel_rfl) ?hQs228 (Or.inl ⟨?hws228, ?hys228⟩) (by assumption) ?rests228
         case his228 => (first | (simp only [lz0, lz1, lz2]; rfl) | rfl)
         case hQs228 => exact fun _ _ _ h => h
         case hws228 => rfl
         case hys228 => ((intro w hSw; go_simp); first | done | with_reducible rfl)
         try simp only [Act.put, lz3, lz4, lz5]
         refine wpAnyH_take (i := 9) (oi := ?ois239) (v := ?vs239) ?his239 (by kernel_rfl) (by kernel_rfl) (by kernel_rfl) ?hQs239 (Or.inl ⟨?hws239, ?hys239⟩) (by assumption) ?rests239
         case his239 => (first | (simp only [lz0, lz1, lz2]; rfl) | rfl)
         case hQs239 => exact fun _ _ _ h => h
         case hws239 => rfl
         case hys239 => ((intro w hSw; go_simp); first | done | with_reducible rfl)
         try simp only [Act.put, lz3, lz4, lz5]
         refine wpAnyH_ready (rs := [10]) (by kernel_rfl) (by simp) ?_
         refine AllReadyH.cons (o := ?os24) ?hs24 ?ss24 AllReadyH.nil
         case hs24 => (simp only [lz0, lz1, lz2]; rfl)
         case ss24 =>
          intro K hK
          have yq69 : uq61.cell? ⟨r, 4, none⟩ = some vs := by have := Bq67.out.cell 4; simpa using this
          have zq70 := Bq67.out.frozen 4
          go_simp
          clear yq69 zq70
          have Fq71 := Lib.hid (Rq57.out.setSt (st' := st ++ [(k, j)]) (vs' := (.slice Aq65 (st.length + 1) cq66)) (w2 := uq61) (by rw [HAP.out.1, HAP.out.2]; exact Hhwq62.out) Hhgq63.out (by rw [HAP.out.1]; omega) HSF.out)
          have Tq72 := Lib.hid (Tq68.out.far (p := ⟨r, 4, none⟩) HNR.out (.slice Aq65 (st.length + 1) cq66))
          refine hK.out _ _ (two_cells Tq72.out) (fun hs25 => ?_)
          clear hK K
          try simp only [Act.put, lz3, lz4, lz5]
          refine wpAnyH_done (by kernel_rfl) ?_ _
          go_wp2_with fail
          go_roundw
          case rel => exact ⟨j + 1, _, _, by omega, by go_num, Fq71.out, HU.out.push HINC.out HO2.out.symm⟩
          case measure => simp [intOf]; omega
    ·obtain rfl : n = j := by omega
     obtain ⟨A9, c9, rfl⟩ := own_slice hR.stR
     have y4 := hR.cl.2.2.2.2
     have HR := Lib.hid hR
     have HU := Lib.hid hU
     have hstl := hR.small.2.2.2
     clear hR hU
     go_wp2_with fail
     refine (sort_any wr w.heap.size _ st HR.out.stR hstl).mono ?_
     rintro e w2 ⟨rfl, st', hp, hs, hown, hg⟩
     have hok := HU.out.ok (by rw [bytesI_len, HSL.out]; exact Nat.le_refl _) hp hs
     have hpl : st'.length ≤ n := by rw [hp.length_eq]; exact hul
     have hfin := HR.out.sorted hown hg (by omega) (fun s hs' => HR.out.stF s (hp.mem_iff.1 hs'))
     have HOK := Lib.hid hok
     have HF := Lib.hid hfin
     clear y4 hp hs hown hg hok hfin
     go_wp2_with fail
     go_ret
     refine ⟨r, st', rfl, ?_, ?_, ?_⟩
     ·rw [HSL.out]; exact ⟨_, _, _, _, HF.out⟩
     ·rw [HSL.out]; exact HOK.out
     ·rw [HSL.out]; exact hpl
def Merged (w0 : World) (r b : Nat) (M : List Mg) (n : Nat) (l : List Int) (m : Nat) (e : Ending) (w' : World) : Prop :=
 ∃ k i qs at_ before behind st, e = .returned (.tuple #[]) ∧ bestOf M l = some (k, i) ∧ Row w0 w' r b at_ before behind st ∧ RowOK n (mergeAt l i (toOf M k)) qs at_ before behind ∧ StOK st (stepSet M (mergeAt l i (toOf M k)) qs) ∧ st.length ≤ m + 1
theorem mergeFirst_any (w0 w : World) (r b : Nat) (V : Voc) (hC : Coder w0 b V) {n : Nat} {l : List Int} {qs : List Nat} {at_ before behind : List Int} {st : List (Nat × Nat)} (hR : Row w0 w r b at_ before behind st)
  (hO : RowOK n l qs at_ before behind) (hS : StOK st (stepSet V.mer l qs)) (hne : 0 < st.length) (hsm : st.length ≤ 1000000) (hn : n ≤ 1000000) (hM : V.mer.length ≤ 1000000) :
  Calls Tryz.prog 62 #[at0 r] w (Merged w0 r b V.mer n l st.length) := by
 obtain ⟨va, vb, vc, vs, hR⟩ := hR
 have hlast : st[st.length - 1]? = some (st[st.length - 1]'(by omega)) := List.getElem?_eq_getElem _
 obtain ⟨s, hs⟩ : ∃ s, s = st[st.length - 1]'(by omega) := ⟨_, rfl⟩
 rw [← hs] at hlast
 obtain ⟨k, p⟩ := s
 obtain ⟨i, g, q, hbest, hp, hg, hq, hstep⟩ := best_last hO hS hlast
 have hil : i + 1 < l.length := by
  have := (List.getElem?_eq_some_iff.1 hq).1
  rw [hO.len] at this
  omega
 obtain ⟨pa, hpa, hst1⟩ := hO.ahead hp (by omega) V.mer
 have hbg := hO.beh i p g hp hg
 have hbq := hO.beh (i + 1) g q hg hq
 have hap := hO.tok i _ p (List.getElem?_eq_getElem (by omega)) hp
 obtain ⟨xa, hxa⟩ : ∃ x, x = l[i]'(by omega) := ⟨_, rfl⟩
 rw [← hxa] at hap
 have hqB : before[q]? = some (g : Int) := hO.bef (i + 1) g q hg hq
 have hpn : p < n := hO.lt (by omega) hp
 have hgn : g < n := hO.lt (by omega) hg
 have hqn : q ≤ n := hO.le hq
 have hpg : p < g := hO.inc i (i + 1) p g (by omega) hp hg
 have hgq : g < q := hO.inc (i + 1) (i + 2) g q (by omega) hg hq
 obtain ⟨hkl, m, hm⟩ : k < V.mer.length ∧ ∃ m, V.mer[k]? = some m := by
  obtain ⟨a, b, _, _, h⟩ := pairRk_some (bestOf_rk hbest)
  obtain ⟨h1, m, h2, _⟩ := rkOf_lt h
  exact ⟨h1, m, h2⟩
 have hto : toOf V.mer k = m.t := by unfold toOf; rw [List.getD_eq_getElem?_getD, hm]; rfl
 obtain ⟨ads, cs, e1, _, l1, l2⟩ := own_step_at hR.stR hlast
 subst e1
 obtain ⟨ada, ca, e1, _, _⟩ := own_int_at hR.atR hap
 subst e1
 obtain ⟨adb, cb, e1, _, _⟩ := own_int_at hR.befR hpa
 subst e1
 obtain ⟨adc, cc, e1, _, _⟩ := own_int_at hR.behR hbg
 subst e1
 have HR := Lib.hid hR
 have HO := Lib.hid hO
 have HS := Lib.hid hS
 have HC := Lib.hid hC
 have HNS : Hid (ads.block ≠ w.heap.size) := Lib.hid (fun e => by have := (hR.stR.lt _ rfl).2; omega)
 have HNA : Hid (ada.block ≠ w.heap.size) := Lib.hid (fun e => by have := (hR.atR.lt _ rfl).2; omega)
 have HNB : Hid (adb.block ≠ w.heap.size) := Lib.hid (fun e => by have := (hR.befR.lt _ rfl).2; omega)
 have HNC : Hid (adc.block ≠ w.heap.size) := Lib.hid (fun e => by have := (hR.behR.lt _ rfl).2; omega)
 have HNR : Hid (w.heap.size ≠ r) := Lib.hid (fun e => by have := hR.blk.lt; omega)
 have g4 : w.cell? ⟨r, 4, none⟩ = some (.slice (some ads) st.length cs) := hR.cl.2.2.2.2
 obtain ⟨N, hN⟩ : ∃ N, N = st.length := ⟨_, rfl⟩
 rw [← hN] at g4 hne hsm l1 l2
 obtain ⟨NA, hNA⟩ : ∃ N, N = at_.length := ⟨_, rfl⟩
 obtain ⟨NB, hNB⟩ : ∃ N, N = before.length := ⟨_, rfl⟩
 obtain ⟨NC, hNC⟩ : ∃ N, N = behind.length := ⟨_, rfl⟩
 have hN1 : IntKind.i64.wrap ((N : Int) - 1) = ((N - 1 : Nat) : Int) := by rw [IntKind.wrap_i64]; omega
 have hN2 : ((N - 1 : Nat) : Int) < (N : Int) := by omega
 have bA : (p : Int) < (NA : Int) := by rw [hNA, hO.atL]; omega
 have bB : (p : Int) < (NB : Int) := by rw [hNB, hO.befL]; omega
 have bB2 : (q : Int) < (NB : Int) := by rw [hNB, hO.befL]; omega
 have bC : (p : Int) < (NC : Int) := by rw [hNC, hO.behL]; omega
 have bC2 : (g : Int) < (NC : Int) := by rw [hNC, hO.behL]; omega
 have hp0 : (0 : Int) ≤ (p : Int) := by omega
 have hg0 : (0 : Int) ≤ (g : Int) := by omega
 have hq0 : (0 : Int) ≤ (q : Int) := by omega
 have hk0 : (0 : Int) ≤ (k : Int) := by omega
 have hkM : (k : Int) < (V.mer.length : Int) := by omega
 have HN := Lib.hid hN
 have HNa := Lib.hid hNA
 have HNb := Lib.hid hNB
 have HNc := Lib.hid hNC
 have HBG := Lib.hid hbg
 have HBQ := Lib.hid hbq
 have HAP := Lib.hid hap
 have HPA := Lib.hid hpa
 have HQB := Lib.hid hqB
 have HST1 := Lib.hid hst1
 have HBEST := Lib.hid hbest
 have HSTEP := Lib.hid hstep
 have HP := Lib.hid hp
 have HG := Lib.hid hg
 have HQ := Lib.hid hq
 have HM := Lib.hid hm
 have HTO := Lib.hid hto
 clear hR hO hS hC hs hlast hN hNA hNB hNC hbg hbq hap hpa hqB hst1 hbest hstep hp hg hq hm hto hxa
 unfold at0
 go_enter Tryz.func62, Tryz.ntmps62
 go_wp2_with fail
 refine wp_region_held_drew (S := fun w' => w'.cell? ⟨r, 4, none⟩ = some (.slice (some ads) N cs) ∧ w'.cell? (ads.add ((N - 1) * 2)) = some (.int .i64 k) ∧ w'.cell? ⟨(ads.add ((N - 1) * 2)).block, (ads.add ((N - 1) * 2)).off + 1, none⟩ = some (.int .i64 p)) (by kernel_rfl) ⟨g4, l1, l2⟩ (fun hHeld => ?_)
 refine wpAnyH_take (i := 0) (oi := ?oit10) (v := ?vt10) ?hit10 (by kernel_rfl) (by kernel_rfl) (by kernel_rfl) ?hQt10 (Or.inl ⟨?hwt10, ?hyt10⟩) (by assumption) ?restt10
 case hit10 => (first | (simp only [lz0, lz1, lz2]; rfl) | rfl)
 case hQt10 => exact fun _ _ _ h => h
 case hwt10 => rfl
 case hyt10 => ((intro w hSw; go_simp); first | done | with_reducible rfl)
 try simp only [Act.put, lz3, lz4, lz5]
 refine wpAnyH_take (i := 4) (oi := ?oit24) (v := ?vt24) ?hit24 (by kernel_rfl) (by kernel_rfl) (by kernel_rfl) ?hQt24 (Or.inl ⟨?hwt24, ?hyt24⟩) (by assumption) ?restt24
 case hit24 => (first | (simp only [lz0, lz1, lz2]; rfl) | rfl)
 case hQt24 => exact fun _ _ _ h => h
 case hwt24 => rfl
 case hyt24 => ((intro w hSw; go_simp); first | done | with_reducible rfl)
 try simp only [Act.put, lz3, lz4, lz5]
 refine wpAnyH_take (i := 1) (oi := ?oit31) (v := ?vt31) ?hit31 (by kernel_rfl) (by kernel_rfl) (by kernel_rfl) ?hQt31 (Or.inl ⟨?hwt31, ?hyt31⟩) (by assumption) ?restt31
 case hit31 => (first | (simp only [lz0, lz1, lz2]; rfl) | rfl)
 case hQt31 => exact fun _ _ _ h => h
 case hwt31 => rfl
 case hyt31 => ((intro w hSw; go_simp); first | done | with_reducible rfl)
 try simp only [Act.put, lz3, lz4, lz5]
 refine wpAnyH_take (i := 5) (oi := ?oit45) (v := ?vt45) ?hit45 (by kernel_rfl) (by kernel_rfl) (by kernel_rfl) ?hQt45 (Or.inl ⟨?hwt45, ?hyt45⟩) (by assumption) ?restt45
 case hit45 => (first | (simp only [lz0, lz1, lz2]; rfl) | rfl)
 case hQt45 => exact fun _ _ _ h => h
 case hwt45 => rfl
 case hyt45 => ((intro w hSw; go_simp); first | done | with_reducible rfl)
 try simp only [Act.put, lz3, lz4, lz5]
 refine wpAnyH_take (i := 2) (oi := ?oit52) (v := ?vt52) ?hit52 (by kernel_rfl) (by kernel_rfl) (by kernel_rfl) ?hQt52 (Or.inl ⟨?hwt52, ?hyt52⟩) (by assumption) ?restt52
 case hit52 => (first | (simp only [lz0, lz1, lz2]; rfl) | rfl)
 case hQt52 => exact fun _ _ _ h => h
 case hwt52 => rfl
 case hyt52 => ((intro w hSw; go_simp); first | done | with_reducible rfl)
 try simp only [Act.put, lz3, lz4, lz5]
 refine wpAnyH_take (i := 6) (oi := ?oit66) (v := ?vt66) ?hit66 (by kernel_rfl) (by kernel_rfl) (by kernel_rfl) ?hQt66 (Or.inl ⟨?hwt66, ?hyt66⟩) (by assumption) ?restt66
 case hit66 => (first | (simp only [lz0, lz1, lz2]; rfl) | rfl)
 case hQt66 => exact fun _ _ _ h => h
 case hwt66 => rfl
 case hyt66 => ((intro w hSw; go_simp); first | done | with_reducible rfl)
 try simp only [Act.put, lz3, lz4, lz5]
 refine wpAnyH_take (i := 3) (oi := ?oit73) (v := ?vt73) ?hit73 (by kernel_rfl) (by kernel_rfl) (by kernel_rfl) ?hQt73 (Or.inl ⟨?hwt73, ?hyt73⟩) (by assumption) ?restt73
 case hit73 => (first | (simp only [lz0, lz1, lz2]; rfl) | rfl)
 case hQt73 => exact fun _ _ _ h => h
 case hwt73 => rfl
 case hyt73 => ((intro w hSw; go_simp); first | done | with_reducible rfl)
 try simp only [Act.put, lz3, lz4, lz5]
 refine wpAnyH_take (i := 7) (oi := ?oit87) (v := ?vt87) ?hit87 (by kernel_rfl) (by kernel_rfl) (by kernel_rfl) ?hQt87 (Or.inl ⟨?hwt87, ?hyt87⟩) (by assumption) ?restt87
 case hit87 => (first | (simp only [lz0, lz1, lz2]; rfl) | rfl)
 case hQt87 => exact fun _ _ _ h => h
 case hwt87 => rfl
 case hyt87 => ((intro w hSw; go_simp); first | done | with_reducible rfl)
 try simp only [Act.put, lz3, lz4, lz5]
 refine wpAnyH_take (i := 8) (oi := ?oit98) (v := ?vt98) ?hit98 (by kernel_rfl) (by kernel_rfl) (by kernel_rfl) ?hQt98 (Or.inl ⟨?hwt98, ?hyt98⟩) (by assumption) ?restt98
 case hit98 => (first | (simp only [lz0, lz1, lz2]; rfl) | rfl)
 case hQt98 => exact fun _ _ _ h => h
 case hwt98 => rfl
 case hyt98 => ((intro w hSw; go_simp); first | done | with_reducible rfl)
 try simp only [Act.put, lz3, lz4, lz5]
 refine wpAnyH_take (i := 9) (oi := ?oit109) (v := ?vt109) ?hit109 (by kernel_rfl) (by kernel_rfl) (by kernel_rfl) ?hQt109 (Or.inl ⟨?hwt109, ?hyt109⟩) (by assumption) ?restt109
 case hit109 => (first | (simp only [lz0, lz1, lz2]; rfl) | rfl)
 case hQt109 => exact fun _ _ _ h => h
 case hwt109 => rfl
 case hyt109 => ((intro w hSw; go_simp); first | done | with_reducible rfl)
 try simp only [Act.put, lz3, lz4, lz5]
 refine wpAnyH_take (i := 10) (oi := ?oit1110) (v := ?vt1110) ?hit1110 (by kernel_rfl) (by kernel_rfl) (by kernel_rfl) ?hQt1110 (Or.inl ⟨?hwt1110, ?hyt1110⟩) (by assumption) ?restt1110
 case hit1110 => (first | (simp only [lz0, lz1, lz2]; rfl) | rfl)
 case hQt1110 => exact fun _ _ _ h => h
 case hwt1110 => rfl
 case hyt1110 => ((intro w hSw; go_simp); first | done | with_reducible rfl)
 try simp only [Act.put, lz3, lz4, lz5]
 refine wpAnyH_take (i := 11) (oi := ?oit1211) (v := ?vt1211) ?hit1211 (by kernel_rfl) (by kernel_rfl) (by kernel_rfl) ?hQt1211 (Or.inl ⟨?hwt1211, ?hyt1211⟩) (by assumption) ?restt1211
 case hit1211 => (first | (simp only [lz0, lz1, lz2]; rfl) | rfl)
 case hQt1211 => exact fun _ _ _ h => h
 case hwt1211 => rfl
 case hyt1211 => ((intro w hSw; go_simp); first | done | with_reducible rfl)
 try simp only [Act.put, lz3, lz4, lz5]
 refine wpAnyH_ready (rs := [12]) (by kernel_rfl) (by simp) ?_
 refine AllReadyH.cons (o := ?ot13) ?ht13 ?st13 AllReadyH.nil
 case ht13 => (simp only [lz0, lz1, lz2]; rfl)
 case st13 =>
  intro K hK
  go_simp
  obtain ⟨W1, hW1⟩ : ∃ z, z = (w.alloc (.cells #[.int .i64 0, .int .i64 0] 201)).drew := ⟨_, rfl⟩
  have HN1 : Hid (Blk W1 w.heap.size 201 #[.int .i64 0, .int .i64 0]) := Lib.hid (by rw [hW1]; exact (Blk.new w _ _).drew)
  rw [← hW1]
  have hb1 : Below w.heap.size w W1 := by rw [hW1]; exact ((Below.refl _ w).alloc (Nat.le_refl _) _).drew
  have HB1 := Lib.hid hb1
  clear hW1 hb1
  refine hK.out _ _ ⟨below_cells HB1.out g4, below_cells HB1.out l1, below_cells HB1.out l2⟩ (fun ht14 => ?_)
  clear hK K
  try simp only [Act.put, lz3, lz4, lz5]
  refine wpAnyH_ready (rs := [13]) (by kernel_rfl) (by simp) ?_
  refine AllReadyH.cons (o := ?ot15) ?ht15 ?st15 AllReadyH.nil
  case ht15 => (simp only [lz0, lz1, lz2]; rfl)
  case st15 =>
   intro K hK
   have y0 := HN1.out.cell 0
   have y1 := HN1.out.cell 1
   simp only [lz0, lz1, lz2] at y0 y1
   have z0 := HN1.out.frozen 0
   have z1 := HN1.out.frozen 1
   go_simp
   clear y0 y1 z0 z1
   obtain ⟨W2, hW2⟩ : ∃ z, z = (W1.setCell ⟨w.heap.size, 0, none⟩ (.int .i64 k)).setCell ⟨w.heap.size, 1, none⟩ (.int .i64 p) := ⟨_, rfl⟩
   have HN2 : Hid (Blk W2 w.heap.size 201 #[.int .i64 k, .int .i64 p]) := Lib.hid (by
    rw [hW2]
    have := (HN1.out.set_ 0 (.int .i64 k)).set_ 1 (.int .i64 p)
    simpa using this)
   rw [← hW2]
   have HB2 : Hid (Below w.heap.size w W2) := Lib.hid (by rw [hW2]; exact (HB1.out.setCell (Nat.le_refl _) _).setCell (Nat.le_refl _) _)
   clear hW2
   refine hK.out _ _ ⟨below_cells HB2.out g4, below_cells HB2.out l1, below_cells HB2.out l2⟩ (fun ht16 => ?_)
   clear hK K
   try simp only [Act.put, lz3, lz4, lz5]
   refine wpAnyH_done (by kernel_rfl) ?_ _
   skip
   have HR2 := Lib.hid (HR.out.then HB2.out)
   obtain ⟨_, _, f2, f3, _⟩ := HR2.out.cl
   rw [← HNb.out] at f2
   rw [← HNc.out] at f3
   have f1 : W2.cell? ⟨w.heap.size, 1, none⟩ = some (.int .i64 p) := (two_cells HN2.out).2
   have x1 := (own_int_cell HR2.out.behR HBG.out).1
   have x2 := (own_int_cell HR2.out.befR HPA.out).1
   clear g4 l1 l2
   go_wp2_with fail
   clear f1 f2 f3 x1 x2
   obtain ⟨d1, d2, d3, d4, d5⟩ := HO.out.drop3 HS.out i
   have D1 := Lib.hid d1
   have D2 := Lib.hid d2
   have D3 := Lib.hid d3
   have D4 := Lib.hid d4
   have D5 := Lib.hid d5
   clear d1 d2 d3 d4 d5
   refine (drop_any w0 W2 r b V HC.out HR2.out HS.out.sorted HST1.out (fun x hx => HS.out.at_ (by
    obtain ⟨j, _, hj⟩ := stepAhead_some.1 hx
    exact ⟨j, hj⟩))).mono ?_
   rintro e W3 ⟨rfl, v3, hR3, hK3⟩
   have HR3 := Lib.hid hR3
   have HK3 := Lib.hid hK3
   clear hR3 hK3
   go_wp2_with fail
   refine (drop_any w0 W3 r b V HC.out HR3.out D1.out.sorted (HO.out.stepAt HP.out (by omega)) (fun x hx => D1.out.at_ (D2.out x hx))).mono ?_
   rintro e W4 ⟨rfl, v4, hR4, hK4⟩
   have HR4 := Lib.hid hR4
   have HK4 := Lib.hid (HK3.out.trans hK4)
   clear hR4 hK4
   go_wp2_with fail
   refine (drop_any w0 W4 r b V HC.out HR4.out D3.out.sorted (HO.out.stepAt HG.out hil) (fun x hx => D3.out.at_ (D4.out x hx))).mono ?_
   rintro e W5 ⟨rfl, v5, hR5, hK5⟩
   have HR5 := Lib.hid hR5
   have HK5 := Lib.hid (HK4.out.trans hK5)
   clear hR5 hK5
   have HN5 := Lib.hid (HK5.out.blk HN2.out HNR.out (fun e => HNS.out (by simpa [Value.ownBlock] using e)))
   obtain ⟨Ac, Bc, ca', cb', bp, D, csC, hC5⟩ := HC.out.below HR5.out.below
   obtain ⟨adm, e1, _, _, mt⟩ := hC5.mer.at_ k m HM.out
   subst e1
   have fm := (hC5.mer.bound m (List.mem_of_getElem? HM.out)).2.2
   obtain ⟨m0, m1, _, _, _⟩ := HR5.out.cl
   have mc : W5.cell? ⟨b, 1, none⟩ = some (.slice (some adm) V.mer.length cb') := by rw [hC5.blk.cell 1]; exact hC5.c1
   have fk := (two_cells HN5.out).1
   obtain ⟨x1, z1⟩ := own_int_cell HR5.out.atR HAP.out
   rw [← HNa.out] at m1
   clear hC5
   go_wp2_with fail
   go_still_tail 18, (by kernel_rfl)
   change wpList _ _ _ _ _ W5.drew
   go_wp2_with fail
   obtain ⟨W6, hW6⟩ : ∃ z, z = (W5.setCell (ada.add p) (.int .i64 m.t)).drew := ⟨_, rfl⟩
   rw [← hW6]
   have hR6 := (HR5.out.setAt (p := p) (x := m.t) fm).then ((Below.refl _ _).drew)
   rw [← hW6] at hR6
   have HR6 := Lib.hid hR6
   have HN6 : Hid (Blk W6 w.heap.size 201 #[.int .i64 k, .int .i64 p]) := Lib.hid (by rw [hW6]; exact (Blk.far HN5.out (by rw [add_block]; exact fun e => HNA.out e.symm) _).drew)
   clear hW6 hR6 mt mc m0 m1 fk x1 z1
   obtain ⟨_, _, _, m3, _⟩ := HR6.out.cl
   obtain ⟨x2, _⟩ := own_int_cell HR6.out.behR HBQ.out
   obtain ⟨x1, z1⟩ := own_int_cell HR6.out.behR HBG.out
   rw [← HNc.out] at m3
   go_still_tail 13, (by kernel_rfl)
   change wpList _ _ _ _ _ W6.drew
   go_wp2_with fail
   obtain ⟨W7, hW7⟩ : ∃ z, z = (W6.setCell (adc.add p) (.int .i64 (q : Int))).drew := ⟨_, rfl⟩
   rw [← hW7]
   have hR7 := (HR6.out.setBeh (p := p) (x := (q : Int)) ⟨by omega, by omega⟩).then ((Below.refl _ _).drew)
   rw [← hW7] at hR7
   have HR7 := Lib.hid hR7
   clear hW7 hR7 m3 x1 x2 z1
   obtain ⟨_, _, m2, m3, _⟩ := HR7.out.cl
   have hbq' : (behind.set p (q : Int))[g]? = some (q : Int) := by rw [List.getElem?_set_ne (by omega)]; exact HBQ.out
   obtain ⟨x2, _⟩ := own_int_cell (ad := adc) (c := cc) (n := behind.length) (l := behind.set p (q : Int)) (by have := HR7.out.behR; rw [List.length_set] at this; exact this) hbq'
   obtain ⟨x1, z1⟩ := own_int_cell HR7.out.befR HQB.out
   rw [← HNc.out] at m3
   rw [← HNb.out] at m2
   clear hbq'
   have hO8 := HO.out.merge HP.out HG.out HQ.out m.t
   obtain ⟨hA8, hB8⟩ := HO.out.add2 HS.out HP.out HG.out HQ.out m.t
   have hp' : (qs.eraseIdx (i + 1))[i]? = some p := by rw [List.getElem?_eraseIdx, if_pos (by omega)]; exact HP.out
   have hil' : i < (mergeAt l i m.t).length := by rw [mergeAt_len hil]; omega
   have hpa' : (before.set q (p : Int))[p]? = some pa := by rw [List.getElem?_set_ne (by omega)]; exact HPA.out
   have hR8 := (HR7.out.setBef (p := q) (x := (p : Int)) ⟨by omega, by omega⟩).then ((Below.refl _ _).drew)
   obtain ⟨_, _, n2, _, _⟩ := hR8.cl
   obtain ⟨y1, _⟩ := own_int_cell (ad := adb) (c := cb) (n := before.length) (l := before.set q (p : Int)) (by have := hR8.befR; rw [List.length_set] at this; exact this) hpa'
   rw [← HNb.out] at n2
   obtain ⟨W8, hW8⟩ : ∃ z, z = (W7.setCell (adb.add q) (.int .i64 (p : Int))).drew := ⟨_, rfl⟩
   rw [← hW8] at hR8
   have n2' : (W7.setCell (adb.add q) (.int .i64 (p : Int))).cell? ⟨r, 2, none⟩ = some (.slice (some adb) NB cb) := n2
   have y1' : (W7.setCell (adb.add q) (.int .i64 (p : Int))).cell? (adb.add p) = some (.int .i64 pa) := y1
   obtain ⟨pa2, e1, hst2⟩ := hO8.ahead hp' hil' V.mer
   obtain rfl : pa = pa2 := by rw [hpa'] at e1; exact Option.some.inj e1
   have hst3 := hO8.stepAt (M := V.mer) hp' hil'
   have l3 : (st3 V.mer l qs i st).length + 1 ≤ st.length := by
    have a1 := dropO_len st (stepAhead V.mer l qs i)
    have a2 := dropO_less D1.out (D2.out _ HSTEP.out)
    have a3 := dropO_len (dropO (dropO st (stepAhead V.mer l qs i)) (some (k, p))) (stepOf V.mer l qs (i + 1))
    show (dropO (dropO (dropO st (stepAhead V.mer l qs i)) (stepOf V.mer l qs i)) (stepOf V.mer l qs (i + 1))).length + 1 ≤ _
    rw [HSTEP.out]
    omega
   have l4 := addO_len (st3 V.mer l qs i st) (stepAhead V.mer (mergeAt l i m.t) (qs.eraseIdx (i + 1)) i)
   have l5 := addO_len (addO (st3 V.mer l qs i st) (stepAhead V.mer (mergeAt l i m.t) (qs.eraseIdx (i + 1)) i)) (stepOf V.mer (mergeAt l i m.t) (qs.eraseIdx (i + 1)) i)
   have L3 := Lib.hid l3
   have L4 := Lib.hid l4
   have L5 := Lib.hid l5
   have HT2 := Lib.hid hst2
   have HT3 := Lib.hid hst3
   have HR8 := Lib.hid hR8
   have HW8 := Lib.hid hW8
   have HO8 := Lib.hid hO8
   have HA8 := Lib.hid hA8
   have HB8 := Lib.hid hB8
   clear hpa' hR8 hW8 hO8 hA8 hB8 n2 y1 hp' hil' e1 hst2 hst3 l3 l4 l5
   go_still_tail 13, (by kernel_rfl)
   change wpList _ _ _ _ _ W7.drew
   go_wp2_with fail
   rw [← HW8.out]
   clear m2 m3 x1 x2 z1 n2' y1'
   refine (add_any w0 W8 r b V HC.out HR8.out D5.out.sorted HT2.out (by have h1 := L3.out; have h2 := HN.out; exact (by omega : (st3 V.mer l qs i st).length < 1048576)) (fun x hx => by
    obtain ⟨j, _, hj⟩ := stepAhead_some.1 hx
    have := HO8.out.step_small hj
    omega)).mono ?_
   rintro e W9 ⟨rfl, v9, hR9, _⟩
   have HR9 := Lib.hid hR9
   clear hR9
   go_wp2_with fail
   refine (add_any w0 W9 r b V HC.out HR9.out HA8.out.sorted HT3.out (by have h1 := L3.out; have h2 := HN.out; have h3 := L4.out; exact (by omega : (addO (st3 V.mer l qs i st) (stepAhead V.mer (mergeAt l i m.t) (qs.eraseIdx (i + 1)) i)).length < 1048576)) (fun x hx => by
    have := HO8.out.step_small hx
    omega)).mono ?_
   rintro e W10 ⟨rfl, v10, hR10, _⟩
   have HR10 := Lib.hid hR10
   clear hR10
   go_wp2_with fail
   go_end0
   refine ⟨k, i, qs.eraseIdx (i + 1), _, _, _, _, rfl, HBEST.out, ⟨_, _, _, _, HR10.out⟩, ?_, ?_, ?_⟩
   ·rw [HTO.out]; exact HO8.out
   ·rw [HTO.out]; exact HB8.out
   ·have h1 := L3.out
    have h2 := L4.out
    have h3 := L5.out
    exact (by omega : (addO (addO (st3 V.mer l qs i st) (stepAhead V.mer (mergeAt l i m.t) (qs.eraseIdx (i + 1)) i)) (stepOf V.mer (mergeAt l i m.t) (qs.eraseIdx (i + 1)) i)).length ≤ st.length + 1)
end Go.Proofs.YthcjikpabpgpfaaGreat
