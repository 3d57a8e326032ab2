/- A growing vocabulary: the bytes of a pair's tokens; a token more, a merge more. -/
import Derived.Test.YtimbimnbaoaboaaVGrow
import Derived.Lib.AppendZerosOnto
import Derived.StillTailTactics
import Derived.Deep.RegionHeld3
namespace Go.Proofs.Ytimbimnbaoaboaa
open Go.RowKit Go.Maps Go.WideMaps

set_option maxHeartbeats 4000000 in
set_option maxRecDepth 100000 in
theorem sGrow_any (w : World) (n : Nat) (h0 : 0 < n) (hn : n ≤ 1099511627776) :
    Calls Try.prog 73 #[.slice none 0 0, .int .i64 n] w fun e w' => ∃ c, e = .returned (.slice (some ⟨w.heap.size, 0, none⟩) 0 c) ∧ w'.ownsRow w.heap.size 5 1 (.slice (some ⟨w.heap.size, 0, none⟩) 0 c) 0 [] ∧ Below w.heap.size w w' := by
  obtain ⟨i0, hi, hz0, hz1, hz2⟩ := info_parts byteInfo
  have hG := grownCap_le_maxLen w n 0 5 (by unfold maxLen; omega)
  have hGn : n ≤ grownCap w n 0 5 := grownCap_ge w _ _ _
  have hfit : Builtin.nextslicecap n 0 * i0.bytes ≤ 281474976710656 := growslice_fits (by omega) (by rw [hz2]; omega)
  have hrz : ∀ ty, (Builtin.append_ #[23, 3] ty #[.slice none 0 0, .int .i64 (n : Int)]).run Try.prog w =
      .ok (.slice (some ⟨w.heap.size, 0, none⟩) n (grownCap w n 0 5)) (w.drew.alloc (.cells (#[] ++ Builtin.zeroCells (Value.int .u8 0).cells n ++ Builtin.zeroCells (Value.int .u8 0).cells (grownCap w n 0 5 - n)) 5)) := fun ty => by
    have h := Lib.run_append_grow_zeros w 23 3 ty 5 i0 (.int .u8 0) .i64 .i64 Try.underlying23 Try.underlying3 hi hz0 none 0 0 [] (run_firstCells_none w.drew i0.size 0 0 0) n h0 (by rw [hz1]; omega) (by omega) (by omega) (by rw [hz2]; omega) (by simpa using hfit)
    simpa using h
  obtain ⟨G, hGe⟩ : ∃ G, G = grownCap w n 0 5 := ⟨_, rfl⟩
  rw [← hGe] at hG hGn hrz
  have hown := World.ownsRow_made (base := w.heap.size) (e := 5) (size := 1) w.drew (#[] ++ Builtin.zeroCells (Value.int .u8 0).cells n ++ Builtin.zeroCells (Value.int .u8 0).cells (G - n)) G (Nat.le_refl _) hG (by
    simp only [Array.size_append, size_zeroCells]
    have : (Value.int .u8 0).cells.size = 1 := rfl
    rw [this]
    simp
    omega)
  have hbel : Below w.heap.size w (w.drew.alloc (.cells (#[] ++ Builtin.zeroCells (Value.int .u8 0).cells n ++ Builtin.zeroCells (Value.int .u8 0).cells (G - n)) 5)) := (Below.refl _ w).drew.alloc (Nat.le_refl _) _
  obtain ⟨W2, hW2⟩ : ∃ W2, W2 = w.drew.alloc (.cells (#[] ++ Builtin.zeroCells (Value.int .u8 0).cells n ++ Builtin.zeroCells (Value.int .u8 0).cells (G - n)) 5) := ⟨_, rfl⟩
  rw [← hW2] at hrz hown hbel
  have HO := Lib.hid hown
  have HB := Lib.hid hbel
  have hs0 : ∀ w : World, (Instr.slice 23 (.slice none 0 0) none (some (.int .i64 0)) none).run Try.prog w = .ok (.slice none 0 0) w := fun w => by
    have := slice_to w none 0 0 0 (Nat.le_refl _)
    simpa using this
  have hs1 : ∀ w1 : World, (Instr.slice 23 (.slice (some ⟨w.heap.size, 0, none⟩) n G) none (some (.int .i64 0)) none).run Try.prog w1 = .ok (.slice (some ⟨w.heap.size, 0, none⟩) 0 G) w1 := fun w1 => by
    have := slice_to w1 (some ⟨w.heap.size, 0, none⟩) n G 0 (Nat.zero_le _)
    simpa using this
  have p1 : (0 : Int) < (n : Int) := by omega
  have p2 : ¬ (n : Int) < 0 := by omega
  have p3 : (n : Int) ≤ 1099511627776 := by omega
  clear hG hGn hfit hGe hown hbel hW2 hi hz0 hz1 hz2
  go_enter Try.func73, Try.ntmps73
  go_wp2_with (at_builtin; refine Lib.wpList_append_run _ rfl _ _ _ _ rfl _ _ rfl rfl _ _ (hrz _) ?_)
  go_ret
  exact ⟨G, rfl, HO.out, HB.out⟩

theorem cat_one (x : Nm) : ∀ u ∈ x.map byteV, u.oneCell' = true := u8_one x
set_option maxHeartbeats 4000000 in
set_option maxRecDepth 100000 in
/-- slices.Concat of two. -/
theorem concat_any (w : World) (g : Nat) (A B : Option Addr) (n m c d : Nat) (x y : Nm) (hg : Blk w g 23 #[.slice A n c, .slice B m d]) (hx : BytesIn w A n x) (hy : BytesIn w B m y) (h0 : 0 < n + m) (hn : n ≤ 1048576) (hm : m ≤ 1048576) :
    Calls Try.prog 57 #[.slice (some ⟨g, 0, none⟩) 2 2] w fun e w' => ∃ v, e = .returned v ∧ w'.ownsRow w.heap.size 5 1 v (n + m) ((x ++ y).map byteV) ∧ Below w.heap.size w w' := by
  obtain ⟨i0, hi, hz0, hz1, hz2⟩ := info_parts byteInfo
  have HG := Lib.hid hg
  have HX := Lib.hid hx
  have HY := Lib.hid hy
  have e0 := hg.cell 0
  have e1 := hg.cell 1
  simp only [List.getElem?_toArray, List.getElem?_cons_zero, List.getElem?_cons_succ] at e0 e1
  have p1 : ¬ ((n : Int) < 0) := by omega
  obtain ⟨t, ht⟩ : ∃ t : Nat, t = n + m := ⟨_, rfl⟩
  have ht' : (n : Int) + (m : Int) = (t : Int) := by omega
  have ht2 : t ≤ 2097152 := by omega
  have p2 : ¬ ((t : Int) < 0) := by omega
  have HT := Lib.hid ht
  have p3 : 0 < t := by omega
  clear ht
  clear hg hx hy
  go_enter Try.func57, Try.ntmps57
  go_wp2
  refine wp_loop_rounds 3 ?_
  rw [rounds_succ]
  go_wp2
  rw [rounds_succ]
  go_wp2
  rw [rounds_succ]
  go_wp2_with fail
  refine (sGrow_any _ t p3 (by omega)).mono ?_
  rintro e w1 ⟨c1, rfl, hown, hb⟩
  have e0' := (HG.out.below hb HG.out.lt).cell 0
  have e1' := (HG.out.below hb HG.out.lt).cell 1
  simp only [List.getElem?_toArray, List.getElem?_cons_zero, List.getElem?_cons_succ] at e0' e1'
  have HO := Lib.hid hown
  have HB := Lib.hid hb
  have X1 := Lib.hid (HX.out.below hb)
  have Y1 := Lib.hid (HY.out.below hb)
  have hsz := hb.size
  clear hown hb ht' e0 e1
  go_wp2
  refine wp_loop_rounds 3 ?_
  rw [rounds_succ]
  go_wp2_with (at_builtin; refine wpList_append_src _ rfl _ _ 23 rfl w.heap.size 5 i0 (.int .u8 0) 1 Try.underlying23 hi hz0 hz1 hz2 rfl _ 0 [] rfl HO.out A n c (x.map byteV) rfl X1.out.2.1 (cat_one x) (by unfold maxLen; omega) (by omega) hsz ?_; intro v2 w2 hown2 hgrow2 hloc2; rw [Nat.zero_add, List.nil_append] at hown2)
  have hb2 : Below w.heap.size w w2 := HB.out.grown hgrow2 hsz (fun k e => by cases e; exact Nat.le_refl _)
  have HB2 := Lib.hid hb2
  have HO2 := Lib.hid hown2
  have hsz2 := hb2.size
  have Y2 := Lib.hid (HY.out.below hb2)
  have e1'' := (HG.out.below hb2 HG.out.lt).cell 1
  simp only [List.getElem?_toArray, List.getElem?_cons_zero, List.getElem?_cons_succ] at e1''
  clear hb2 hown2 hgrow2 hloc2 e0' e1' hsz
  obtain ⟨A2, cc2, rfl⟩ := own_slice HO2.out
  rw [rounds_succ]
  go_wp2_with (at_builtin; refine wpList_append_src _ rfl _ _ 23 rfl w.heap.size 5 i0 (.int .u8 0) 1 Try.underlying23 hi hz0 hz1 hz2 rfl _ n (x.map byteV) rfl HO2.out B m d (y.map byteV) rfl Y2.out.2.1 (cat_one y) (by unfold maxLen; omega) (by omega) hsz2 ?_; intro v3 w3 hown3 hgrow3 hloc3)
  have hb3 : Below w.heap.size w w3 := HB2.out.grown hgrow3 hsz2 (fun k e => (HO2.out.lt k e).1)
  have HB3 := Lib.hid hb3
  rw [← List.map_append] at hown3
  have HO3 := Lib.hid hown3
  clear hb3 hown3 hgrow3 hloc3 e1''
  rw [rounds_succ]
  go_wp2
  go_ret
  exact ⟨_, rfl, HO3.out, HB3.out⟩

end Go.Proofs.Ytimbimnbaoaboaa
