/- Words of lists, by short names. -/
import Derived.Sort.WalkA
import Derived.Deep.RegionHeld3
import Derived.Lib.Hide
namespace Go.Proofs.YthcjikpabpgpfaaGreat
theorem lz0.{u} {α : Type u} {xs : List α} {i : Nat} : xs.toArray[i]? = xs[i]? := List.getElem?_toArray
theorem lz1.{u} {α : Type u} {a : α} {l : List α} : (a :: l)[0]? = some a := rfl
theorem lz2.{u} {α : Type u} {a : α} {i : Nat} {l : List α} : (a :: l)[i + 1]? = l[i]? := rfl
theorem lz3.{u} {α : Type u} (l : List α) (i : Nat) (a : α) : l.toArray.setIfInBounds i a = (l.set i a).toArray := List.setIfInBounds_toArray l i a
theorem lz4.{u} {α : Type u} {x : α} {xs : List α} {a : α} : (x :: xs).set 0 a = a :: xs := rfl
theorem lz5.{u} {α : Type u} {x : α} {xs : List α} {i : Nat} {a : α} : (x :: xs).set (i + 1) a = x :: xs.set i a := rfl
theorem tk {P : Program} {ops : Array Oper} {Q : Exit → Act → World → Prop} {md : Region.Mode} {S : World → Prop} {fuel : Nat} {listed : Array Bool} {a : Act} {w : World} {oi : Oper} {v : Value} (i : Nat)
  (h : wpAnyH P md ops Q S fuel (listed.setIfInBounds i true) (a.put oi.dst v) w)
  (hs : Region.noSelect ops = true := by kernel_rfl) (hf : Region.free md ops listed i = true := by kernel_rfl) (hr : (Region.ready md ops listed).contains i = true := by kernel_rfl)
  (hS : S w := by assumption)
  (hi : ops[i]? = some oi := by first | (simp only [List.getElem?_toArray, List.getElem?_cons_zero, List.getElem?_cons_succ]; rfl) | rfl)
  (hQ : ∀ c a w, Q (.panic c) (a.put oi.dst v) w → Q (.panic c) a w := by exact fun _ _ _ h => h)
  (hw : Region.wanted oi (yielded ops a.tmps) = true := by rfl)
  (hy : ∀ w, S w → (execOp a.eval oi).run P w = .ok (.value v) w := by ((intro w hSw; go_simp); first | done | with_reducible rfl)) :
  wpAnyH P md ops Q S (fuel + 1) listed a w := wpAnyH_take hi hs hf hr hQ (.inl ⟨hw, hy⟩) hS h
theorem rd1 {P : Program} {ops : Array Oper} {Q : Exit → Act → World → Prop} {md : Region.Mode} {S : World → Prop} {fuel : Nat} {listed : Array Bool} {a : Act} {w : World} {oi0 : Oper} (i0 : Nat)
  (hi0 : ∀ K' : Act → World → Prop, Shut (∀ a w, S w → (S w → wpAnyH P md ops Q S fuel (listed.setIfInBounds i0 true) a w) → K' a w) → if Region.wanted oi0 (yielded ops a.tmps) = true then Oper.wp P oi0 a w K' Q else K' (a.put oi0.dst undef) w)
  (hr : Region.ready md ops listed = [i0] := by kernel_rfl)
  (gi0 : ops[i0]? = some oi0 := by simp only [List.getElem?_toArray, List.getElem?_cons_zero, List.getElem?_cons_succ]; rfl)
  : wpAnyH P md ops Q S (fuel + 1) listed a w := wpAnyH_ready hr (by simp) (.cons gi0 hi0 .nil)
theorem rd2 {P : Program} {ops : Array Oper} {Q : Exit → Act → World → Prop} {md : Region.Mode} {S : World → Prop} {fuel : Nat} {listed : Array Bool} {a : Act} {w : World} {oi0 oi1 : Oper} (i0 i1 : Nat)
  (hi0 : ∀ K' : Act → World → Prop, Shut (∀ a w, S w → (S w → wpAnyH P md ops Q S fuel (listed.setIfInBounds i0 true) a w) → K' a w) → if Region.wanted oi0 (yielded ops a.tmps) = true then Oper.wp P oi0 a w K' Q else K' (a.put oi0.dst undef) w)
  (hi1 : ∀ K' : Act → World → Prop, Shut (∀ a w, S w → (S w → wpAnyH P md ops Q S fuel (listed.setIfInBounds i1 true) a w) → K' a w) → if Region.wanted oi1 (yielded ops a.tmps) = true then Oper.wp P oi1 a w K' Q else K' (a.put oi1.dst undef) w)
  (hr : Region.ready md ops listed = [i0, i1] := by kernel_rfl)
  (gi0 : ops[i0]? = some oi0 := by simp only [List.getElem?_toArray, List.getElem?_cons_zero, List.getElem?_cons_succ]; rfl)
  (gi1 : ops[i1]? = some oi1 := by simp only [List.getElem?_toArray, List.getElem?_cons_zero, List.getElem?_cons_succ]; rfl)
  : wpAnyH P md ops Q S (fuel + 1) listed a w := wpAnyH_ready hr (by simp) (.cons gi0 hi0 (.cons gi1 hi1 .nil))
theorem rd3 {P : Program} {ops : Array Oper} {Q : Exit → Act → World → Prop} {md : Region.Mode} {S : World → Prop} {fuel : Nat} {listed : Array Bool} {a : Act} {w : World} {oi0 oi1 oi2 : Oper} (i0 i1 i2 : Nat)
  (hi0 : ∀ K' : Act → World → Prop, Shut (∀ a w, S w → (S w → wpAnyH P md ops Q S fuel (listed.setIfInBounds i0 true) a w) → K' a w) → if Region.wanted oi0 (yielded ops a.tmps) = true then Oper.wp P oi0 a w K' Q else K' (a.put oi0.dst undef) w)
  (hi1 : ∀ K' : Act → World → Prop, Shut (∀ a w, S w → (S w → wpAnyH P md ops Q S fuel (listed.setIfInBounds i1 true) a w) → K' a w) → if Region.wanted oi1 (yielded ops a.tmps) = true then Oper.wp P oi1 a w K' Q else K' (a.put oi1.dst undef) w)
  (hi2 : ∀ K' : Act → World → Prop, Shut (∀ a w, S w → (S w → wpAnyH P md ops Q S fuel (listed.setIfInBounds i2 true) a w) → K' a w) → if Region.wanted oi2 (yielded ops a.tmps) = true then Oper.wp P oi2 a w K' Q else K' (a.put oi2.dst undef) w)
  (hr : Region.ready md ops listed = [i0, i1, i2] := by kernel_rfl)
  (gi0 : ops[i0]? = some oi0 := by simp only [List.getElem?_toArray, List.getElem?_cons_zero, List.getElem?_cons_succ]; rfl)
  (gi1 : ops[i1]? = some oi1 := by simp only [List.getElem?_toArray, List.getElem?_cons_zero, List.getElem?_cons_succ]; rfl)
  (gi2 : ops[i2]? = some oi2 := by simp only [List.getElem?_toArray, List.getElem?_cons_zero, List.getElem?_cons_succ]; rfl)
  : wpAnyH P md ops Q S (fuel + 1) listed a w := wpAnyH_ready hr (by simp) (.cons gi0 hi0 (.cons gi1 hi1 (.cons gi2 hi2 .nil)))
theorem rd4 {P : Program} {ops : Array Oper} {Q : Exit → Act → World → Prop} {md : Region.Mode} {S : World → Prop} {fuel : Nat} {listed : Array Bool} {a : Act} {w : World} {oi0 oi1 oi2 oi3 : Oper} (i0 i1 i2 i3 : Nat)
  (hi0 : ∀ K' : Act → World → Prop, Shut (∀ a w, S w → (S w → wpAnyH P md ops Q S fuel (listed.setIfInBounds i0 true) a w) → K' a w) → if Region.wanted oi0 (yielded ops a.tmps) = true then Oper.wp P oi0 a w K' Q else K' (a.put oi0.dst undef) w)
  (hi1 : ∀ K' : Act → World → Prop, Shut (∀ a w, S w → (S w → wpAnyH P md ops Q S fuel (listed.setIfInBounds i1 true) a w) → K' a w) → if Region.wanted oi1 (yielded ops a.tmps) = true then Oper.wp P oi1 a w K' Q else K' (a.put oi1.dst undef) w)
  (hi2 : ∀ K' : Act → World → Prop, Shut (∀ a w, S w → (S w → wpAnyH P md ops Q S fuel (listed.setIfInBounds i2 true) a w) → K' a w) → if Region.wanted oi2 (yielded ops a.tmps) = true then Oper.wp P oi2 a w K' Q else K' (a.put oi2.dst undef) w)
  (hi3 : ∀ K' : Act → World → Prop, Shut (∀ a w, S w → (S w → wpAnyH P md ops Q S fuel (listed.setIfInBounds i3 true) a w) → K' a w) → if Region.wanted oi3 (yielded ops a.tmps) = true then Oper.wp P oi3 a w K' Q else K' (a.put oi3.dst undef) w)
  (hr : Region.ready md ops listed = [i0, i1, i2, i3] := by kernel_rfl)
  (gi0 : ops[i0]? = some oi0 := by simp only [List.getElem?_toArray, List.getElem?_cons_zero, List.getElem?_cons_succ]; rfl)
  (gi1 : ops[i1]? = some oi1 := by simp only [List.getElem?_toArray, List.getElem?_cons_zero, List.getElem?_cons_succ]; rfl)
  (gi2 : ops[i2]? = some oi2 := by simp only [List.getElem?_toArray, List.getElem?_cons_zero, List.getElem?_cons_succ]; rfl)
  (gi3 : ops[i3]? = some oi3 := by simp only [List.getElem?_toArray, List.getElem?_cons_zero, List.getElem?_cons_succ]; rfl)
  : wpAnyH P md ops Q S (fuel + 1) listed a w := wpAnyH_ready hr (by simp) (.cons gi0 hi0 (.cons gi1 hi1 (.cons gi2 hi2 (.cons gi3 hi3 .nil))))
theorem rd5 {P : Program} {ops : Array Oper} {Q : Exit → Act → World → Prop} {md : Region.Mode} {S : World → Prop} {fuel : Nat} {listed : Array Bool} {a : Act} {w : World} {oi0 oi1 oi2 oi3 oi4 : Oper} (i0 i1 i2 i3 i4 : Nat)
  (hi0 : ∀ K' : Act → World → Prop, Shut (∀ a w, S w → (S w → wpAnyH P md ops Q S fuel (listed.setIfInBounds i0 true) a w) → K' a w) → if Region.wanted oi0 (yielded ops a.tmps) = true then Oper.wp P oi0 a w K' Q else K' (a.put oi0.dst undef) w)
  (hi1 : ∀ K' : Act → World → Prop, Shut (∀ a w, S w → (S w → wpAnyH P md ops Q S fuel (listed.setIfInBounds i1 true) a w) → K' a w) → if Region.wanted oi1 (yielded ops a.tmps) = true then Oper.wp P oi1 a w K' Q else K' (a.put oi1.dst undef) w)
  (hi2 : ∀ K' : Act → World → Prop, Shut (∀ a w, S w → (S w → wpAnyH P md ops Q S fuel (listed.setIfInBounds i2 true) a w) → K' a w) → if Region.wanted oi2 (yielded ops a.tmps) = true then Oper.wp P oi2 a w K' Q else K' (a.put oi2.dst undef) w)
  (hi3 : ∀ K' : Act → World → Prop, Shut (∀ a w, S w → (S w → wpAnyH P md ops Q S fuel (listed.setIfInBounds i3 true) a w) → K' a w) → if Region.wanted oi3 (yielded ops a.tmps) = true then Oper.wp P oi3 a w K' Q else K' (a.put oi3.dst undef) w)
  (hi4 : ∀ K' : Act → World → Prop, Shut (∀ a w, S w → (S w → wpAnyH P md ops Q S fuel (listed.setIfInBounds i4 true) a w) → K' a w) → if Region.wanted oi4 (yielded ops a.tmps) = true then Oper.wp P oi4 a w K' Q else K' (a.put oi4.dst undef) w)
  (hr : Region.ready md ops listed = [i0, i1, i2, i3, i4] := by kernel_rfl)
  (gi0 : ops[i0]? = some oi0 := by simp only [List.getElem?_toArray, List.getElem?_cons_zero, List.getElem?_cons_succ]; rfl)
  (gi1 : ops[i1]? = some oi1 := by simp only [List.getElem?_toArray, List.getElem?_cons_zero, List.getElem?_cons_succ]; rfl)
  (gi2 : ops[i2]? = some oi2 := by simp only [List.getElem?_toArray, List.getElem?_cons_zero, List.getElem?_cons_succ]; rfl)
  (gi3 : ops[i3]? = some oi3 := by simp only [List.getElem?_toArray, List.getElem?_cons_zero, List.getElem?_cons_succ]; rfl)
  (gi4 : ops[i4]? = some oi4 := by simp only [List.getElem?_toArray, List.getElem?_cons_zero, List.getElem?_cons_succ]; rfl)
  : wpAnyH P md ops Q S (fuel + 1) listed a w := wpAnyH_ready hr (by simp) (.cons gi0 hi0 (.cons gi1 hi1 (.cons gi2 hi2 (.cons gi3 hi3 (.cons gi4 hi4 .nil)))))
theorem Zh {p : Prop} (h : p) : Go.RowKit.Hid p := h
theorem Yaa:type_of% @UInt8.toNat_ofNat_of_lt':=@UInt8.toNat_ofNat_of_lt'
theorem Yab:type_of% @Nat.lt_or_ge:=@Nat.lt_or_ge
theorem Yac.{u}:type_of% @List.cons_append.{u}:=@List.cons_append
theorem Yad.{u}:type_of% @List.nil_append.{u}:=@List.nil_append
theorem Yae.{u}:type_of% @List.length_singleton.{u}:=@List.length_singleton
theorem Yaf.{u}:type_of% @if_neg.{u}:=@if_neg
theorem Yag.{u}:type_of% @if_pos.{u}:=@if_pos
theorem Yah.{u}:type_of% @List.length_cons.{u}:=@List.length_cons
theorem Yai:type_of% @Nat.eq_zero_or_pos:=@Nat.eq_zero_or_pos
theorem Yaj.{u}:type_of% @List.take_succ_cons.{u}:=@List.take_succ_cons
theorem Yak:type_of% @Nat.mul_le_mul_right:=@Nat.mul_le_mul_right
theorem Yal:type_of% @Bool.and_eq_true:=@Bool.and_eq_true
theorem Yam.{u}:type_of% @List.mem_cons_self.{u}:=@List.mem_cons_self
theorem Yan.{u,v}:type_of% @List.flatMap_cons.{u,v}:=@List.flatMap_cons
theorem Yao.{u}:type_of% @List.append_assoc.{u}:=@List.append_assoc
theorem Yap.{u}:type_of% @List.mem_cons_of_mem.{u}:=@List.mem_cons_of_mem
theorem Yaq.{u}:type_of% @List.length_append.{u}:=@List.length_append
theorem Yar:type_of% @Nat.le_refl:=@Nat.le_refl
theorem Yas.{u}:type_of% @List.length_drop.{u}:=@List.length_drop
theorem Yat.{u}:type_of% @List.mem_cons.{u}:=@List.mem_cons
theorem Yau.{u}:type_of% @List.take_append_drop.{u}:=@List.take_append_drop
theorem Yav.{u}:type_of% @List.take_of_length_le.{u}:=@List.take_of_length_le
theorem Yaw.{u}:type_of% @List.getD_eq_getElem?_getD.{u}:=@List.getD_eq_getElem?_getD
theorem Yax.{u}:type_of% @List.getElem?_eq_getElem.{u}:=@List.getElem?_eq_getElem
theorem Yay.{u}:type_of% @List.getElem_mem.{u}:=@List.getElem_mem
theorem Yaz.{u,v}:type_of% @List.mem_map.{u,v}:=@List.mem_map
theorem Ya0.{u}:type_of% @List.eq_nil_of_length_eq_zero.{u}:=@List.eq_nil_of_length_eq_zero
theorem Ya1.{u}:type_of% @List.drop_drop.{u}:=@List.drop_drop
theorem Ya2.{u,v}:type_of% @List.map_cons.{u,v}:=@List.map_cons
theorem Ya3.{u}:type_of% @List.drop_left.{u}:=@List.drop_left
theorem Ya4:type_of% @Nat.zero_add:=@Nat.zero_add
theorem Ya5.{u}:type_of% @List.take_add_one.{u}:=@List.take_add_one
theorem Ya6.{u}:type_of% @List.take_length.{u}:=@List.take_length
theorem Ya7:type_of% @Nat.lt_of_lt_of_le:=@Nat.lt_of_lt_of_le
theorem Ya8.{u}:type_of% @List.take_append_of_le_length.{u}:=@List.take_append_of_le_length
theorem Ya9.{u}:type_of% @Option.some.inj.{u}:=@Option.some.inj
theorem Yba.{u}:type_of% @List.getElem?_append_left.{u}:=@List.getElem?_append_left
theorem Ybb.{u}:type_of% @List.getElem?_eq_some_iff.{u}:=@List.getElem?_eq_some_iff
theorem Ybc.{u}:type_of% @List.getElem?_append_right.{u}:=@List.getElem?_append_right
theorem Ybd:type_of% @Nat.zero_le:=@Nat.zero_le
theorem Ybe.{u,v}:type_of% @List.map_append.{u,v}:=@List.map_append
theorem Ybf.{u,v}:type_of% @List.length_map.{u,v}:=@List.length_map
theorem Ybg.{u,v}:type_of% @List.flatMap_append.{u,v}:=@List.flatMap_append
theorem Ybh.{u,v}:type_of% @List.flatMap_singleton.{u,v}:=@List.flatMap_singleton
theorem Ybi.{u}:type_of% @List.mem_singleton.{u}:=@List.mem_singleton
theorem Ybj.{u}:type_of% @List.mem_append.{u}:=@List.mem_append
theorem Ybk:type_of% @Nat.add_sub_cancel:=@Nat.add_sub_cancel
theorem Ybl:type_of% @Go.heap_alloc_new:=@Go.heap_alloc_new
theorem Ybm:type_of% @Go.RowKit.Below.refl:=@Go.RowKit.Below.refl
theorem Ybn:type_of% @Go.RowKit.Below.heap_alloc:=@Go.RowKit.Below.heap_alloc
theorem Ybo:type_of% @Go.IntWalk.i64_in:=@Go.IntWalk.i64_in
theorem Ybp.{u}:type_of% @List.length_set.{u}:=@List.length_set
theorem Ybq:type_of% @Nat.sub_self:=@Nat.sub_self
theorem Ybr:type_of% @Nat.add_sub_cancel_left:=@Nat.add_sub_cancel_left
theorem Ybs:type_of% @Go.World.drewN_drewN:=@Go.World.drewN_drewN
theorem Ybt:type_of% @decide_eq_false:=@decide_eq_false
theorem Ybu:type_of% @Nat.le_trans:=@Nat.le_trans
theorem Ybv.{u}:type_of% @List.getElem?_drop.{u}:=@List.getElem?_drop
theorem Ybw.{u}:type_of% @Option.getD_some.{u}:=@Option.getD_some
theorem Ybx:type_of% @Go.World.ownsRow_made:=@Go.World.ownsRow_made
theorem Yby:type_of% @Go.IntKind.wrap_u64:=@Go.IntKind.wrap_u64
theorem Ybz.{u}:type_of% @List.mem_of_getElem?.{u}:=@List.mem_of_getElem?
theorem Yb0:type_of% @decide_eq_true:=@decide_eq_true
theorem Yb1:type_of% @Bool.eq_false_iff:=@Bool.eq_false_iff
theorem Yb2:type_of% @Go.World.ownsRow_nil:=@Go.World.ownsRow_nil
theorem Yb3:type_of% @Int.toNat_natCast:=@Int.toNat_natCast
theorem Yb4:type_of% @Go.World.cell?_of_block:=@Go.World.cell?_of_block
theorem Yb5:type_of% @Go.RowKit.Below.heap_setCell:=@Go.RowKit.Below.heap_setCell
theorem Yb6:type_of% @Go.World.ownsRow.alloc:=@Go.World.ownsRow.alloc
theorem Yb7:type_of% @Nat.min_eq_left:=@Nat.min_eq_left
theorem Yb8:type_of% @Go.wp_region_held_drew:=@Go.wp_region_held_drew
theorem Yb9:type_of% @Go.wpAnyH_done:=@Go.wpAnyH_done
theorem Yca:type_of% @Nat.mul_le_mul_left:=@Nat.mul_le_mul_left
theorem Ycb:type_of% @Go.World.block_lt_of_cell?:=@Go.World.block_lt_of_cell?
theorem Ycc.{u}:type_of% @List.length_take.{u}:=@List.length_take
theorem Ycd:type_of% @List.getElem?_range:=@List.getElem?_range
theorem Yce.{u}:type_of% @List.mem_of_mem_take.{u}:=@List.mem_of_mem_take
theorem Ycf.{u}:type_of% @List.mem_of_mem_drop.{u}:=@List.mem_of_mem_drop
theorem Ycg.{u}:type_of% @List.drop_eq_getElem_cons.{u}:=@List.drop_eq_getElem_cons
theorem Ych.{u,v}:type_of% @List.getElem?_map.{u,v}:=@List.getElem?_map
theorem Yci.{u}:type_of% @List.getElem?_take.{u}:=@List.getElem?_take
theorem Ycj.{u}:type_of% @List.pairwise_cons.{u}:=@List.pairwise_cons
theorem Yck.{u}:type_of% @List.pairwise_iff_getElem.{u}:=@List.pairwise_iff_getElem
theorem Ycl.{u}:type_of% @List.pairwise_append.{u}:=@List.pairwise_append
theorem Ycm:type_of% @Nat.lt_irrefl:=@Nat.lt_irrefl
theorem Ycn.{u}:type_of% @List.getElem?_set_ne.{u}:=@List.getElem?_set_ne
theorem Yco.{u}:type_of% @List.size_toArray.{u}:=@List.size_toArray
theorem Ycp.{u}:type_of% @Array.getElem?_setIfInBounds.{u}:=@Array.getElem?_setIfInBounds
theorem Ze.{u} {α : Sort u} (a : α) : ∃ z, z = a := ⟨a, rfl⟩
end Go.Proofs.YthcjikpabpgpfaaGreat
