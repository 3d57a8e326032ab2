/- A directory's names, in order: slices.Sorted over maps.Keys. -/
import Derived.Test.YtblpppeppgfbpaaReads
import Derived.Test.YtblpppeppgfbpaaLib
import Derived.Test.YtblpppeppgfbpaaIter
import Derived.OwnWalkIn
import Derived.TacticsInMore
namespace Go.Proofs.Ytblpppeppgfbpaa
open Go.RowKit Go.Maps Go.Sort

theorem before_lt : ∀ a b : List UInt8, bytesBefore a b = true ↔ a < b
  | [], [] => by simp [bytesBefore]
  | [], _ :: _ => by simp [bytesBefore]
  | _ :: _, [] => by simp [bytesBefore]
  | a :: r, b :: s => by
    simp only [bytesBefore, Bool.or_eq_true, Bool.and_eq_true, beq_iff_eq, decide_eq_true_eq, before_lt r s, List.cons_lt_cons_iff]

theorem dir_sorted {w : World} {b : Nat} {d : Dir} (h : dirAt w b d) : d.Pairwise (fun p q => p.1 < q.1) := by
  obtain ⟨es, he, hp, _⟩ := h.canon strLaw
  have e : es = d.map ent := by injection he with he; exact he.symm
  rw [e, List.pairwise_map] at hp
  exact hp.imp fun {p q} hpq => (before_lt _ _).1 hpq
theorem keys_sorted {d : Dir} (h : d.Pairwise (fun p q => p.1 < q.1)) : (d.map (·.1)).mergeSort leB = d.map (·.1) := by
  refine List.mergeSort_of_pairwise ?_
  rw [List.pairwise_map]
  exact h.imp fun {p q} hpq => by simpa [leB] using List.le_of_lt hpq

set_option maxHeartbeats 1000000 in
theorem names_any {w : World} {b : Nat} {d : Dir} (h : dirAt w b d) (hl : d.length ≤ 300) :
    Calls Try.prog 49 #[.map (some b)] w fun e w' => ∃ v, e = .returned v ∧ w'.ownsRow w.heap.size 9 1 v d.length (d.map fun p => encStr p.1) ∧ Below w.heap.size w w' := by
  have hS := Lib.hid (keys_sorted (dir_sorted h))
  have hmax : Maps.size (toD d) ≤ maxLen := by rw [toD_size]; unfold maxLen; omega
  have hbytes : Maps.size (toD d) * 16 ≤ 140737488355328 := by rw [toD_size]; omega
  refine (callsIn_wide (n := 6)).1 ?_
  have hfK : Fence.wide.fn 74 := trivial
  have hfS : Fence.wide.fn 73 := trivial
  refine callsIn_of_wp Try.func49 rfl trivial ?_ rfl
  simp only [Try.ntmps49, List.size_toArray, List.length_cons, List.length_nil, Nat.reduceAdd, Nat.reduceSub, Array.replicate_succ, Array.replicate_zero, List.push_toArray, List.append_toArray, List.nil_append, List.cons_append]
  gi_wp2_with (first
    | (gi_at_call 74; refine (Try.maps_Keys_74 _ _).mono ?_; rintro e w' ⟨rfl, rfl⟩)
    | (gi_at_call 73; refine (Try.slices_Sorted_keys_73_74 b 300 (toD d) ptrElem w h hmax hbytes).mono ?_; rintro e w' ⟨v, ss, rfl, hP, hrow, hnil, hb⟩))
  go_ret
  have hk : ss.mergeSort leB = d.map (·.1) := by rw [mergeSort_of_perm hP, toD_keys, hS.out]
  have hlen : ss.length = d.length := by rw [hP.length_eq, toD_keys]; simp
  refine ⟨v, rfl, ?_, ((Below.refl _ w).alloc (Nat.le_refl _) _).trans (hb.mono (by simp))⟩
  have hrow' : w'.ownsRow (w.alloc (.cells #[.map (some b)] 67)).heap.size 9 1 v ss.length ((ss.mergeSort leB).map encStr) := hrow
  rw [hk, hlen, List.map_map] at hrow'
  refine ⟨hrow'.1, ?_⟩
  rcases hrow'.2 with h1 | ⟨g, cap, cur, e, h1, h2⟩
  · exact .inl h1
  · exact .inr ⟨g, cap, cur, e, by simp at h1; omega, h2⟩

set_option maxHeartbeats 400000 in
theorem Names_any {w : World} {F : Nat → Prop} {b : Nat} {s : St} (hD : Disk w F b s) :
    Calls Try.prog 18 #[at0 b] w fun e w' => ∃ v, e = .returned v ∧ w'.ownsRow w.heap.size 9 1 v s.now.length (s.now.map fun p => encStr p.1) ∧ Below w.heap.size w w' := by
  obtain ⟨bn, bo, cv, cls, fv, hd⟩ := hD
  have hc := hd.blk.cell 1
  simp at hc
  have hn := names_any hd.now (by have := hd.wf.nnow; omega)
  unfold at0
  have HN := Lib.hid hn; clear hn
  go_enter Try.func18, Try.ntmps18
  go_wp2_with (go_at_call 49; refine (Hid.out HN).mono ?_; rintro e w' ⟨v, rfl, hrow, hb⟩)
  go_ret
  exact ⟨v, rfl, hrow, hb⟩
end Go.Proofs.Ytblpppeppgfbpaa
