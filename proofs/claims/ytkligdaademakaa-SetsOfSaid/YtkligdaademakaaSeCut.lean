/- l[p:] of a slice of numbers. -/
import Derived.Test.YtkligdaademakaaSeRef1
import Derived.Test.YtkligdaademakaaKHead
namespace Go.Proofs.Ytkligdaademakaa
open Go.RowKit Go.Maps Go.WideMaps
set_option linter.unusedSimpArgs false

set_option maxRecDepth 100000 in
theorem i64s_size (w : World) : (sizeOf (Try.prog.elem 26)).run Try.prog w = .ok 1 w := by
  obtain ⟨i0, hi, hz0, hz1, hz2⟩ := info_parts intInfo64
  rw [show Try.prog.elem 26 = 2 by kernel_rfl, run_sizeOf w hi]
  unfold Program.cellsOf
  rw [hi]
  simp [hz1]
set_option maxRecDepth 100000 in
theorem i64s_from (w : World) (A : Option Addr) (n c p : Nat) (hp : p ≤ n) : (Instr.slice 26 (.slice A n c) (some (.int .i64 p)) none none).run Try.prog w = .ok (.slice (cutAddr A p c) (n - p) (c - p)) w := by
  rw [run_slice_l (P := Try.prog) (w := w) 26 A n c Try.underlying26 .i64 p (by omega) (by omega), i64s_size]
  simp [Result.andThen, sliced, cutAddr]
theorem ints_cut {w : World} {A : Option Addr} {n c : Nat} {l : List Int} (h : IntsIn w A n l) (hc : n ≤ c) {p : Nat} (hp : p ≤ n) : IntsIn w (cutAddr A p c) (n - p) (l.drop p) := by
  have hl := h.len
  have none_ : n - p = 0 → IntsIn w (cutAddr A p c) (n - p) (l.drop p) := fun h0 => by
    have e : l.drop p = [] := List.eq_nil_of_length_eq_zero (by simp; omega)
    rw [e, h0]
    exact ⟨Nat.zero_le _, ⟨rfl, fun ad _ j u hu => by simp at hu, fun _ => rfl⟩, by simp, fun ad _ h1 => by omega⟩
  by_cases hnp : n - p = 0
  · exact none_ hnp
  · cases A with
    | none => have := h.2.1.nil rfl; omega
    | some a =>
      have hcp : ¬ c = p := by omega
      unfold cutAddr
      rw [if_neg hcp]
      refine ⟨by have := h.1; omega, ⟨by simp; omega, fun ad e j u hu => ?_, fun e => by simp at e⟩, fun x hx => h.2.2.1 x (List.mem_of_mem_drop hx), fun ad e h0 => ?_⟩
      · simp at e
        subst e
        rw [Go.Deep.add_add]
        refine h.2.1.cells a rfl (p + j) u ?_
        rw [List.map_drop, List.getElem?_drop] at hu
        exact hu
      · simp at e
        subst e
        have := h.2.2.2 a rfl (by omega)
        have e2 : (a.add p).block = a.block := by unfold Addr.add; split <;> rfl
        rw [e2]; exact this
end Go.Proofs.Ytkligdaademakaa
