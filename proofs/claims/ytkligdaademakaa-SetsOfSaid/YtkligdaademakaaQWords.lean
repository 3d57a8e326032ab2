/- Words of the program's parts: the sizes that are left, the number in a cell. -/
import Derived.Test.YtkligdaademakaaZp6
namespace Go.Proofs.Ytkligdaademakaa
open Go.RowKit Go.Maps Go.WideMaps
set_option linter.unusedSimpArgs false

theorem intInfoP : (Try.prog.info? 3).map (fun i => (i.zero, i.size, i.bytes)) = some (some (.int .i64 0), 1, 8) := by kernel_rfl
set_option maxRecDepth 100000 in
theorem ints_size (w : World) : (sizeOf (Try.prog.elem 113)).run Try.prog w = .ok 1 w := by
  obtain ⟨i0, hi, hz0, hz1, hz2⟩ := info_parts intInfoP
  rw [show Try.prog.elem 113 = 3 by kernel_rfl, run_sizeOf w hi]
  unfold Program.cellsOf
  rw [hi]
  simp [hz1]
set_option maxRecDepth 100000 in
theorem ints_from (w : World) (A : Option Addr) (n c p : Nat) (hp : p ≤ n) : (Instr.slice 113 (.slice A n c) (some (.int .i64 p)) none none).run Try.prog w = .ok (.slice (cutAddr A p c) (n - p) (c - p)) w := by
  rw [run_slice_l (P := Try.prog) (w := w) 113 A n c Try.underlying113 .i64 p (by omega) (by omega), ints_size]
  simp [Result.andThen, sliced, cutAddr]

/-- The number in a cell. -/
def cellNat (w : World) (p : Value) : Nat := match p with | .pointer (some q) => (match w.cell? q with | some (.int _ z) => z.toNat | _ => 0) | _ => 0
theorem cellNat_at {w : World} {g : Nat} {t : TypeId} {k : IntKind} {z : Int} (h : Blk w g t #[.int k z]) : cellNat w (at0 g) = z.toNat := by
  have := h.cell 0
  simp at this
  unfold cellNat at0
  simp only
  rw [this]
theorem cutAddr_one (ad : Addr) (c : Nat) (h : c ≠ 1) : cutAddr (some ad) 1 c = some (ad.add 1) := by unfold cutAddr; rw [if_neg h]; rfl
end Go.Proofs.Ytkligdaademakaa
