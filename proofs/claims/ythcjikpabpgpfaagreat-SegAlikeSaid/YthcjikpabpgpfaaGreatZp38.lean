import Derived.Test.YthcjikpabpgpfaaGreatZp0
import Derived.Test.YthcjikpabpgpfaaGreatZp32
import Derived.Test.YthcjikpabpgpfaaGreatZp8
set_option linter.unusedSimpArgs false
set_option maxHeartbeats 16000000
set_option maxRecDepth 100000
namespace Go.Proofs.YthcjikpabpgpfaaGreat
open Go.RowKit Go.Maps Go.WideMaps
theorem docInfoL : (Tryz.prog.info? 49).map (fun i => (i.zero, i.size, i.bytes)) = some (some (.agg #[.string ⟨#[]⟩, .string ⟨#[]⟩]), 2, 32) := by kernel_rfl
theorem docs_cells1 {w : World} {g : Nat} {k t : Nm} (h : Blk w g 49 #[.string ⟨k.toArray⟩, .string ⟨t.toArray⟩]) : ∀ (j : Nat) (u : Value), (docVs (k, t))[j]? = some u → w.cell? ((⟨g, 0, none⟩ : Addr).add j) = some u := fun j u hu => by
 rw [zero_add]
 match j with
 | 0 => simp [docVs] at hu; subst hu; exact h.cell 0
 | 1 => simp [docVs] at hu; subst hu; exact h.cell 1
 | j + 2 => simp [docVs] at hu
theorem docs_one1 (p : Nm × Nm) : ∀ u ∈ docVs p, u.oneCell' = true := fun u hu => by
 simp [docVs] at hu
 rcases hu with rfl | rfl <;> rfl
end Go.Proofs.YthcjikpabpgpfaaGreat
