/- What comes in: bytes and integers in slices, as lists; a crash. -/
import Derived.Test.YtblpppeppgfbpaaHead2
import Derived.Test.YtblpppeppgfbpaaRows
import Derived.ProofKit
import Derived.OpenShut
import Derived.ChangeOld
import Derived.Lib.SmallJoins
namespace Go.Proofs.Ytblpppeppgfbpaa
open Go.ChangeShapes Go.WideShapes Go.ChangeAt Go.RowKit

/-- A slice of integers that came in. -/
def CutsIn (w : World) (A : Option Addr) (n : Nat) (cs : List Int) : Prop := n ≤ maxLen ∧ Src w A n (cs.map i64v) ∧ (∀ j, cutOf cs j ≤ 9223372036854775807) ∧ ∀ ad, A = some ad → 0 < n → ad.block < w.heap.size

section
variable {H : Type} {enc : TypeId × Value → H} {w : World}
theorem cuts_in {A : Option Addr} {n c : Nat} {x : DataW H × List MemPlace} {fuel : Nat} {base : Nat} {spare : Nat → Bool} {held : Bool} (h : DataW.trod enc Try.prog w base spare held fuel 34 [.slice A n c] = some x) : ∃ cs, CutsIn w A n cs := by
  rcases open_ints Try.underlying34 Try.underlying3 (by kernel_rfl) h with ⟨hcs, _⟩ | ⟨a, l, cp, zs, hcs, _, hl, hm, hz, _, hcell, hwz⟩
  · simp only [List.cons.injEq, Value.slice.injEq, and_true] at hcs
    obtain ⟨rfl, rfl, rfl⟩ := hcs
    exact ⟨[], by unfold maxLen; omega, ⟨rfl, (fun ad e => by cases e), fun _ => rfl⟩, fun j => by simp [cutOf], fun ad e => by cases e⟩
  · simp only [List.cons.injEq, Value.slice.injEq, and_true] at hcs
    obtain ⟨rfl, rfl, rfl⟩ := hcs
    have hzl : n ≤ zs.length := by rw [hz]; split <;> omega
    refine ⟨zs.take n, by omega, ⟨by simp; omega, fun ad e j u hu => ?_, (fun e => by cases e)⟩, fun j => ?_, fun ad e hn => ?_⟩
    · injection e with e
      subst e
      rw [List.getElem?_map, List.getElem?_take] at hu
      split at hu
      · have hjz : j < zs.length := by omega
        rw [List.getElem?_eq_getElem hjz] at hu
        simp only [Option.map_some, Option.some.injEq] at hu
        rw [hcell j hjz, ← hu]
        simp [i64v, List.getElem?_eq_getElem hjz]
      · cases hu
    · unfold cutOf
      rw [List.getD_eq_getElem?_getD, List.getElem?_take]
      split
      · by_cases hjz : j < zs.length
        · rw [List.getElem?_eq_getElem hjz]
          have := hwz zs[j] (List.getElem_mem hjz)
          simp [Lit.wf, IntKind.min, IntKind.max, IntKind.signed, IntKind.bits] at this
          simp
          omega
        · rw [List.getElem?_eq_none (by omega)]
          simp
      · simp
    · injection e with e
      subst e
      have h0 := hcell 0 (by omega)
      have h1 : a.add 0 = a := by simp [Addr.add]
      rw [h1] at h0
      exact World.block_lt_of_cell? w a h0
end
end Go.Proofs.Ytblpppeppgfbpaa
