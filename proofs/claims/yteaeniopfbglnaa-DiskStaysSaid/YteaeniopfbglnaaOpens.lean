/- What comes in, opened for the rows. -/
import Derived.Test.YteaeniopfbglnaaOpsIn
import Derived.Test.YteaeniopfbglnaaSyncsRow
namespace Go.Proofs.Yteaeniopfbglnaa
open Go.ChangeShapes Go.WideShapes Go.ChangeAt Go.RowKit Go.Deep

section
variable {H : Type} {enc : TypeId × Value → H} {w : World}
theorem cap_in {t e : TypeId} (ht : Try.prog.underlying t = some (.slice e)) {A : Option Addr} {n c : Nat} {x : DataW H × List MemPlace} {fuel : Nat} {base : Nat} {spare : Nat → Bool} {held : Bool} (h : DataW.trod enc Try.prog w base spare held fuel t [.slice A n c] = some x) : n ≤ c := by
  rcases open_slice ht h with ⟨hcs, _⟩ | ⟨a, len, cap, m, f, D, Pl, hcs, _, hl, _⟩
  · simp only [List.cons.injEq, Value.slice.injEq, and_true] at hcs
    omega
  · simp only [List.cons.injEq, Value.slice.injEq, and_true] at hcs
    omega
theorem opsIn {A : Option Addr} {n c : Nat} {x : DataW H × List MemPlace} {fuel : Nat} {base : Nat} {spare : Nat → Bool} {held : Bool} (h : DataW.trod enc Try.prog w base spare held fuel 23 [.slice A n c] = some x) (hs : Sized 23 x.1) : ∃ l, OpsIn w A n l := by
  obtain ⟨C, n', c', l, e, _, hl⟩ := ops_in h hs
  injection e with e1 e2 e3
  subst e1 e2
  exact ⟨l, hl⟩
theorem bytesIn {A : Option Addr} {n c : Nat} {x : DataW H × List MemPlace} {fuel : Nat} {base : Nat} {spare : Nat → Bool} {held : Bool} (h : DataW.trod enc Try.prog w base spare held fuel 33 [.slice A n c] = some x) (_ : Sized 33 x.1) : ∃ l, BytesIn w A n l := bytes_in h
end
end Go.Proofs.Yteaeniopfbglnaa
