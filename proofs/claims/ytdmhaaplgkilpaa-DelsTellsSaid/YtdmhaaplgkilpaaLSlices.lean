/- Slices of int64, and of rows of bytes, that came in. -/
import Derived.Test.YtdmhaaplgkilpaaKInts
import Derived.Test.YtdmhaaplgkilpaaKRows
namespace Go.Proofs.Ytdmhaaplgkilpaa
open Go.RowKit Go.Maps Go.WideMaps
section
variable {H : Type} {enc : TypeId × Value → H} {w : World}
theorem int64sIn {A : Option Addr} {n c : Nat} {x : DataW H × List MemPlace} {fuel : Nat} {base : Nat} {spare : Nat → Bool} {held : Bool} (h : DataW.trod enc Try.prog w base spare held fuel 22 [.slice A n c] = some x) (_ : Sized 22 x.1) : ∃ l, IntsIn w A n l :=
  ints_in Try.underlying22 Try.underlying2 (by kernel_rfl) h
theorem rowsIn {A : Option Addr} {n c : Nat} {x : DataW H × List MemPlace} {fuel : Nat} {base : Nat} {spare : Nat → Bool} {held : Bool} (h : DataW.trod enc Try.prog w base spare held fuel 54 [.slice A n c] = some x) (_ : Sized 54 x.1) : ∃ L, RowsSee w A n L := rows_in h
end
end Go.Proofs.Ytdmhaaplgkilpaa
