/- Bytes that came in, with how long they may be. -/
import Derived.Test.YthmjanhdjchdbaaKHead
namespace Go.Proofs.Ythmjanhdjchdbaa
open Go.RowKit Go.Maps Go.WideMaps Go.ChangeShapes Go.WideShapes Go.ChangeAt Go.Deep

def BytesSz (w : World) (A : Option Addr) (n : Nat) (l : Nm) : Prop := BytesIn w A n l ∧ n ≤ 140737488351232
section
variable {H : Type} {enc : TypeId × Value → H} {w : World}
theorem bytesSz {A : Option Addr} {n c : Nat} {x : DataW H × List MemPlace} {fuel : Nat} {base : Nat} {spare : Nat → Bool} {held : Bool} (h : DataW.trod enc Try.prog w base spare held fuel 26 [.slice A n c] = some x) (hs : Sized 26 x.1) : ∃ l, BytesSz w A n l := by
  obtain ⟨l, hl⟩ := bytes_in h
  have h1 := hs.ints Try.underlying26 Try.underlying5 (by kernel_rfl) h
  rw [show Try.prog.bytesOf 5 = 1 by kernel_rfl] at h1
  exact ⟨l, hl, by omega⟩
end
end Go.Proofs.Ythmjanhdjchdbaa
