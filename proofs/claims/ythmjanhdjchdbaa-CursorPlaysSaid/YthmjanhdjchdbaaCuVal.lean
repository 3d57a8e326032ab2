/- Calls that came in, with how many there may be. -/
import Derived.Test.YthmjanhdjchdbaaCuSpec
namespace Go.Proofs.Ythmjanhdjchdbaa
open Go.RowKit Go.Maps Go.WideMaps Go.ChangeShapes Go.WideShapes Go.ChangeAt Go.Deep

def OpsSz (w : World) (A : Option Addr) (n : Nat) (l : List (Int × Int)) : Prop := PairsIn w A n l ∧ n ≤ 140737488351232
set_option maxRecDepth 100000 in
theorem opsSz {H : Type} {enc : TypeId × Value → H} {w : World} {A : Option Addr} {n c : Nat} {x : DataW H × List MemPlace} {fuel : Nat} {base : Nat} {spare : Nat → Bool} {held : Bool} (h : DataW.trod enc Try.prog w base spare held fuel 23 [.slice A n c] = some x) (hs : Sized 23 x.1) : ∃ l, OpsSz w A n l := by
  have hp : ∀ {cs : List Value} {x : DataW H × List MemPlace} {fuel : Nat} {base : Nat} {spare : Nat → Bool} {held : Bool}, DataW.trod enc Try.prog w base spare held fuel 44 cs = some x → ∃ p : Int × Int, cs = [.int .i64 p.1, .int .i64 p.2] ∧ fits64 p.1 ∧ fits64 p.2 := fun h => pair_in Try.underlying44 rfl rfl rfl (by kernel_rfl) Try.underlying3 Try.underlying2 (by kernel_rfl) (by kernel_rfl) rfl rfl h
  obtain ⟨l, hl⟩ := pairs_in Try.underlying23 (by kernel_rfl) hp h
  refine ⟨l, hl, ?_⟩
  rcases open_slice Try.underlying23 h with ⟨hcs, _⟩ | ⟨a, len, cap, m, f, D, Pl, hcs, _, hl2, hm, hmm, hx, hi⟩
  · simp only [List.cons.injEq, Value.slice.injEq, and_true] at hcs
    omega
  · simp only [List.cons.injEq, Value.slice.injEq, and_true] at hcs
    rw [hx] at hs
    have hlen := hs.len Try.underlying23
    rw [show Try.prog.bytesOf 44 = 16 by kernel_rfl] at hlen
    simp only [List.length_map, List.length_range] at hlen
    omega
end Go.Proofs.Ythmjanhdjchdbaa
