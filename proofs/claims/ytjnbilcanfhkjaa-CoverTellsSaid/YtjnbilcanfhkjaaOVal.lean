/- An align that came in by value; a slice of ints that came in, with its length within the reach. -/
import Derived.Test.YtjnbilcanfhkjaaOSpec
import Derived.Lib.SmallJoins
namespace Go.Proofs.Ytjnbilcanfhkjaa
open Go.RowKit Go.Maps Go.WideMaps Go.ChangeShapes Go.WideShapes
theorem int_fits {n : Int} (hw : (Lit.int .i64 n).wf = true) : fits64 n := by
  simp [Lit.wf, IntKind.min, IntKind.max, IntKind.signed, IntKind.bits] at hw
  exact ⟨by omega, by omega⟩
set_option maxRecDepth 100000 in
theorem pair_val {H : Type} {enc : TypeId × Value → H} {w : World} {r : Reach} {b0 : Nat} {v : Value} {d : DataW H} {p : List MemPlace} {base : Nat} {spare : Nat → Bool} {held : Bool} (hv : Value.okWide Try.prog w r b0 26 v) (h : DataW.Trod enc Try.prog w base spare held 26 v d p) :
    ∃ x y : Int, v = .agg #[.int .i64 x, .int .i64 y] ∧ fits64 x ∧ fits64 y := by
  obtain ⟨v0, v1, y0, y1, n, rfl, _, _, h0, h1⟩ := Go.Joins.open_agg2 Try.underlying26 (by kernel_rfl) (by kernel_rfl) hv h
  obtain ⟨a, ea, _, wa⟩ := DataW.trod_int Try.underlying3 h0
  obtain ⟨b, eb, _, wb⟩ := DataW.trod_int Try.underlying3 h1
  simp only [List.cons.injEq, and_true] at ea eb
  subst ea eb
  exact ⟨a, b, rfl, int_fits wa, int_fits wb⟩
def IntsSz (w : World) (A : Option Addr) (n : Nat) (l : List Int) : Prop := IntsIn w A n l ∧ n ≤ 140737488351232
theorem intsSz {H : Type} {enc : TypeId × Value → H} {w : World} {A : Option Addr} {n c : Nat} {x : DataW H × List MemPlace} {fuel : Nat} {base : Nat} {spare : Nat → Bool} {held : Bool} (h : DataW.trod enc Try.prog w base spare held fuel 24 [.slice A n c] = some x) (hs : Sized 24 x.1) : ∃ l, IntsSz w A n l := by
  obtain ⟨l, hl⟩ := ints_in Try.underlying24 Try.underlying3 (by kernel_rfl) h
  have h1 := hs.ints Try.underlying24 Try.underlying3 (by kernel_rfl) h
  rw [show Try.prog.bytesOf 3 = 8 by kernel_rfl] at h1
  exact ⟨l, hl, by omega⟩
end Go.Proofs.Ytjnbilcanfhkjaa
