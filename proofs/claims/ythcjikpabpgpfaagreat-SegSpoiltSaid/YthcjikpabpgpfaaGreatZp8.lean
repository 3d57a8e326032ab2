import Derived.Test.YthcjikpabpgpfaaGreatZp0
import Derived.Test.YthcjikpabpgpfaaGreatZp3
set_option linter.unusedSimpArgs false
set_option maxHeartbeats 16000000
set_option maxRecDepth 100000
namespace Go.Proofs.YthcjikpabpgpfaaGreat
open Go.RowKit Go.Maps Go.WideMaps
def tokI (L : List Nm) (i : Int) : Nm := if 0 ≤ i ∧ i < L.length then L.getD i.toNat [] else []
def textUp (L : List Nm) (l : List Int) : Nat → Nm
 | 0 => []
 | k + 1 => textUp L l k ++ tokI L (l.getD k 0)
theorem textUp_mono (L : List Nm) (l : List Int) {a b : Nat} (h : a ≤ b) : (textUp L l a).length ≤ (textUp L l b).length := by
 induction b with
 | zero => obtain rfl : a = 0 := by omega
           exact Nat.le_refl _
 | succ b ih =>
  rcases Nat.lt_or_ge a (b + 1) with h1 | h1
  ·have := ih (by omega)
   simp only [textUp, List.length_append]
   omega
  ·obtain rfl : a = b + 1 := by omega
   exact Nat.le_refl _
theorem textUp_yes {L : List Nm} {l : List Int} {k I : Nat} {x : Nm} (hi : l[k]? = some (I : Int)) (hx : L[I]? = some x) : textUp L l (k + 1) = textUp L l k ++ x := by
 have hlt := (List.getElem?_eq_some_iff.1 hx).1
 simp only [textUp, tokI, List.getD_eq_getElem?_getD, hi, Option.getD_some, Int.toNat_natCast, hx]
 rw [if_pos ⟨by omega, by omega⟩]
theorem pairsIn {H : Type} {enc : TypeId × Value → H} {w : World} {A : Option Addr} {n c : Nat} {x : DataW H × List MemPlace} {fuel : Nat} {base : Nat} {spare : Nat → Bool} {held : Bool} (h : DataW.trod enc Tryz.prog w base spare held fuel 22 [.slice A n c] = some x) (_ : Sized 22 x.1) : ∃ l, PairsIn w A n l :=
 pairs_in Tryz.underlying22 (by kernel_rfl) (pair_in Tryz.underlying73 rfl rfl rfl (by kernel_rfl) Tryz.underlying3 Tryz.underlying3 (by kernel_rfl) (by kernel_rfl) rfl rfl) h
end Go.Proofs.YthcjikpabpgpfaaGreat
