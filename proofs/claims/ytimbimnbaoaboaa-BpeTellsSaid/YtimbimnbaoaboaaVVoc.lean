/- A vocabulary that can be read; small words of what follows. -/
import Derived.Test.YtimbimnbaoaboaaVRef1
import Derived.Deep.RegionHeld3
import Derived.Deep.RegionLaw
namespace Go.Proofs.Ytimbimnbaoaboaa
open Go.RowKit Go.Maps Go.WideMaps

/-- A vocabulary by value. -/
def vocV (A B : Option Addr) (n m ca cb : Nat) : Value := .agg #[.slice A n ca, .slice B m cb]
structure VocSee (w : World) (A B : Option Addr) (n m ca cb : Nat) (V : Voc) : Prop where
  tok : RowsSee w A n V.tok
  mer : MgSee w B m V.mer
  capT : n ≤ ca
  capM : m ≤ cb
theorem VocSee.below {w w' : World} {A B : Option Addr} {n m ca cb : Nat} {V : Voc} (h : VocSee w A B n m ca cb V) (hb : Below w.heap.size w w') : VocSee w' A B n m ca cb V := ⟨h.tok.below hb, h.mer.below hb, h.capT, h.capM⟩
theorem cat_list (a b : Nm) : ((⟨a.toArray⟩ : ByteArray) ++ ⟨b.toArray⟩).toList = a ++ b := by
  rw [ByteArray.mk_append_mk]
  simp
theorem tok_short {L : List Nm} {k : Nat} {x : Nm} (h : tokOk L k = true) (hx : L[k]? = some x) : x.length ≤ 16 := by
  unfold tokOk at h
  rw [List.getD_eq_getElem?_getD, hx] at h
  simp only [Option.getD_some, Bool.and_eq_true, decide_eq_true_eq] at h
  exact h.2.1
theorem quiet_plus {P : Program} {f : FuncId} {args : Array Value} {w : World} {q n : Nat} {v : Value} (h : Calls P f args (w.drewN (q + n)) fun e w' => e = .returned v ∧ w' = w.drewN (q + n)) : Calls P f args (w.drewN (q + n)) fun e w'' => e = .returned v ∧ ∃ m, w'' = w.drewN (q + m) :=
  h.mono fun _ _ ⟨he, hm⟩ => ⟨he, n, hm⟩
theorem all_range_false {f : Nat → Bool} {n k : Nat} (hk : k < n) (h : f k = false) : (List.range n).all f = false := by
  rw [List.all_eq_false]
  exact ⟨k, List.mem_range.2 hk, by simp [h]⟩
theorem all_range_true {f : Nat → Bool} {n : Nat} (h : ∀ k, k < n → f k = true) : (List.range n).all f = true := by
  rw [List.all_eq_true]
  intro k hk
  exact h k (List.mem_range.1 hk)

end Go.Proofs.Ytimbimnbaoaboaa
