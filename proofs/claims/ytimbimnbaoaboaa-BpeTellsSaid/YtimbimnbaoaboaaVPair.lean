/- A pair more: what it gives. -/
import Derived.Test.YtimbimnbaoaboaaVGrow7
namespace Go.Proofs.Ytimbimnbaoaboaa
open Go.RowKit Go.Maps Go.WideMaps
set_option linter.unusedSimpArgs false

def pairErr (V : Voc) (a b : Int) : Int :=
  if freeB V a b = false then 53
  else if 16 < (bothT V a b).length then 52
  else if 512 ≤ V.mer.length ∨ (findT V.tok (bothT V a b) < 0 ∧ 512 ≤ V.tok.length) then 2
  else 0
def pairAdd (V : Voc) (a b : Int) : Voc :=
  if findT V.tok (bothT V a b) < 0 then ⟨V.tok ++ [bothT V a b], V.mer ++ [⟨a, b, V.tok.length⟩]⟩
  else ⟨V.tok, V.mer ++ [⟨a, b, findT V.tok (bothT V a b)⟩]⟩
theorem Own.trans {F : Nat → Prop} {w w1 w2 : World} (h1 : w.heap.size ≤ w1.heap.size) (h2 : w1.heap.size ≤ w2.heap.size) : ∀ i, Own (Own F w w1) w1 w2 i ↔ Own F w w2 i := fun i => by
  unfold Own
  constructor
  · rintro ((h | h) | h)
    · exact .inl h
    · exact .inr ⟨h.1, by omega⟩
    · exact .inr ⟨by omega, h.2⟩
  · rintro (h | h)
    · exact .inl (.inl h)
    · by_cases hi : i < w1.heap.size
      · exact .inl (.inr ⟨h.1, hi⟩)
      · exact .inr ⟨by omega, h.2⟩
theorem Grow.iff {w : World} {F F' : Nat → Prop} {b : Nat} {V : Voc} (h : Grow w F b V) (hF : ∀ i, F i ↔ F' i) : Grow w F' b V := by
  have e : F = F' := funext fun i => propext (hF i)
  rw [← e]; exact h
theorem find_fits {L : List Nm} (h : L.length ≤ 1048576) (s : Nm) : fits64 (findT L s) := by
  rcases findT_cases L s with ⟨h1, _⟩ | ⟨i, h1, h2, _⟩
  · rw [h1]; exact ⟨by omega, by omega⟩
  · have := (List.getElem?_eq_some_iff.1 h2).1
    rw [h1]; exact ⟨by omega, by omega⟩

end Go.Proofs.Ytimbimnbaoaboaa
