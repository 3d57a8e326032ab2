/- 'string(b)' of bytes, of one's own or that came in. -/
import Derived.Test.YtdmhaaplgkilpaaKHead
import Derived.Lib.Strings
import Derived.Lib.UnsafeStr
import Derived.Lib.BufferRead
namespace Go.Proofs.Ytdmhaaplgkilpaa
open Go.RowKit Go.Maps Go.WideMaps

theorem str_of {w : World} {A : Option Addr} {n : Nat} {x : Nm} (h : BytesIn w A n x) (c : Nat) : (convert 23 9 (.slice A n c)).run Try.prog w = .ok (.string ⟨x.toArray⟩) w := by
  have hl : x.length = n := by have := h.2.1.len; simpa using this
  cases A with
  | none =>
    have h0 := h.2.1.nil rfl
    have hx : x = [] := List.eq_nil_of_length_eq_zero (by omega)
    subst hx h0
    exact Lib.run_convert_nil_bytes w 23 9 5 c Try.underlying23 Try.underlying5 Try.underlying9
  | some ad =>
    have := run_convert_bytes_back (P := Try.prog) w 23 9 5 ad c x Try.underlying23 Try.underlying5 Try.underlying9 (fun j hj => by
      refine h.2.1.cells ad rfl j _ ?_
      rw [List.getElem?_map, List.getElem?_eq_getElem hj]
      simp [byteV])
    rw [hl] at this
    exact this
end Go.Proofs.Ytdmhaaplgkilpaa
