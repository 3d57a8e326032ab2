/-
  No cell of these rows narrows 'for every input' (looked for: loops, veiled, ifaces, maps, wideKeys, modest, calm, conditions, laid).
  DERIVED. THE GIVEN ROWS OF THIS SEAT. 4 by the template 'for every input the law returns true; each argument reads behind the call as it read before'; 0 by the template 'total and deterministic' (their statements: YtdmhaaplgkilpaaTotals.lean).
  GIVEN WITH THE SEED: the statements are not yours to turn. If you find one false, say at which input.
  Laid BY PROGRAM, IN A SANDBOX (cutbox-rows.mjs): the forced cells as the released guide's own fill.sh prints them over the translation e48a1d0f48dff58f… (all of the seat's roots in one cut). By AI agents, Wed Nov 11 2026. No macro, syntax, notation, axiom, sorry.
-/
import Derived.Test.YtdmhaaplgkilpaaChecked
import GoSem.Claim
import GoSem.ClaimJoined
import GoSem.ClaimMapViews
import Derived.JoinedTies
import Derived.KernelRfl
namespace Go.Proofs.Ytdmhaaplgkilpaa
/- THE CELL 'sum', in the pinned program and in every row, IS THE sha256 OF THE DUMP (.gsa) THAT YtdmhaaplgkilpaaProg.lean LOADS. Nothing in Lean hashes anything: it is a label: what it is worth is what the hold of that sum in a sandbox is worth. -/
noncomputable def Try.pinned : Pinned := { name := "ytdmhaaplgkilpaa", sum := "e48a1d0f48dff58fadb5021909c4f9847a6462048a5609a86a178a2aa566d20a", checked := Try.checked }
namespace Rows
def none {H : Type} : Left H := { results := [], args := [] }

/-- 'verbatimlaw14.DelsTells': WHATEVER THE INPUT: true; the input reads as it did. -/
def delsTellsSpec : ChangeSpec := { name := "delsTells", fn := fun _ => fun
  | [d1, d2, d3] => { results := [.lit (.bool true)], args := [d1, d2, d3] }
  | _ => none }
def delsTellsRow : OpenClaim := { program := "ytdmhaaplgkilpaa", sum := "e48a1d0f48dff58fadb5021909c4f9847a6462048a5609a86a178a2aa566d20a", func := "verbatim/verbatimlaw14.DelsTells", spec := "delsTells", apart := false }
def DelsTellsSaid : Prop := delsTellsRow.holds Try.pinned (OpenSpec.ofChange delsTellsSpec)

/-- ITS FALSE NEIGHBOUR: 'it returns false'. Refute it at one input. -/
def delsTellsWrong : ChangeSpec := { name := "delsTells", fn := fun _ => fun
  | [d1, d2, d3] => { results := [.lit (.bool false)], args := [d1, d2, d3] }
  | _ => none }
def DelsTellsWrongFalsely : Prop := delsTellsRow.holds Try.pinned (OpenSpec.ofChange delsTellsWrong)

/-- 'verbatimlaw14.DelsBack': WHATEVER THE INPUT: true; the input reads as it did. -/
def delsBackSpec : ChangeSpec := { name := "delsBack", fn := fun _ => fun
  | [d1, d2, d3] => { results := [.lit (.bool true)], args := [d1, d2, d3] }
  | _ => none }
def delsBackRow : OpenClaim := { program := "ytdmhaaplgkilpaa", sum := "e48a1d0f48dff58fadb5021909c4f9847a6462048a5609a86a178a2aa566d20a", func := "verbatim/verbatimlaw14.DelsBack", spec := "delsBack", apart := false }
def DelsBackSaid : Prop := delsBackRow.holds Try.pinned (OpenSpec.ofChange delsBackSpec)

/-- ITS FALSE NEIGHBOUR: 'it returns false'. Refute it at one input. -/
def delsBackWrong : ChangeSpec := { name := "delsBack", fn := fun _ => fun
  | [d1, d2, d3] => { results := [.lit (.bool false)], args := [d1, d2, d3] }
  | _ => none }
def DelsBackWrongFalsely : Prop := delsBackRow.holds Try.pinned (OpenSpec.ofChange delsBackWrong)

/-- 'verbatimlaw14.DelsStay': WHATEVER THE INPUT: true; the input reads as it did. -/
def delsStaySpec : ChangeSpec := { name := "delsStay", fn := fun _ => fun
  | [d1, d2, d3] => { results := [.lit (.bool true)], args := [d1, d2, d3] }
  | _ => none }
def delsStayRow : OpenClaim := { program := "ytdmhaaplgkilpaa", sum := "e48a1d0f48dff58fadb5021909c4f9847a6462048a5609a86a178a2aa566d20a", func := "verbatim/verbatimlaw14.DelsStay", spec := "delsStay", apart := false }
def DelsStaySaid : Prop := delsStayRow.holds Try.pinned (OpenSpec.ofChange delsStaySpec)

/-- ITS FALSE NEIGHBOUR: 'it returns false'. Refute it at one input. -/
def delsStayWrong : ChangeSpec := { name := "delsStay", fn := fun _ => fun
  | [d1, d2, d3] => { results := [.lit (.bool false)], args := [d1, d2, d3] }
  | _ => none }
def DelsStayWrongFalsely : Prop := delsStayRow.holds Try.pinned (OpenSpec.ofChange delsStayWrong)

/-- 'verbatimlaw14.DelsOne': WHATEVER THE INPUT: true; the input reads as it did. -/
def delsOneSpec : ChangeSpec := { name := "delsOne", fn := fun _ => fun
  | [d1, d2, d3] => { results := [.lit (.bool true)], args := [d1, d2, d3] }
  | _ => none }
def delsOneRow : OpenClaim := { program := "ytdmhaaplgkilpaa", sum := "e48a1d0f48dff58fadb5021909c4f9847a6462048a5609a86a178a2aa566d20a", func := "verbatim/verbatimlaw14.DelsOne", spec := "delsOne", apart := false }
def DelsOneSaid : Prop := delsOneRow.holds Try.pinned (OpenSpec.ofChange delsOneSpec)

/-- ITS FALSE NEIGHBOUR: 'it returns false'. Refute it at one input. -/
def delsOneWrong : ChangeSpec := { name := "delsOne", fn := fun _ => fun
  | [d1, d2, d3] => { results := [.lit (.bool false)], args := [d1, d2, d3] }
  | _ => none }
def DelsOneWrongFalsely : Prop := delsOneRow.holds Try.pinned (OpenSpec.ofChange delsOneWrong)

/- THE SECOND FORM. 'bulk': how many values and letters a reading holds, each counted each time it is reached (what is shared counts as often as it is met; a slice's spare places count too). A statement '..UptoSaid' is the law's where the arguments, and the package variables that the reading takes, are together of bulk at most 1048576: NARROWER than '..Said'. Prove '..Said' where nothing that the law and all that it calls make is longer than what came in: it says more and counts as full. Else prove '..UptoSaid'. A law counts once. -/
mutual
def uptoBulk {H : Type} : DataW H → Nat
  | .lit (.string bytes) => bytes.length + 1
  | .lit _ => 1
  | .nil => 1
  | .ptr d => uptoBulk d + 1
  | .slice elems spare => uptoBulkAll elems + uptoBulkAll spare + 1
  | .agg parts => uptoBulkAll parts + 1
  | .iface _ d => uptoBulk d + 1
  | .map entries => uptoBulkEntries entries + 1
  | .held _ => 1
def uptoBulkAll {H : Type} : List (DataW H) → Nat
  | [] => 0
  | d :: r => uptoBulk d + uptoBulkAll r
def uptoBulkEntries {H : Type} : List (Lit × DataW H) → Nat
  | [] => 0
  | x :: r => uptoBulkEntry x + uptoBulkEntries r
def uptoBulkEntry {H : Type} : Lit × DataW H → Nat
  | (.string bytes, d) => bytes.length + uptoBulk d + 1
  | (_, d) => uptoBulk d + 1
 end
def uptoSmall : (H : Type) → List (DataW H) → Bool := fun _ ds => decide (uptoBulkAll ds ≤ 1048576)
def OpenSpec.upto (s : _root_.Go.ChangeSpec) : _root_.Go.OpenSpec := { _root_.Go.OpenSpec.ofChange s with cond := some uptoSmall }

/-- 'verbatimlaw14.DelsTells', WHERE WHAT IT READS IS OF BULK AT MOST 1048576: true; the input reads as it did. -/
def delsTellsUptoRow : OpenClaim := { program := "ytdmhaaplgkilpaa", sum := "e48a1d0f48dff58fadb5021909c4f9847a6462048a5609a86a178a2aa566d20a", func := "verbatim/verbatimlaw14.DelsTells", spec := "delsTells", apart := false, narrowed := true }
def DelsTellsUptoSaid : Prop := delsTellsUptoRow.holds Try.pinned (OpenSpec.upto delsTellsSpec)

/-- 'verbatimlaw14.DelsBack', WHERE WHAT IT READS IS OF BULK AT MOST 1048576: true; the input reads as it did. -/
def delsBackUptoRow : OpenClaim := { program := "ytdmhaaplgkilpaa", sum := "e48a1d0f48dff58fadb5021909c4f9847a6462048a5609a86a178a2aa566d20a", func := "verbatim/verbatimlaw14.DelsBack", spec := "delsBack", apart := false, narrowed := true }
def DelsBackUptoSaid : Prop := delsBackUptoRow.holds Try.pinned (OpenSpec.upto delsBackSpec)

/-- 'verbatimlaw14.DelsStay', WHERE WHAT IT READS IS OF BULK AT MOST 1048576: true; the input reads as it did. -/
def delsStayUptoRow : OpenClaim := { program := "ytdmhaaplgkilpaa", sum := "e48a1d0f48dff58fadb5021909c4f9847a6462048a5609a86a178a2aa566d20a", func := "verbatim/verbatimlaw14.DelsStay", spec := "delsStay", apart := false, narrowed := true }
def DelsStayUptoSaid : Prop := delsStayUptoRow.holds Try.pinned (OpenSpec.upto delsStaySpec)

/-- 'verbatimlaw14.DelsOne', WHERE WHAT IT READS IS OF BULK AT MOST 1048576: true; the input reads as it did. -/
def delsOneUptoRow : OpenClaim := { program := "ytdmhaaplgkilpaa", sum := "e48a1d0f48dff58fadb5021909c4f9847a6462048a5609a86a178a2aa566d20a", func := "verbatim/verbatimlaw14.DelsOne", spec := "delsOne", apart := false, narrowed := true }
def DelsOneUptoSaid : Prop := delsOneUptoRow.holds Try.pinned (OpenSpec.upto delsOneSpec)

end Rows
end Go.Proofs.Ytdmhaaplgkilpaa
