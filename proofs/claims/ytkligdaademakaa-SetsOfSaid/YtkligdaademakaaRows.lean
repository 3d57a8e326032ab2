/-
  No cell of these rows narrows 'for every input' (looked for: loops, veiled, ifaces, maps, wideKeys, modest, calm, conditions, laid).
  DERIVED. THE GIVEN ROWS OF THIS SEAT. 5 by the template 'for every input the law returns true; each argument reads behind the call as it read before'; 0 by the template 'total and deterministic' (their statements: YtkligdaademakaaTotals.lean).
  GIVEN WITH THE SEED: the statements are not yours to turn. If you find one false, say at which input.
  Laid BY PROGRAM, IN A SANDBOX (cutbox-rows.mjs): the forced cells as the released guide's own fill.sh prints them over the translation d22c51a2c55e98a1… (all of the seat's roots in one cut). By AI agents, Wed Nov 11 2026. No macro, syntax, notation, axiom, sorry.
-/
import Derived.Test.YtkligdaademakaaChecked
import GoSem.Claim
import GoSem.ClaimJoined
import GoSem.ClaimMapViews
import Derived.JoinedTies
import Derived.KernelRfl
namespace Go.Proofs.Ytkligdaademakaa
/- THE CELL 'sum', in the pinned program and in every row, IS THE sha256 OF THE DUMP (.gsa) THAT YtkligdaademakaaProg.lean LOADS. Nothing in Lean hashes anything: it is a label: what it is worth is what the hold of that sum in a sandbox is worth. -/
noncomputable def Try.pinned : Pinned := { name := "ytkligdaademakaa", sum := "d22c51a2c55e98a180a79d22b83465bd5993f35e8ee4be51175202586cdcfbb1", checked := Try.checked }
namespace Rows
def none {H : Type} : Left H := { results := [], args := [] }

/-- 'verbatimlaw11.SetsGather': WHATEVER THE INPUT: true; the input reads as it did. -/
def setsGatherSpec : ChangeSpec := { name := "setsGather", fn := fun _ => fun
  | [d] => { results := [.lit (.bool true)], args := [d] }
  | _ => none }
def setsGatherRow : OpenClaim := { program := "ytkligdaademakaa", sum := "d22c51a2c55e98a180a79d22b83465bd5993f35e8ee4be51175202586cdcfbb1", func := "verbatim/verbatimlaw11.SetsGather", spec := "setsGather", unfollowed := true, recurses := true, apart := false }
def SetsGatherSaid : Prop := setsGatherRow.holds Try.pinned (OpenSpec.ofChange setsGatherSpec)

/-- ITS FALSE NEIGHBOUR: 'it returns false'. Refute it at one input. -/
def setsGatherWrong : ChangeSpec := { name := "setsGather", fn := fun _ => fun
  | [d] => { results := [.lit (.bool false)], args := [d] }
  | _ => none }
def SetsGatherWrongFalsely : Prop := setsGatherRow.holds Try.pinned (OpenSpec.ofChange setsGatherWrong)

/-- 'verbatimlaw11.SetsWalks': WHATEVER THE INPUT: true; the input reads as it did. -/
def setsWalksSpec : ChangeSpec := { name := "setsWalks", fn := fun _ => fun
  | [d1, d2] => { results := [.lit (.bool true)], args := [d1, d2] }
  | _ => none }
def setsWalksRow : OpenClaim := { program := "ytkligdaademakaa", sum := "d22c51a2c55e98a180a79d22b83465bd5993f35e8ee4be51175202586cdcfbb1", func := "verbatim/verbatimlaw11.SetsWalks", spec := "setsWalks", unfollowed := true, recurses := true, apart := false }
def SetsWalksSaid : Prop := setsWalksRow.holds Try.pinned (OpenSpec.ofChange setsWalksSpec)

/-- ITS FALSE NEIGHBOUR: 'it returns false'. Refute it at one input. -/
def setsWalksWrong : ChangeSpec := { name := "setsWalks", fn := fun _ => fun
  | [d1, d2] => { results := [.lit (.bool false)], args := [d1, d2] }
  | _ => none }
def SetsWalksWrongFalsely : Prop := setsWalksRow.holds Try.pinned (OpenSpec.ofChange setsWalksWrong)

/-- 'verbatimlaw11.SetsLaws': WHATEVER THE INPUT: true; the input reads as it did. -/
def setsLawsSpec : ChangeSpec := { name := "setsLaws", fn := fun _ => fun
  | [d1, d2, d3] => { results := [.lit (.bool true)], args := [d1, d2, d3] }
  | _ => none }
def setsLawsRow : OpenClaim := { program := "ytkligdaademakaa", sum := "d22c51a2c55e98a180a79d22b83465bd5993f35e8ee4be51175202586cdcfbb1", func := "verbatim/verbatimlaw11.SetsLaws", spec := "setsLaws", unfollowed := true, recurses := true, apart := false }
def SetsLawsSaid : Prop := setsLawsRow.holds Try.pinned (OpenSpec.ofChange setsLawsSpec)

/-- ITS FALSE NEIGHBOUR: 'it returns false'. Refute it at one input. -/
def setsLawsWrong : ChangeSpec := { name := "setsLaws", fn := fun _ => fun
  | [d1, d2, d3] => { results := [.lit (.bool false)], args := [d1, d2, d3] }
  | _ => none }
def SetsLawsWrongFalsely : Prop := setsLawsRow.holds Try.pinned (OpenSpec.ofChange setsLawsWrong)

/-- 'verbatimlaw11.SetsOf': WHATEVER THE INPUT: true; the input reads as it did. -/
def setsOfSpec : ChangeSpec := { name := "setsOf", fn := fun _ => fun
  | [d1, d2, d3] => { results := [.lit (.bool true)], args := [d1, d2, d3] }
  | _ => none }
def setsOfRow : OpenClaim := { program := "ytkligdaademakaa", sum := "d22c51a2c55e98a180a79d22b83465bd5993f35e8ee4be51175202586cdcfbb1", func := "verbatim/verbatimlaw11.SetsOf", spec := "setsOf", unfollowed := true, recurses := true, apart := false }
def SetsOfSaid : Prop := setsOfRow.holds Try.pinned (OpenSpec.ofChange setsOfSpec)

/-- ITS FALSE NEIGHBOUR: 'it returns false'. Refute it at one input. -/
def setsOfWrong : ChangeSpec := { name := "setsOf", fn := fun _ => fun
  | [d1, d2, d3] => { results := [.lit (.bool false)], args := [d1, d2, d3] }
  | _ => none }
def SetsOfWrongFalsely : Prop := setsOfRow.holds Try.pinned (OpenSpec.ofChange setsOfWrong)

/-- 'verbatimlaw11.SetsMany': WHATEVER THE INPUT: true; the input reads as it did. -/
def setsManySpec : ChangeSpec := { name := "setsMany", fn := fun _ => fun
  | [d] => { results := [.lit (.bool true)], args := [d] }
  | _ => none }
def setsManyRow : OpenClaim := { program := "ytkligdaademakaa", sum := "d22c51a2c55e98a180a79d22b83465bd5993f35e8ee4be51175202586cdcfbb1", func := "verbatim/verbatimlaw11.SetsMany", spec := "setsMany", unfollowed := true, recurses := true, apart := false }
def SetsManySaid : Prop := setsManyRow.holds Try.pinned (OpenSpec.ofChange setsManySpec)

/-- ITS FALSE NEIGHBOUR: 'it returns false'. Refute it at one input. -/
def setsManyWrong : ChangeSpec := { name := "setsMany", fn := fun _ => fun
  | [d] => { results := [.lit (.bool false)], args := [d] }
  | _ => none }
def SetsManyWrongFalsely : Prop := setsManyRow.holds Try.pinned (OpenSpec.ofChange setsManyWrong)

/- THE SECOND FORM. 'bulk': how many values and letters a reading holds, each counted each time it is reached (what is shared counts as often as it is met; a slice's spare places count too). A statement '..UptoSaid' is the law's where the arguments, and the package variables that the reading takes, are together of bulk at most 1048576: NARROWER than '..Said'. Prove '..Said' where nothing that the law and all that it calls make is longer than what came in: it says more and counts as full. Else prove '..UptoSaid'. A law counts once. -/
mutual
def uptoBulk {H : Type} : DataW H → Nat
  | .lit (.string bytes) => bytes.length + 1
  | .lit _ => 1
  | .nil => 1
  | .ptr d => uptoBulk d + 1
  | .slice elems spare => uptoBulkAll elems + uptoBulkAll spare + 1
  | .agg parts => uptoBulkAll parts + 1
  | .iface _ d => uptoBulk d + 1
  | .map entries => uptoBulkEntries entries + 1
  | .held _ => 1
def uptoBulkAll {H : Type} : List (DataW H) → Nat
  | [] => 0
  | d :: r => uptoBulk d + uptoBulkAll r
def uptoBulkEntries {H : Type} : List (Lit × DataW H) → Nat
  | [] => 0
  | x :: r => uptoBulkEntry x + uptoBulkEntries r
def uptoBulkEntry {H : Type} : Lit × DataW H → Nat
  | (.string bytes, d) => bytes.length + uptoBulk d + 1
  | (_, d) => uptoBulk d + 1
 end
def uptoSmall : (H : Type) → List (DataW H) → Bool := fun _ ds => decide (uptoBulkAll ds ≤ 1048576)
def OpenSpec.upto (s : _root_.Go.ChangeSpec) : _root_.Go.OpenSpec := { _root_.Go.OpenSpec.ofChange s with cond := some uptoSmall }

/-- 'verbatimlaw11.SetsGather', WHERE WHAT IT READS IS OF BULK AT MOST 1048576: true; the input reads as it did. -/
def setsGatherUptoRow : OpenClaim := { program := "ytkligdaademakaa", sum := "d22c51a2c55e98a180a79d22b83465bd5993f35e8ee4be51175202586cdcfbb1", func := "verbatim/verbatimlaw11.SetsGather", spec := "setsGather", unfollowed := true, recurses := true, apart := false, narrowed := true }
def SetsGatherUptoSaid : Prop := setsGatherUptoRow.holds Try.pinned (OpenSpec.upto setsGatherSpec)

/-- 'verbatimlaw11.SetsWalks', WHERE WHAT IT READS IS OF BULK AT MOST 1048576: true; the input reads as it did. -/
def setsWalksUptoRow : OpenClaim := { program := "ytkligdaademakaa", sum := "d22c51a2c55e98a180a79d22b83465bd5993f35e8ee4be51175202586cdcfbb1", func := "verbatim/verbatimlaw11.SetsWalks", spec := "setsWalks", unfollowed := true, recurses := true, apart := false, narrowed := true }
def SetsWalksUptoSaid : Prop := setsWalksUptoRow.holds Try.pinned (OpenSpec.upto setsWalksSpec)

/-- 'verbatimlaw11.SetsLaws', WHERE WHAT IT READS IS OF BULK AT MOST 1048576: true; the input reads as it did. -/
def setsLawsUptoRow : OpenClaim := { program := "ytkligdaademakaa", sum := "d22c51a2c55e98a180a79d22b83465bd5993f35e8ee4be51175202586cdcfbb1", func := "verbatim/verbatimlaw11.SetsLaws", spec := "setsLaws", unfollowed := true, recurses := true, apart := false, narrowed := true }
def SetsLawsUptoSaid : Prop := setsLawsUptoRow.holds Try.pinned (OpenSpec.upto setsLawsSpec)

/-- 'verbatimlaw11.SetsOf', WHERE WHAT IT READS IS OF BULK AT MOST 1048576: true; the input reads as it did. -/
def setsOfUptoRow : OpenClaim := { program := "ytkligdaademakaa", sum := "d22c51a2c55e98a180a79d22b83465bd5993f35e8ee4be51175202586cdcfbb1", func := "verbatim/verbatimlaw11.SetsOf", spec := "setsOf", unfollowed := true, recurses := true, apart := false, narrowed := true }
def SetsOfUptoSaid : Prop := setsOfUptoRow.holds Try.pinned (OpenSpec.upto setsOfSpec)

/-- 'verbatimlaw11.SetsMany', WHERE WHAT IT READS IS OF BULK AT MOST 1048576: true; the input reads as it did. -/
def setsManyUptoRow : OpenClaim := { program := "ytkligdaademakaa", sum := "d22c51a2c55e98a180a79d22b83465bd5993f35e8ee4be51175202586cdcfbb1", func := "verbatim/verbatimlaw11.SetsMany", spec := "setsMany", unfollowed := true, recurses := true, apart := false, narrowed := true }
def SetsManyUptoSaid : Prop := setsManyUptoRow.holds Try.pinned (OpenSpec.upto setsManySpec)

end Rows
end Go.Proofs.Ytkligdaademakaa
