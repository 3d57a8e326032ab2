/-
  No cell of these rows narrows 'for every input' (looked for: loops, veiled, ifaces, maps, wideKeys, modest, calm, conditions, laid).
  DERIVED. THE GIVEN ROWS OF THIS SEAT. 5 by the template 'for every input the law returns true; each argument reads behind the call as it read before'; 0 by the template 'total and deterministic' (their statements: YtjnbilcanfhkjaaTotals.lean).
  GIVEN WITH THE SEED: the statements are not yours to turn. If you find one false, say at which input.
  Laid BY PROGRAM, IN A SANDBOX (cutbox-rows.mjs): the forced cells as the released guide's own fill.sh prints them over the translation d531d11f31409feb… (all of the seat's roots in one cut). By AI agents, Wed Nov 11 2026. No macro, syntax, notation, axiom, sorry.
-/
import Derived.Test.YtjnbilcanfhkjaaChecked
import GoSem.Claim
import GoSem.ClaimJoined
import GoSem.ClaimMapViews
import Derived.JoinedTies
import Derived.KernelRfl
namespace Go.Proofs.Ytjnbilcanfhkjaa
/- THE CELL 'sum', in the pinned program and in every row, IS THE sha256 OF THE DUMP (.gsa) THAT YtjnbilcanfhkjaaProg.lean LOADS. Nothing in Lean hashes anything: it is a label: what it is worth is what the hold of that sum in a sandbox is worth. -/
noncomputable def Try.pinned : Pinned := { name := "ytjnbilcanfhkjaa", sum := "d531d11f31409feb47af4ed828d1368bf56d9591e11c5256ffab99967126c1f0", checked := Try.checked }
namespace Rows
def none {H : Type} : Left H := { results := [], args := [] }

/-- 'verbatimlaw08.CoverTells': WHATEVER THE INPUT: true; the input reads as it did. -/
def coverTellsSpec : ChangeSpec := { name := "coverTells", fn := fun _ => fun
  | [d1, d2, d3, d4] => { results := [.lit (.bool true)], args := [d1, d2, d3, d4] }
  | _ => none }
def coverTellsRow : OpenClaim := { program := "ytjnbilcanfhkjaa", sum := "d531d11f31409feb47af4ed828d1368bf56d9591e11c5256ffab99967126c1f0", func := "verbatim/verbatimlaw08.CoverTells", spec := "coverTells", unfollowed := true, recurses := true, apart := false }
def CoverTellsSaid : Prop := coverTellsRow.holds Try.pinned (OpenSpec.ofChange coverTellsSpec)

/-- ITS FALSE NEIGHBOUR: 'it returns false'. Refute it at one input. -/
def coverTellsWrong : ChangeSpec := { name := "coverTells", fn := fun _ => fun
  | [d1, d2, d3, d4] => { results := [.lit (.bool false)], args := [d1, d2, d3, d4] }
  | _ => none }
def CoverTellsWrongFalsely : Prop := coverTellsRow.holds Try.pinned (OpenSpec.ofChange coverTellsWrong)

/-- 'verbatimlaw08.CoverMissed': WHATEVER THE INPUT: true; the input reads as it did. -/
def coverMissedSpec : ChangeSpec := { name := "coverMissed", fn := fun _ => fun
  | [d1, d2, d3] => { results := [.lit (.bool true)], args := [d1, d2, d3] }
  | _ => none }
def coverMissedRow : OpenClaim := { program := "ytjnbilcanfhkjaa", sum := "d531d11f31409feb47af4ed828d1368bf56d9591e11c5256ffab99967126c1f0", func := "verbatim/verbatimlaw08.CoverMissed", spec := "coverMissed", unfollowed := true, recurses := true, apart := false }
def CoverMissedSaid : Prop := coverMissedRow.holds Try.pinned (OpenSpec.ofChange coverMissedSpec)

/-- ITS FALSE NEIGHBOUR: 'it returns false'. Refute it at one input. -/
def coverMissedWrong : ChangeSpec := { name := "coverMissed", fn := fun _ => fun
  | [d1, d2, d3] => { results := [.lit (.bool false)], args := [d1, d2, d3] }
  | _ => none }
def CoverMissedWrongFalsely : Prop := coverMissedRow.holds Try.pinned (OpenSpec.ofChange coverMissedWrong)

/-- 'verbatimlaw08.CoverSure': WHATEVER THE INPUT: true; the input reads as it did. -/
def coverSureSpec : ChangeSpec := { name := "coverSure", fn := fun _ => fun
  | [d1, d2] => { results := [.lit (.bool true)], args := [d1, d2] }
  | _ => none }
def coverSureRow : OpenClaim := { program := "ytjnbilcanfhkjaa", sum := "d531d11f31409feb47af4ed828d1368bf56d9591e11c5256ffab99967126c1f0", func := "verbatim/verbatimlaw08.CoverSure", spec := "coverSure", unfollowed := true, recurses := true, apart := false }
def CoverSureSaid : Prop := coverSureRow.holds Try.pinned (OpenSpec.ofChange coverSureSpec)

/-- ITS FALSE NEIGHBOUR: 'it returns false'. Refute it at one input. -/
def coverSureWrong : ChangeSpec := { name := "coverSure", fn := fun _ => fun
  | [d1, d2] => { results := [.lit (.bool false)], args := [d1, d2] }
  | _ => none }
def CoverSureWrongFalsely : Prop := coverSureRow.holds Try.pinned (OpenSpec.ofChange coverSureWrong)

/-- 'verbatimlaw08.CoverOne': WHATEVER THE INPUT: true; the input reads as it did. -/
def coverOneSpec : ChangeSpec := { name := "coverOne", fn := fun _ => fun
  | [d1, d2, d3] => { results := [.lit (.bool true)], args := [d1, d2, d3] }
  | _ => none }
def coverOneRow : OpenClaim := { program := "ytjnbilcanfhkjaa", sum := "d531d11f31409feb47af4ed828d1368bf56d9591e11c5256ffab99967126c1f0", func := "verbatim/verbatimlaw08.CoverOne", spec := "coverOne", unfollowed := true, recurses := true, apart := false }
def CoverOneSaid : Prop := coverOneRow.holds Try.pinned (OpenSpec.ofChange coverOneSpec)

/-- ITS FALSE NEIGHBOUR: 'it returns false'. Refute it at one input. -/
def coverOneWrong : ChangeSpec := { name := "coverOne", fn := fun _ => fun
  | [d1, d2, d3] => { results := [.lit (.bool false)], args := [d1, d2, d3] }
  | _ => none }
def CoverOneWrongFalsely : Prop := coverOneRow.holds Try.pinned (OpenSpec.ofChange coverOneWrong)

/-- 'verbatimlaw08.CoverLong': WHATEVER THE INPUT: true; the input reads as it did. -/
def coverLongSpec : ChangeSpec := { name := "coverLong", fn := fun _ => fun
  | [d1, d2, d3] => { results := [.lit (.bool true)], args := [d1, d2, d3] }
  | _ => none }
def coverLongRow : OpenClaim := { program := "ytjnbilcanfhkjaa", sum := "d531d11f31409feb47af4ed828d1368bf56d9591e11c5256ffab99967126c1f0", func := "verbatim/verbatimlaw08.CoverLong", spec := "coverLong", unfollowed := true, recurses := true, apart := false }
def CoverLongSaid : Prop := coverLongRow.holds Try.pinned (OpenSpec.ofChange coverLongSpec)

/-- ITS FALSE NEIGHBOUR: 'it returns false'. Refute it at one input. -/
def coverLongWrong : ChangeSpec := { name := "coverLong", fn := fun _ => fun
  | [d1, d2, d3] => { results := [.lit (.bool false)], args := [d1, d2, d3] }
  | _ => none }
def CoverLongWrongFalsely : Prop := coverLongRow.holds Try.pinned (OpenSpec.ofChange coverLongWrong)

/- THE SECOND FORM. 'bulk': how many values and letters a reading holds, each counted each time it is reached (what is shared counts as often as it is met; a slice's spare places count too). A statement '..UptoSaid' is the law's where the arguments, and the package variables that the reading takes, are together of bulk at most 1048576: NARROWER than '..Said'. Prove '..Said' where nothing that the law and all that it calls make is longer than what came in: it says more and counts as full. Else prove '..UptoSaid'. A law counts once. -/
mutual
def uptoBulk {H : Type} : DataW H → Nat
  | .lit (.string bytes) => bytes.length + 1
  | .lit _ => 1
  | .nil => 1
  | .ptr d => uptoBulk d + 1
  | .slice elems spare => uptoBulkAll elems + uptoBulkAll spare + 1
  | .agg parts => uptoBulkAll parts + 1
  | .iface _ d => uptoBulk d + 1
  | .map entries => uptoBulkEntries entries + 1
  | .held _ => 1
def uptoBulkAll {H : Type} : List (DataW H) → Nat
  | [] => 0
  | d :: r => uptoBulk d + uptoBulkAll r
def uptoBulkEntries {H : Type} : List (Lit × DataW H) → Nat
  | [] => 0
  | x :: r => uptoBulkEntry x + uptoBulkEntries r
def uptoBulkEntry {H : Type} : Lit × DataW H → Nat
  | (.string bytes, d) => bytes.length + uptoBulk d + 1
  | (_, d) => uptoBulk d + 1
 end
def uptoSmall : (H : Type) → List (DataW H) → Bool := fun _ ds => decide (uptoBulkAll ds ≤ 1048576)
def OpenSpec.upto (s : _root_.Go.ChangeSpec) : _root_.Go.OpenSpec := { _root_.Go.OpenSpec.ofChange s with cond := some uptoSmall }

/-- 'verbatimlaw08.CoverTells', WHERE WHAT IT READS IS OF BULK AT MOST 1048576: true; the input reads as it did. -/
def coverTellsUptoRow : OpenClaim := { program := "ytjnbilcanfhkjaa", sum := "d531d11f31409feb47af4ed828d1368bf56d9591e11c5256ffab99967126c1f0", func := "verbatim/verbatimlaw08.CoverTells", spec := "coverTells", unfollowed := true, recurses := true, apart := false, narrowed := true }
def CoverTellsUptoSaid : Prop := coverTellsUptoRow.holds Try.pinned (OpenSpec.upto coverTellsSpec)

/-- 'verbatimlaw08.CoverMissed', WHERE WHAT IT READS IS OF BULK AT MOST 1048576: true; the input reads as it did. -/
def coverMissedUptoRow : OpenClaim := { program := "ytjnbilcanfhkjaa", sum := "d531d11f31409feb47af4ed828d1368bf56d9591e11c5256ffab99967126c1f0", func := "verbatim/verbatimlaw08.CoverMissed", spec := "coverMissed", unfollowed := true, recurses := true, apart := false, narrowed := true }
def CoverMissedUptoSaid : Prop := coverMissedUptoRow.holds Try.pinned (OpenSpec.upto coverMissedSpec)

/-- 'verbatimlaw08.CoverSure', WHERE WHAT IT READS IS OF BULK AT MOST 1048576: true; the input reads as it did. -/
def coverSureUptoRow : OpenClaim := { program := "ytjnbilcanfhkjaa", sum := "d531d11f31409feb47af4ed828d1368bf56d9591e11c5256ffab99967126c1f0", func := "verbatim/verbatimlaw08.CoverSure", spec := "coverSure", unfollowed := true, recurses := true, apart := false, narrowed := true }
def CoverSureUptoSaid : Prop := coverSureUptoRow.holds Try.pinned (OpenSpec.upto coverSureSpec)

/-- 'verbatimlaw08.CoverOne', WHERE WHAT IT READS IS OF BULK AT MOST 1048576: true; the input reads as it did. -/
def coverOneUptoRow : OpenClaim := { program := "ytjnbilcanfhkjaa", sum := "d531d11f31409feb47af4ed828d1368bf56d9591e11c5256ffab99967126c1f0", func := "verbatim/verbatimlaw08.CoverOne", spec := "coverOne", unfollowed := true, recurses := true, apart := false, narrowed := true }
def CoverOneUptoSaid : Prop := coverOneUptoRow.holds Try.pinned (OpenSpec.upto coverOneSpec)

/-- 'verbatimlaw08.CoverLong', WHERE WHAT IT READS IS OF BULK AT MOST 1048576: true; the input reads as it did. -/
def coverLongUptoRow : OpenClaim := { program := "ytjnbilcanfhkjaa", sum := "d531d11f31409feb47af4ed828d1368bf56d9591e11c5256ffab99967126c1f0", func := "verbatim/verbatimlaw08.CoverLong", spec := "coverLong", unfollowed := true, recurses := true, apart := false, narrowed := true }
def CoverLongUptoSaid : Prop := coverLongUptoRow.holds Try.pinned (OpenSpec.upto coverLongSpec)

end Rows
end Go.Proofs.Ytjnbilcanfhkjaa
