/-
  No cell of these rows narrows 'for every input' (looked for: loops, veiled, ifaces, maps, wideKeys, modest, calm, conditions, laid).
  DERIVED. THE GIVEN ROWS OF THIS SEAT. 7 by the template 'for every input the law returns true; each argument reads behind the call as it read before'; 0 by the template 'total and deterministic' (their statements: YtmncnbnloonenaaTotals.lean).
  GIVEN WITH THE SEED: the statements are not yours to turn. If you find one false, say at which input.
  Laid BY PROGRAM, IN A SANDBOX (cutbox-rows.mjs): the forced cells as the released guide's own fill.sh prints them over the translation 369025b4f38b5ea1… (all of the seat's roots in one cut). By AI agents, Wed Nov 11 2026. No macro, syntax, notation, axiom, sorry.
-/
import Derived.Test.YtmncnbnloonenaaChecked
import GoSem.Claim
import GoSem.ClaimJoined
import GoSem.ClaimMapViews
import Derived.JoinedTies
import Derived.KernelRfl
namespace Go.Proofs.Ytmncnbnloonenaa
/- THE CELL 'sum', in the pinned program and in every row, IS THE sha256 OF THE DUMP (.gsa) THAT YtmncnbnloonenaaProg.lean LOADS. Nothing in Lean hashes anything: it is a label: what it is worth is what the hold of that sum in a sandbox is worth. -/
noncomputable def Try.pinned : Pinned := { name := "ytmncnbnloonenaa", sum := "369025b4f38b5ea1a5a6405177059ac20146f7f1c357a78b612527aa549ba2c0", checked := Try.checked }
namespace Rows
def none {H : Type} : Left H := { results := [], args := [] }

/-- 'verbatimlaw03.LebTells': WHATEVER THE INPUT: true; the input reads as it did. -/
def lebTellsSpec : ChangeSpec := { name := "lebTells", fn := fun _ => fun
  | [d1, d2] => { results := [.lit (.bool true)], args := [d1, d2] }
  | _ => none }
def lebTellsRow : OpenClaim := { program := "ytmncnbnloonenaa", sum := "369025b4f38b5ea1a5a6405177059ac20146f7f1c357a78b612527aa549ba2c0", func := "verbatim/verbatimlaw03.LebTells", spec := "lebTells", unfollowed := true, recurses := true, apart := false }
def LebTellsSaid : Prop := lebTellsRow.holds Try.pinned (OpenSpec.ofChange lebTellsSpec)

/-- ITS FALSE NEIGHBOUR: 'it returns false'. Refute it at one input. -/
def lebTellsWrong : ChangeSpec := { name := "lebTells", fn := fun _ => fun
  | [d1, d2] => { results := [.lit (.bool false)], args := [d1, d2] }
  | _ => none }
def LebTellsWrongFalsely : Prop := lebTellsRow.holds Try.pinned (OpenSpec.ofChange lebTellsWrong)

/-- 'verbatimlaw03.LebBack': WHATEVER THE INPUT: true; the input reads as it did. -/
def lebBackSpec : ChangeSpec := { name := "lebBack", fn := fun _ => fun
  | [d1, d2, d3] => { results := [.lit (.bool true)], args := [d1, d2, d3] }
  | _ => none }
def lebBackRow : OpenClaim := { program := "ytmncnbnloonenaa", sum := "369025b4f38b5ea1a5a6405177059ac20146f7f1c357a78b612527aa549ba2c0", func := "verbatim/verbatimlaw03.LebBack", spec := "lebBack", unfollowed := true, recurses := true, apart := false }
def LebBackSaid : Prop := lebBackRow.holds Try.pinned (OpenSpec.ofChange lebBackSpec)

/-- ITS FALSE NEIGHBOUR: 'it returns false'. Refute it at one input. -/
def lebBackWrong : ChangeSpec := { name := "lebBack", fn := fun _ => fun
  | [d1, d2, d3] => { results := [.lit (.bool false)], args := [d1, d2, d3] }
  | _ => none }
def LebBackWrongFalsely : Prop := lebBackRow.holds Try.pinned (OpenSpec.ofChange lebBackWrong)

/-- 'verbatimlaw03.LebShort': WHATEVER THE INPUT: true; the input reads as it did. -/
def lebShortSpec : ChangeSpec := { name := "lebShort", fn := fun _ => fun
  | [d1, d2, d3] => { results := [.lit (.bool true)], args := [d1, d2, d3] }
  | _ => none }
def lebShortRow : OpenClaim := { program := "ytmncnbnloonenaa", sum := "369025b4f38b5ea1a5a6405177059ac20146f7f1c357a78b612527aa549ba2c0", func := "verbatim/verbatimlaw03.LebShort", spec := "lebShort", unfollowed := true, recurses := true, apart := false }
def LebShortSaid : Prop := lebShortRow.holds Try.pinned (OpenSpec.ofChange lebShortSpec)

/-- ITS FALSE NEIGHBOUR: 'it returns false'. Refute it at one input. -/
def lebShortWrong : ChangeSpec := { name := "lebShort", fn := fun _ => fun
  | [d1, d2, d3] => { results := [.lit (.bool false)], args := [d1, d2, d3] }
  | _ => none }
def LebShortWrongFalsely : Prop := lebShortRow.holds Try.pinned (OpenSpec.ofChange lebShortWrong)

/-- 'verbatimlaw03.LebRising': WHATEVER THE INPUT: true; the input reads as it did. -/
def lebRisingSpec : ChangeSpec := { name := "lebRising", fn := fun _ => fun
  | [d1, d2, d3] => { results := [.lit (.bool true)], args := [d1, d2, d3] }
  | _ => none }
def lebRisingRow : OpenClaim := { program := "ytmncnbnloonenaa", sum := "369025b4f38b5ea1a5a6405177059ac20146f7f1c357a78b612527aa549ba2c0", func := "verbatim/verbatimlaw03.LebRising", spec := "lebRising", unfollowed := true, recurses := true, apart := false }
def LebRisingSaid : Prop := lebRisingRow.holds Try.pinned (OpenSpec.ofChange lebRisingSpec)

/-- ITS FALSE NEIGHBOUR: 'it returns false'. Refute it at one input. -/
def lebRisingWrong : ChangeSpec := { name := "lebRising", fn := fun _ => fun
  | [d1, d2, d3] => { results := [.lit (.bool false)], args := [d1, d2, d3] }
  | _ => none }
def LebRisingWrongFalsely : Prop := lebRisingRow.holds Try.pinned (OpenSpec.ofChange lebRisingWrong)

/-- 'verbatimlaw03.LebList': WHATEVER THE INPUT: true; the input reads as it did. -/
def lebListSpec : ChangeSpec := { name := "lebList", fn := fun _ => fun
  | [d1, d2, d3] => { results := [.lit (.bool true)], args := [d1, d2, d3] }
  | _ => none }
def lebListRow : OpenClaim := { program := "ytmncnbnloonenaa", sum := "369025b4f38b5ea1a5a6405177059ac20146f7f1c357a78b612527aa549ba2c0", func := "verbatim/verbatimlaw03.LebList", spec := "lebList", unfollowed := true, recurses := true, apart := false }
def LebListSaid : Prop := lebListRow.holds Try.pinned (OpenSpec.ofChange lebListSpec)

/-- ITS FALSE NEIGHBOUR: 'it returns false'. Refute it at one input. -/
def lebListWrong : ChangeSpec := { name := "lebList", fn := fun _ => fun
  | [d1, d2, d3] => { results := [.lit (.bool false)], args := [d1, d2, d3] }
  | _ => none }
def LebListWrongFalsely : Prop := lebListRow.holds Try.pinned (OpenSpec.ofChange lebListWrong)

/-- 'verbatimlaw03.LebReads': WHATEVER THE INPUT: true; the input reads as it did. -/
def lebReadsSpec : ChangeSpec := { name := "lebReads", fn := fun _ => fun
  | [d1, d2] => { results := [.lit (.bool true)], args := [d1, d2] }
  | _ => none }
def lebReadsRow : OpenClaim := { program := "ytmncnbnloonenaa", sum := "369025b4f38b5ea1a5a6405177059ac20146f7f1c357a78b612527aa549ba2c0", func := "verbatim/verbatimlaw03.LebReads", spec := "lebReads", unfollowed := true, recurses := true, apart := false }
def LebReadsSaid : Prop := lebReadsRow.holds Try.pinned (OpenSpec.ofChange lebReadsSpec)

/-- ITS FALSE NEIGHBOUR: 'it returns false'. Refute it at one input. -/
def lebReadsWrong : ChangeSpec := { name := "lebReads", fn := fun _ => fun
  | [d1, d2] => { results := [.lit (.bool false)], args := [d1, d2] }
  | _ => none }
def LebReadsWrongFalsely : Prop := lebReadsRow.holds Try.pinned (OpenSpec.ofChange lebReadsWrong)

/-- 'verbatimlaw03.LebTexts': WHATEVER THE INPUT: true; the input reads as it did. -/
def lebTextsSpec : ChangeSpec := { name := "lebTexts", fn := fun _ => fun
  | [d] => { results := [.lit (.bool true)], args := [d] }
  | _ => none }
def lebTextsRow : OpenClaim := { program := "ytmncnbnloonenaa", sum := "369025b4f38b5ea1a5a6405177059ac20146f7f1c357a78b612527aa549ba2c0", func := "verbatim/verbatimlaw03.LebTexts", spec := "lebTexts", unfollowed := true, recurses := true, apart := false }
def LebTextsSaid : Prop := lebTextsRow.holds Try.pinned (OpenSpec.ofChange lebTextsSpec)

/-- ITS FALSE NEIGHBOUR: 'it returns false'. Refute it at one input. -/
def lebTextsWrong : ChangeSpec := { name := "lebTexts", fn := fun _ => fun
  | [d] => { results := [.lit (.bool false)], args := [d] }
  | _ => none }
def LebTextsWrongFalsely : Prop := lebTextsRow.holds Try.pinned (OpenSpec.ofChange lebTextsWrong)

/- THE SECOND FORM. 'bulk': how many values and letters a reading holds, each counted each time it is reached (what is shared counts as often as it is met; a slice's spare places count too). A statement '..UptoSaid' is the law's where the arguments, and the package variables that the reading takes, are together of bulk at most 1048576: NARROWER than '..Said'. Prove '..Said' where nothing that the law and all that it calls make is longer than what came in: it says more and counts as full. Else prove '..UptoSaid'. A law counts once. -/
mutual
def uptoBulk {H : Type} : DataW H → Nat
  | .lit (.string bytes) => bytes.length + 1
  | .lit _ => 1
  | .nil => 1
  | .ptr d => uptoBulk d + 1
  | .slice elems spare => uptoBulkAll elems + uptoBulkAll spare + 1
  | .agg parts => uptoBulkAll parts + 1
  | .iface _ d => uptoBulk d + 1
  | .map entries => uptoBulkEntries entries + 1
  | .held _ => 1
def uptoBulkAll {H : Type} : List (DataW H) → Nat
  | [] => 0
  | d :: r => uptoBulk d + uptoBulkAll r
def uptoBulkEntries {H : Type} : List (Lit × DataW H) → Nat
  | [] => 0
  | x :: r => uptoBulkEntry x + uptoBulkEntries r
def uptoBulkEntry {H : Type} : Lit × DataW H → Nat
  | (.string bytes, d) => bytes.length + uptoBulk d + 1
  | (_, d) => uptoBulk d + 1
 end
def uptoSmall : (H : Type) → List (DataW H) → Bool := fun _ ds => decide (uptoBulkAll ds ≤ 1048576)
def OpenSpec.upto (s : _root_.Go.ChangeSpec) : _root_.Go.OpenSpec := { _root_.Go.OpenSpec.ofChange s with cond := some uptoSmall }

/-- 'verbatimlaw03.LebTells', WHERE WHAT IT READS IS OF BULK AT MOST 1048576: true; the input reads as it did. -/
def lebTellsUptoRow : OpenClaim := { program := "ytmncnbnloonenaa", sum := "369025b4f38b5ea1a5a6405177059ac20146f7f1c357a78b612527aa549ba2c0", func := "verbatim/verbatimlaw03.LebTells", spec := "lebTells", unfollowed := true, recurses := true, apart := false, narrowed := true }
def LebTellsUptoSaid : Prop := lebTellsUptoRow.holds Try.pinned (OpenSpec.upto lebTellsSpec)

/-- 'verbatimlaw03.LebBack', WHERE WHAT IT READS IS OF BULK AT MOST 1048576: true; the input reads as it did. -/
def lebBackUptoRow : OpenClaim := { program := "ytmncnbnloonenaa", sum := "369025b4f38b5ea1a5a6405177059ac20146f7f1c357a78b612527aa549ba2c0", func := "verbatim/verbatimlaw03.LebBack", spec := "lebBack", unfollowed := true, recurses := true, apart := false, narrowed := true }
def LebBackUptoSaid : Prop := lebBackUptoRow.holds Try.pinned (OpenSpec.upto lebBackSpec)

/-- 'verbatimlaw03.LebShort', WHERE WHAT IT READS IS OF BULK AT MOST 1048576: true; the input reads as it did. -/
def lebShortUptoRow : OpenClaim := { program := "ytmncnbnloonenaa", sum := "369025b4f38b5ea1a5a6405177059ac20146f7f1c357a78b612527aa549ba2c0", func := "verbatim/verbatimlaw03.LebShort", spec := "lebShort", unfollowed := true, recurses := true, apart := false, narrowed := true }
def LebShortUptoSaid : Prop := lebShortUptoRow.holds Try.pinned (OpenSpec.upto lebShortSpec)

/-- 'verbatimlaw03.LebRising', WHERE WHAT IT READS IS OF BULK AT MOST 1048576: true; the input reads as it did. -/
def lebRisingUptoRow : OpenClaim := { program := "ytmncnbnloonenaa", sum := "369025b4f38b5ea1a5a6405177059ac20146f7f1c357a78b612527aa549ba2c0", func := "verbatim/verbatimlaw03.LebRising", spec := "lebRising", unfollowed := true, recurses := true, apart := false, narrowed := true }
def LebRisingUptoSaid : Prop := lebRisingUptoRow.holds Try.pinned (OpenSpec.upto lebRisingSpec)

/-- 'verbatimlaw03.LebList', WHERE WHAT IT READS IS OF BULK AT MOST 1048576: true; the input reads as it did. -/
def lebListUptoRow : OpenClaim := { program := "ytmncnbnloonenaa", sum := "369025b4f38b5ea1a5a6405177059ac20146f7f1c357a78b612527aa549ba2c0", func := "verbatim/verbatimlaw03.LebList", spec := "lebList", unfollowed := true, recurses := true, apart := false, narrowed := true }
def LebListUptoSaid : Prop := lebListUptoRow.holds Try.pinned (OpenSpec.upto lebListSpec)

/-- 'verbatimlaw03.LebReads', WHERE WHAT IT READS IS OF BULK AT MOST 1048576: true; the input reads as it did. -/
def lebReadsUptoRow : OpenClaim := { program := "ytmncnbnloonenaa", sum := "369025b4f38b5ea1a5a6405177059ac20146f7f1c357a78b612527aa549ba2c0", func := "verbatim/verbatimlaw03.LebReads", spec := "lebReads", unfollowed := true, recurses := true, apart := false, narrowed := true }
def LebReadsUptoSaid : Prop := lebReadsUptoRow.holds Try.pinned (OpenSpec.upto lebReadsSpec)

/-- 'verbatimlaw03.LebTexts', WHERE WHAT IT READS IS OF BULK AT MOST 1048576: true; the input reads as it did. -/
def lebTextsUptoRow : OpenClaim := { program := "ytmncnbnloonenaa", sum := "369025b4f38b5ea1a5a6405177059ac20146f7f1c357a78b612527aa549ba2c0", func := "verbatim/verbatimlaw03.LebTexts", spec := "lebTexts", unfollowed := true, recurses := true, apart := false, narrowed := true }
def LebTextsUptoSaid : Prop := lebTextsUptoRow.holds Try.pinned (OpenSpec.upto lebTextsSpec)

end Rows
end Go.Proofs.Ytmncnbnloonenaa
