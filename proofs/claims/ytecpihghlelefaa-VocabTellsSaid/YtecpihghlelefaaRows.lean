/-
  No cell of these rows narrows 'for every input' (looked for: loops, veiled, ifaces, maps, wideKeys, modest, calm, conditions, laid).
  DERIVED. THE GIVEN ROWS OF THIS SEAT. 5 by the template 'for every input the law returns true; each argument reads behind the call as it read before'; 0 by the template 'total and deterministic' (their statements: YtecpihghlelefaaTotals.lean).
  GIVEN WITH THE SEED: the statements are not yours to turn. If you find one false, say at which input.
  Laid BY PROGRAM, IN A SANDBOX (cutbox-rows.mjs): the forced cells as the released guide's own fill.sh prints them over the translation e7d6705ad9bbb662… (all of the seat's roots in one cut). By AI agents, Wed Nov 11 2026. No macro, syntax, notation, axiom, sorry.
-/
import Derived.Test.YtecpihghlelefaaChecked
import GoSem.Claim
import GoSem.ClaimJoined
import GoSem.ClaimMapViews
import Derived.JoinedTies
import Derived.KernelRfl
namespace Go.Proofs.Ytecpihghlelefaa
/- THE CELL 'sum', in the pinned program and in every row, IS THE sha256 OF THE DUMP (.gsa) THAT YtecpihghlelefaaProg.lean LOADS. Nothing in Lean hashes anything: it is a label: what it is worth is what the hold of that sum in a sandbox is worth. -/
noncomputable def Try.pinned : Pinned := { name := "ytecpihghlelefaa", sum := "e7d6705ad9bbb6626f4ae08eac3ad3782c4ded702c9650e988f60a93ea37defe", checked := Try.checked }
namespace Rows
def none {H : Type} : Left H := { results := [], args := [] }

/-- 'verbatimlaw05.VocabTells': WHATEVER THE INPUT: true; the input reads as it did. -/
def vocabTellsSpec : ChangeSpec := { name := "vocabTells", fn := fun _ => fun
  | [d1, d2, d3] => { results := [.lit (.bool true)], args := [d1, d2, d3] }
  | _ => none }
def vocabTellsRow : OpenClaim := { program := "ytecpihghlelefaa", sum := "e7d6705ad9bbb6626f4ae08eac3ad3782c4ded702c9650e988f60a93ea37defe", func := "verbatim/verbatimlaw05.VocabTells", spec := "vocabTells", unfollowed := true, recurses := true, plainKeys := false, apart := false }
def VocabTellsSaid : Prop := vocabTellsRow.holds Try.pinned (OpenSpec.ofChange vocabTellsSpec)

/-- ITS FALSE NEIGHBOUR: 'it returns false'. Refute it at one input. -/
def vocabTellsWrong : ChangeSpec := { name := "vocabTells", fn := fun _ => fun
  | [d1, d2, d3] => { results := [.lit (.bool false)], args := [d1, d2, d3] }
  | _ => none }
def VocabTellsWrongFalsely : Prop := vocabTellsRow.holds Try.pinned (OpenSpec.ofChange vocabTellsWrong)

/-- 'verbatimlaw05.VocabBuilt': WHATEVER THE INPUT: true; the input reads as it did. -/
def vocabBuiltSpec : ChangeSpec := { name := "vocabBuilt", fn := fun _ => fun
  | [d] => { results := [.lit (.bool true)], args := [d] }
  | _ => none }
def vocabBuiltRow : OpenClaim := { program := "ytecpihghlelefaa", sum := "e7d6705ad9bbb6626f4ae08eac3ad3782c4ded702c9650e988f60a93ea37defe", func := "verbatim/verbatimlaw05.VocabBuilt", spec := "vocabBuilt", plainKeys := false, apart := false }
def VocabBuiltSaid : Prop := vocabBuiltRow.holds Try.pinned (OpenSpec.ofChange vocabBuiltSpec)

/-- ITS FALSE NEIGHBOUR: 'it returns false'. Refute it at one input. -/
def vocabBuiltWrong : ChangeSpec := { name := "vocabBuilt", fn := fun _ => fun
  | [d] => { results := [.lit (.bool false)], args := [d] }
  | _ => none }
def VocabBuiltWrongFalsely : Prop := vocabBuiltRow.holds Try.pinned (OpenSpec.ofChange vocabBuiltWrong)

/-- 'verbatimlaw05.VocabBack': WHATEVER THE INPUT: true; the input reads as it did. -/
def vocabBackSpec : ChangeSpec := { name := "vocabBack", fn := fun _ => fun
  | [d1, d2, d3] => { results := [.lit (.bool true)], args := [d1, d2, d3] }
  | _ => none }
def vocabBackRow : OpenClaim := { program := "ytecpihghlelefaa", sum := "e7d6705ad9bbb6626f4ae08eac3ad3782c4ded702c9650e988f60a93ea37defe", func := "verbatim/verbatimlaw05.VocabBack", spec := "vocabBack", unfollowed := true, recurses := true, plainKeys := false, apart := false }
def VocabBackSaid : Prop := vocabBackRow.holds Try.pinned (OpenSpec.ofChange vocabBackSpec)

/-- ITS FALSE NEIGHBOUR: 'it returns false'. Refute it at one input. -/
def vocabBackWrong : ChangeSpec := { name := "vocabBack", fn := fun _ => fun
  | [d1, d2, d3] => { results := [.lit (.bool false)], args := [d1, d2, d3] }
  | _ => none }
def VocabBackWrongFalsely : Prop := vocabBackRow.holds Try.pinned (OpenSpec.ofChange vocabBackWrong)

/-- 'verbatimlaw05.VocabMore': WHATEVER THE INPUT: true; the input reads as it did. -/
def vocabMoreSpec : ChangeSpec := { name := "vocabMore", fn := fun _ => fun
  | [d1, d2] => { results := [.lit (.bool true)], args := [d1, d2] }
  | _ => none }
def vocabMoreRow : OpenClaim := { program := "ytecpihghlelefaa", sum := "e7d6705ad9bbb6626f4ae08eac3ad3782c4ded702c9650e988f60a93ea37defe", func := "verbatim/verbatimlaw05.VocabMore", spec := "vocabMore", plainKeys := false, apart := false }
def VocabMoreSaid : Prop := vocabMoreRow.holds Try.pinned (OpenSpec.ofChange vocabMoreSpec)

/-- ITS FALSE NEIGHBOUR: 'it returns false'. Refute it at one input. -/
def vocabMoreWrong : ChangeSpec := { name := "vocabMore", fn := fun _ => fun
  | [d1, d2] => { results := [.lit (.bool false)], args := [d1, d2] }
  | _ => none }
def VocabMoreWrongFalsely : Prop := vocabMoreRow.holds Try.pinned (OpenSpec.ofChange vocabMoreWrong)

/-- 'verbatimlaw05.VocabBytes': WHATEVER THE INPUT: true; the input reads as it did. -/
def vocabBytesSpec : ChangeSpec := { name := "vocabBytes", fn := fun _ => fun
  | [d1, d2] => { results := [.lit (.bool true)], args := [d1, d2] }
  | _ => none }
def vocabBytesRow : OpenClaim := { program := "ytecpihghlelefaa", sum := "e7d6705ad9bbb6626f4ae08eac3ad3782c4ded702c9650e988f60a93ea37defe", func := "verbatim/verbatimlaw05.VocabBytes", spec := "vocabBytes", plainKeys := false, apart := false }
def VocabBytesSaid : Prop := vocabBytesRow.holds Try.pinned (OpenSpec.ofChange vocabBytesSpec)

/-- ITS FALSE NEIGHBOUR: 'it returns false'. Refute it at one input. -/
def vocabBytesWrong : ChangeSpec := { name := "vocabBytes", fn := fun _ => fun
  | [d1, d2] => { results := [.lit (.bool false)], args := [d1, d2] }
  | _ => none }
def VocabBytesWrongFalsely : Prop := vocabBytesRow.holds Try.pinned (OpenSpec.ofChange vocabBytesWrong)

/- THE SECOND FORM. 'bulk': how many values and letters a reading holds, each counted each time it is reached (what is shared counts as often as it is met; a slice's spare places count too). A statement '..UptoSaid' is the law's where the arguments, and the package variables that the reading takes, are together of bulk at most 1048576: NARROWER than '..Said'. Prove '..Said' where nothing that the law and all that it calls make is longer than what came in: it says more and counts as full. Else prove '..UptoSaid'. A law counts once. -/
mutual
def uptoBulk {H : Type} : DataW H → Nat
  | .lit (.string bytes) => bytes.length + 1
  | .lit _ => 1
  | .nil => 1
  | .ptr d => uptoBulk d + 1
  | .slice elems spare => uptoBulkAll elems + uptoBulkAll spare + 1
  | .agg parts => uptoBulkAll parts + 1
  | .iface _ d => uptoBulk d + 1
  | .map entries => uptoBulkEntries entries + 1
  | .held _ => 1
def uptoBulkAll {H : Type} : List (DataW H) → Nat
  | [] => 0
  | d :: r => uptoBulk d + uptoBulkAll r
def uptoBulkEntries {H : Type} : List (Lit × DataW H) → Nat
  | [] => 0
  | x :: r => uptoBulkEntry x + uptoBulkEntries r
def uptoBulkEntry {H : Type} : Lit × DataW H → Nat
  | (.string bytes, d) => bytes.length + uptoBulk d + 1
  | (_, d) => uptoBulk d + 1
 end
def uptoSmall : (H : Type) → List (DataW H) → Bool := fun _ ds => decide (uptoBulkAll ds ≤ 1048576)
def OpenSpec.upto (s : _root_.Go.ChangeSpec) : _root_.Go.OpenSpec := { _root_.Go.OpenSpec.ofChange s with cond := some uptoSmall }

/-- 'verbatimlaw05.VocabTells', WHERE WHAT IT READS IS OF BULK AT MOST 1048576: true; the input reads as it did. -/
def vocabTellsUptoRow : OpenClaim := { program := "ytecpihghlelefaa", sum := "e7d6705ad9bbb6626f4ae08eac3ad3782c4ded702c9650e988f60a93ea37defe", func := "verbatim/verbatimlaw05.VocabTells", spec := "vocabTells", unfollowed := true, recurses := true, plainKeys := false, apart := false, narrowed := true }
def VocabTellsUptoSaid : Prop := vocabTellsUptoRow.holds Try.pinned (OpenSpec.upto vocabTellsSpec)

/-- 'verbatimlaw05.VocabBuilt', WHERE WHAT IT READS IS OF BULK AT MOST 1048576: true; the input reads as it did. -/
def vocabBuiltUptoRow : OpenClaim := { program := "ytecpihghlelefaa", sum := "e7d6705ad9bbb6626f4ae08eac3ad3782c4ded702c9650e988f60a93ea37defe", func := "verbatim/verbatimlaw05.VocabBuilt", spec := "vocabBuilt", plainKeys := false, apart := false, narrowed := true }
def VocabBuiltUptoSaid : Prop := vocabBuiltUptoRow.holds Try.pinned (OpenSpec.upto vocabBuiltSpec)

/-- 'verbatimlaw05.VocabBack', WHERE WHAT IT READS IS OF BULK AT MOST 1048576: true; the input reads as it did. -/
def vocabBackUptoRow : OpenClaim := { program := "ytecpihghlelefaa", sum := "e7d6705ad9bbb6626f4ae08eac3ad3782c4ded702c9650e988f60a93ea37defe", func := "verbatim/verbatimlaw05.VocabBack", spec := "vocabBack", unfollowed := true, recurses := true, plainKeys := false, apart := false, narrowed := true }
def VocabBackUptoSaid : Prop := vocabBackUptoRow.holds Try.pinned (OpenSpec.upto vocabBackSpec)

/-- 'verbatimlaw05.VocabMore', WHERE WHAT IT READS IS OF BULK AT MOST 1048576: true; the input reads as it did. -/
def vocabMoreUptoRow : OpenClaim := { program := "ytecpihghlelefaa", sum := "e7d6705ad9bbb6626f4ae08eac3ad3782c4ded702c9650e988f60a93ea37defe", func := "verbatim/verbatimlaw05.VocabMore", spec := "vocabMore", plainKeys := false, apart := false, narrowed := true }
def VocabMoreUptoSaid : Prop := vocabMoreUptoRow.holds Try.pinned (OpenSpec.upto vocabMoreSpec)

/-- 'verbatimlaw05.VocabBytes', WHERE WHAT IT READS IS OF BULK AT MOST 1048576: true; the input reads as it did. -/
def vocabBytesUptoRow : OpenClaim := { program := "ytecpihghlelefaa", sum := "e7d6705ad9bbb6626f4ae08eac3ad3782c4ded702c9650e988f60a93ea37defe", func := "verbatim/verbatimlaw05.VocabBytes", spec := "vocabBytes", plainKeys := false, apart := false, narrowed := true }
def VocabBytesUptoSaid : Prop := vocabBytesUptoRow.holds Try.pinned (OpenSpec.upto vocabBytesSpec)

end Rows
end Go.Proofs.Ytecpihghlelefaa
