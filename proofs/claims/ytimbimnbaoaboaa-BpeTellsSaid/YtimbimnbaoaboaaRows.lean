/-
  No cell of these rows narrows 'for every input' (looked for: loops, veiled, ifaces, maps, wideKeys, modest, calm, conditions, laid).
  DERIVED. THE GIVEN ROWS OF THIS SEAT. 6 by the template 'for every input the law returns true; each argument reads behind the call as it read before'; 0 by the template 'total and deterministic' (their statements: YtimbimnbaoaboaaTotals.lean).
  GIVEN WITH THE SEED: the statements are not yours to turn. If you find one false, say at which input.
  Laid BY PROGRAM, IN A SANDBOX (cutbox-rows.mjs): the forced cells as the released guide's own fill.sh prints them over the translation 997ae66ba6d21581… (all of the seat's roots in one cut). By AI agents, Wed Nov 11 2026. No macro, syntax, notation, axiom, sorry.
-/
import Derived.Test.YtimbimnbaoaboaaChecked
import GoSem.Claim
import GoSem.ClaimJoined
import GoSem.ClaimMapViews
import Derived.JoinedTies
import Derived.KernelRfl
namespace Go.Proofs.Ytimbimnbaoaboaa
/- THE CELL 'sum', in the pinned program and in every row, IS THE sha256 OF THE DUMP (.gsa) THAT YtimbimnbaoaboaaProg.lean LOADS. Nothing in Lean hashes anything: it is a label: what it is worth is what the hold of that sum in a sandbox is worth. -/
noncomputable def Try.pinned : Pinned := { name := "ytimbimnbaoaboaa", sum := "997ae66ba6d21581b47e0a26972c64642b3c8a8c0a938702479904935eece0f4", checked := Try.checked }
namespace Rows
def none {H : Type} : Left H := { results := [], args := [] }

/-- 'verbatimlaw06.BpeTells': WHATEVER THE INPUT: true; the input reads as it did. -/
def bpeTellsSpec : ChangeSpec := { name := "bpeTells", fn := fun _ => fun
  | [d1, d2, d3] => { results := [.lit (.bool true)], args := [d1, d2, d3] }
  | _ => none }
def bpeTellsRow : OpenClaim := { program := "ytimbimnbaoaboaa", sum := "997ae66ba6d21581b47e0a26972c64642b3c8a8c0a938702479904935eece0f4", func := "verbatim/verbatimlaw06.BpeTells", spec := "bpeTells", inPlace := ["slices.overlaps[verbatim/bpe.step]"], unfollowed := true, recurses := true, plainKeys := false, apart := false }
def BpeTellsSaid : Prop := bpeTellsRow.holds Try.pinned (OpenSpec.ofChange bpeTellsSpec)

/-- ITS FALSE NEIGHBOUR: 'it returns false'. Refute it at one input. -/
def bpeTellsWrong : ChangeSpec := { name := "bpeTells", fn := fun _ => fun
  | [d1, d2, d3] => { results := [.lit (.bool false)], args := [d1, d2, d3] }
  | _ => none }
def BpeTellsWrongFalsely : Prop := bpeTellsRow.holds Try.pinned (OpenSpec.ofChange bpeTellsWrong)

/-- 'verbatimlaw06.BpeBack': WHATEVER THE INPUT: true; the input reads as it did. -/
def bpeBackSpec : ChangeSpec := { name := "bpeBack", fn := fun _ => fun
  | [d1, d2] => { results := [.lit (.bool true)], args := [d1, d2] }
  | _ => none }
def bpeBackRow : OpenClaim := { program := "ytimbimnbaoaboaa", sum := "997ae66ba6d21581b47e0a26972c64642b3c8a8c0a938702479904935eece0f4", func := "verbatim/verbatimlaw06.BpeBack", spec := "bpeBack", inPlace := ["slices.overlaps[verbatim/bpe.step]"], unfollowed := true, recurses := true, plainKeys := false, apart := false }
def BpeBackSaid : Prop := bpeBackRow.holds Try.pinned (OpenSpec.ofChange bpeBackSpec)

/-- ITS FALSE NEIGHBOUR: 'it returns false'. Refute it at one input. -/
def bpeBackWrong : ChangeSpec := { name := "bpeBack", fn := fun _ => fun
  | [d1, d2] => { results := [.lit (.bool false)], args := [d1, d2] }
  | _ => none }
def BpeBackWrongFalsely : Prop := bpeBackRow.holds Try.pinned (OpenSpec.ofChange bpeBackWrong)

/-- 'verbatimlaw06.BpeDone': WHATEVER THE INPUT: true; the input reads as it did. -/
def bpeDoneSpec : ChangeSpec := { name := "bpeDone", fn := fun _ => fun
  | [d1, d2] => { results := [.lit (.bool true)], args := [d1, d2] }
  | _ => none }
def bpeDoneRow : OpenClaim := { program := "ytimbimnbaoaboaa", sum := "997ae66ba6d21581b47e0a26972c64642b3c8a8c0a938702479904935eece0f4", func := "verbatim/verbatimlaw06.BpeDone", spec := "bpeDone", inPlace := ["slices.overlaps[verbatim/bpe.step]"], unfollowed := true, recurses := true, plainKeys := false, apart := false }
def BpeDoneSaid : Prop := bpeDoneRow.holds Try.pinned (OpenSpec.ofChange bpeDoneSpec)

/-- ITS FALSE NEIGHBOUR: 'it returns false'. Refute it at one input. -/
def bpeDoneWrong : ChangeSpec := { name := "bpeDone", fn := fun _ => fun
  | [d1, d2] => { results := [.lit (.bool false)], args := [d1, d2] }
  | _ => none }
def BpeDoneWrongFalsely : Prop := bpeDoneRow.holds Try.pinned (OpenSpec.ofChange bpeDoneWrong)

/-- 'verbatimlaw06.BpeAgain': WHATEVER THE INPUT: true; the input reads as it did. -/
def bpeAgainSpec : ChangeSpec := { name := "bpeAgain", fn := fun _ => fun
  | [d1, d2, d3] => { results := [.lit (.bool true)], args := [d1, d2, d3] }
  | _ => none }
def bpeAgainRow : OpenClaim := { program := "ytimbimnbaoaboaa", sum := "997ae66ba6d21581b47e0a26972c64642b3c8a8c0a938702479904935eece0f4", func := "verbatim/verbatimlaw06.BpeAgain", spec := "bpeAgain", inPlace := ["slices.overlaps[verbatim/bpe.step]"], unfollowed := true, recurses := true, plainKeys := false, apart := false }
def BpeAgainSaid : Prop := bpeAgainRow.holds Try.pinned (OpenSpec.ofChange bpeAgainSpec)

/-- ITS FALSE NEIGHBOUR: 'it returns false'. Refute it at one input. -/
def bpeAgainWrong : ChangeSpec := { name := "bpeAgain", fn := fun _ => fun
  | [d1, d2, d3] => { results := [.lit (.bool false)], args := [d1, d2, d3] }
  | _ => none }
def BpeAgainWrongFalsely : Prop := bpeAgainRow.holds Try.pinned (OpenSpec.ofChange bpeAgainWrong)

/-- 'verbatimlaw06.BpeBytes': WHATEVER THE INPUT: true; the input reads as it did. -/
def bpeBytesSpec : ChangeSpec := { name := "bpeBytes", fn := fun _ => fun
  | [d1, d2, d3] => { results := [.lit (.bool true)], args := [d1, d2, d3] }
  | _ => none }
def bpeBytesRow : OpenClaim := { program := "ytimbimnbaoaboaa", sum := "997ae66ba6d21581b47e0a26972c64642b3c8a8c0a938702479904935eece0f4", func := "verbatim/verbatimlaw06.BpeBytes", spec := "bpeBytes", inPlace := ["slices.overlaps[verbatim/bpe.step]"], unfollowed := true, recurses := true, plainKeys := false, apart := false }
def BpeBytesSaid : Prop := bpeBytesRow.holds Try.pinned (OpenSpec.ofChange bpeBytesSpec)

/-- ITS FALSE NEIGHBOUR: 'it returns false'. Refute it at one input. -/
def bpeBytesWrong : ChangeSpec := { name := "bpeBytes", fn := fun _ => fun
  | [d1, d2, d3] => { results := [.lit (.bool false)], args := [d1, d2, d3] }
  | _ => none }
def BpeBytesWrongFalsely : Prop := bpeBytesRow.holds Try.pinned (OpenSpec.ofChange bpeBytesWrong)

/-- 'verbatimlaw06.BpeStarts': WHATEVER THE INPUT: true; the input reads as it did. -/
def bpeStartsSpec : ChangeSpec := { name := "bpeStarts", fn := fun _ => fun
  | [d1, d2] => { results := [.lit (.bool true)], args := [d1, d2] }
  | _ => none }
def bpeStartsRow : OpenClaim := { program := "ytimbimnbaoaboaa", sum := "997ae66ba6d21581b47e0a26972c64642b3c8a8c0a938702479904935eece0f4", func := "verbatim/verbatimlaw06.BpeStarts", spec := "bpeStarts", inPlace := ["slices.overlaps[verbatim/bpe.step]"], unfollowed := true, recurses := true, plainKeys := false, apart := false }
def BpeStartsSaid : Prop := bpeStartsRow.holds Try.pinned (OpenSpec.ofChange bpeStartsSpec)

/-- ITS FALSE NEIGHBOUR: 'it returns false'. Refute it at one input. -/
def bpeStartsWrong : ChangeSpec := { name := "bpeStarts", fn := fun _ => fun
  | [d1, d2] => { results := [.lit (.bool false)], args := [d1, d2] }
  | _ => none }
def BpeStartsWrongFalsely : Prop := bpeStartsRow.holds Try.pinned (OpenSpec.ofChange bpeStartsWrong)

/- THE SECOND FORM. 'bulk': how many values and letters a reading holds, each counted each time it is reached (what is shared counts as often as it is met; a slice's spare places count too). A statement '..UptoSaid' is the law's where the arguments, and the package variables that the reading takes, are together of bulk at most 1048576: NARROWER than '..Said'. Prove '..Said' where nothing that the law and all that it calls make is longer than what came in: it says more and counts as full. Else prove '..UptoSaid'. A law counts once. -/
mutual
def uptoBulk {H : Type} : DataW H → Nat
  | .lit (.string bytes) => bytes.length + 1
  | .lit _ => 1
  | .nil => 1
  | .ptr d => uptoBulk d + 1
  | .slice elems spare => uptoBulkAll elems + uptoBulkAll spare + 1
  | .agg parts => uptoBulkAll parts + 1
  | .iface _ d => uptoBulk d + 1
  | .map entries => uptoBulkEntries entries + 1
  | .held _ => 1
def uptoBulkAll {H : Type} : List (DataW H) → Nat
  | [] => 0
  | d :: r => uptoBulk d + uptoBulkAll r
def uptoBulkEntries {H : Type} : List (Lit × DataW H) → Nat
  | [] => 0
  | x :: r => uptoBulkEntry x + uptoBulkEntries r
def uptoBulkEntry {H : Type} : Lit × DataW H → Nat
  | (.string bytes, d) => bytes.length + uptoBulk d + 1
  | (_, d) => uptoBulk d + 1
 end
def uptoSmall : (H : Type) → List (DataW H) → Bool := fun _ ds => decide (uptoBulkAll ds ≤ 1048576)
def OpenSpec.upto (s : _root_.Go.ChangeSpec) : _root_.Go.OpenSpec := { _root_.Go.OpenSpec.ofChange s with cond := some uptoSmall }

/-- 'verbatimlaw06.BpeTells', WHERE WHAT IT READS IS OF BULK AT MOST 1048576: true; the input reads as it did. -/
def bpeTellsUptoRow : OpenClaim := { program := "ytimbimnbaoaboaa", sum := "997ae66ba6d21581b47e0a26972c64642b3c8a8c0a938702479904935eece0f4", func := "verbatim/verbatimlaw06.BpeTells", spec := "bpeTells", inPlace := ["slices.overlaps[verbatim/bpe.step]"], unfollowed := true, recurses := true, plainKeys := false, apart := false, narrowed := true }
def BpeTellsUptoSaid : Prop := bpeTellsUptoRow.holds Try.pinned (OpenSpec.upto bpeTellsSpec)

/-- 'verbatimlaw06.BpeBack', WHERE WHAT IT READS IS OF BULK AT MOST 1048576: true; the input reads as it did. -/
def bpeBackUptoRow : OpenClaim := { program := "ytimbimnbaoaboaa", sum := "997ae66ba6d21581b47e0a26972c64642b3c8a8c0a938702479904935eece0f4", func := "verbatim/verbatimlaw06.BpeBack", spec := "bpeBack", inPlace := ["slices.overlaps[verbatim/bpe.step]"], unfollowed := true, recurses := true, plainKeys := false, apart := false, narrowed := true }
def BpeBackUptoSaid : Prop := bpeBackUptoRow.holds Try.pinned (OpenSpec.upto bpeBackSpec)

/-- 'verbatimlaw06.BpeDone', WHERE WHAT IT READS IS OF BULK AT MOST 1048576: true; the input reads as it did. -/
def bpeDoneUptoRow : OpenClaim := { program := "ytimbimnbaoaboaa", sum := "997ae66ba6d21581b47e0a26972c64642b3c8a8c0a938702479904935eece0f4", func := "verbatim/verbatimlaw06.BpeDone", spec := "bpeDone", inPlace := ["slices.overlaps[verbatim/bpe.step]"], unfollowed := true, recurses := true, plainKeys := false, apart := false, narrowed := true }
def BpeDoneUptoSaid : Prop := bpeDoneUptoRow.holds Try.pinned (OpenSpec.upto bpeDoneSpec)

/-- 'verbatimlaw06.BpeAgain', WHERE WHAT IT READS IS OF BULK AT MOST 1048576: true; the input reads as it did. -/
def bpeAgainUptoRow : OpenClaim := { program := "ytimbimnbaoaboaa", sum := "997ae66ba6d21581b47e0a26972c64642b3c8a8c0a938702479904935eece0f4", func := "verbatim/verbatimlaw06.BpeAgain", spec := "bpeAgain", inPlace := ["slices.overlaps[verbatim/bpe.step]"], unfollowed := true, recurses := true, plainKeys := false, apart := false, narrowed := true }
def BpeAgainUptoSaid : Prop := bpeAgainUptoRow.holds Try.pinned (OpenSpec.upto bpeAgainSpec)

/-- 'verbatimlaw06.BpeBytes', WHERE WHAT IT READS IS OF BULK AT MOST 1048576: true; the input reads as it did. -/
def bpeBytesUptoRow : OpenClaim := { program := "ytimbimnbaoaboaa", sum := "997ae66ba6d21581b47e0a26972c64642b3c8a8c0a938702479904935eece0f4", func := "verbatim/verbatimlaw06.BpeBytes", spec := "bpeBytes", inPlace := ["slices.overlaps[verbatim/bpe.step]"], unfollowed := true, recurses := true, plainKeys := false, apart := false, narrowed := true }
def BpeBytesUptoSaid : Prop := bpeBytesUptoRow.holds Try.pinned (OpenSpec.upto bpeBytesSpec)

/-- 'verbatimlaw06.BpeStarts', WHERE WHAT IT READS IS OF BULK AT MOST 1048576: true; the input reads as it did. -/
def bpeStartsUptoRow : OpenClaim := { program := "ytimbimnbaoaboaa", sum := "997ae66ba6d21581b47e0a26972c64642b3c8a8c0a938702479904935eece0f4", func := "verbatim/verbatimlaw06.BpeStarts", spec := "bpeStarts", inPlace := ["slices.overlaps[verbatim/bpe.step]"], unfollowed := true, recurses := true, plainKeys := false, apart := false, narrowed := true }
def BpeStartsUptoSaid : Prop := bpeStartsUptoRow.holds Try.pinned (OpenSpec.upto bpeStartsSpec)

end Rows
end Go.Proofs.Ytimbimnbaoaboaa
