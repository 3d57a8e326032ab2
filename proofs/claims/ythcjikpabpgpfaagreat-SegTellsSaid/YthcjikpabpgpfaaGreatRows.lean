/-
  No cell of these rows narrows 'for every input' (looked for: loops, veiled, ifaces, maps, wideKeys, modest, calm, conditions, laid).
  DERIVED. THE GIVEN ROWS OF THIS SEAT. 6 by the template 'for every input the law returns true; each argument reads behind the call as it read before'; 0 by the template 'total and deterministic' (their statements: YthcjikpabpgpfaaGreatTotals.lean).
  GIVEN WITH THE SEED: the statements are not yours to turn. If you find one false, say at which input.
  Laid BY PROGRAM, IN A SANDBOX (cutbox-rows.mjs): the forced cells as the released guide's own fill.sh prints them over the translation 6f766f35ef88b87a… (all of the seat's roots in one cut). By AI agents, Wed Nov 11 2026. No macro, syntax, notation, axiom, sorry.
-/
import Derived.Test.YthcjikpabpgpfaaGreatChecked
import GoSem.Claim
import GoSem.ClaimJoined
import GoSem.ClaimMapViews
import Derived.JoinedTies
import Derived.KernelRfl
namespace Go.Proofs.YthcjikpabpgpfaaGreat
/- THE CELL 'sum', in the pinned program and in every row, IS THE sha256 OF THE DUMP (.gsa) THAT YthcjikpabpgpfaaGreatProg.lean LOADS. Nothing in Lean hashes anything: it is a label: what it is worth is what the hold of that sum in a sandbox is worth. -/
noncomputable def Tryz.pinned : Pinned := { name := "ythcjikpabpgpfaagreat", sum := "6f766f35ef88b87a6a8576a1e30bc10729eb0c1093ca3ae9005a9c464628c5bc", checked := Tryz.checked }
namespace Rows
def none {H : Type} : Left H := { results := [], args := [] }

/-- 'verbatimlaw13.SegTells': WHATEVER THE INPUT: true; the input reads as it did. -/
def segTellsSpec : ChangeSpec := { name := "segTells", fn := fun _ => fun
  | [d1, d2, d3] => { results := [.lit (.bool true)], args := [d1, d2, d3] }
  | _ => none }
def segTellsRow : OpenClaim := { program := "ythcjikpabpgpfaagreat", sum := "6f766f35ef88b87a6a8576a1e30bc10729eb0c1093ca3ae9005a9c464628c5bc", func := "verbatim/verbatimlaw13.SegTells", spec := "segTells", inPlace := ["slices.overlaps[verbatim/bpe.step]"], unfollowed := true, recurses := true, plainKeys := false, apart := false }
def SegTellsSaid : Prop := segTellsRow.holds Tryz.pinned (OpenSpec.ofChange segTellsSpec)

/-- ITS FALSE NEIGHBOUR: 'it returns false'. Refute it at one input. -/
def segTellsWrong : ChangeSpec := { name := "segTells", fn := fun _ => fun
  | [d1, d2, d3] => { results := [.lit (.bool false)], args := [d1, d2, d3] }
  | _ => none }
def SegTellsWrongFalsely : Prop := segTellsRow.holds Tryz.pinned (OpenSpec.ofChange segTellsWrong)

/-- 'verbatimlaw13.SegBack': WHATEVER THE INPUT: true; the input reads as it did. -/
def segBackSpec : ChangeSpec := { name := "segBack", fn := fun _ => fun
  | [d1, d2] => { results := [.lit (.bool true)], args := [d1, d2] }
  | _ => none }
def segBackRow : OpenClaim := { program := "ythcjikpabpgpfaagreat", sum := "6f766f35ef88b87a6a8576a1e30bc10729eb0c1093ca3ae9005a9c464628c5bc", func := "verbatim/verbatimlaw13.SegBack", spec := "segBack", inPlace := ["slices.overlaps[verbatim/bpe.step]"], unfollowed := true, recurses := true, plainKeys := false, apart := false }
def SegBackSaid : Prop := segBackRow.holds Tryz.pinned (OpenSpec.ofChange segBackSpec)

/-- ITS FALSE NEIGHBOUR: 'it returns false'. Refute it at one input. -/
def segBackWrong : ChangeSpec := { name := "segBack", fn := fun _ => fun
  | [d1, d2] => { results := [.lit (.bool false)], args := [d1, d2] }
  | _ => none }
def SegBackWrongFalsely : Prop := segBackRow.holds Tryz.pinned (OpenSpec.ofChange segBackWrong)

/-- 'verbatimlaw13.SegSpoilt': WHATEVER THE INPUT: true; the input reads as it did. -/
def segSpoiltSpec : ChangeSpec := { name := "segSpoilt", fn := fun _ => fun
  | [d1, d2, d3, d4, d5, d6] => { results := [.lit (.bool true)], args := [d1, d2, d3, d4, d5, d6] }
  | _ => none }
def segSpoiltRow : OpenClaim := { program := "ythcjikpabpgpfaagreat", sum := "6f766f35ef88b87a6a8576a1e30bc10729eb0c1093ca3ae9005a9c464628c5bc", func := "verbatim/verbatimlaw13.SegSpoilt", spec := "segSpoilt", inPlace := ["slices.overlaps[verbatim/bpe.step]"], unfollowed := true, recurses := true, plainKeys := false, apart := false }
def SegSpoiltSaid : Prop := segSpoiltRow.holds Tryz.pinned (OpenSpec.ofChange segSpoiltSpec)

/-- ITS FALSE NEIGHBOUR: 'it returns false'. Refute it at one input. -/
def segSpoiltWrong : ChangeSpec := { name := "segSpoilt", fn := fun _ => fun
  | [d1, d2, d3, d4, d5, d6] => { results := [.lit (.bool false)], args := [d1, d2, d3, d4, d5, d6] }
  | _ => none }
def SegSpoiltWrongFalsely : Prop := segSpoiltRow.holds Tryz.pinned (OpenSpec.ofChange segSpoiltWrong)

/-- 'verbatimlaw13.SegAlike': WHATEVER THE INPUT: true; the input reads as it did. -/
def segAlikeSpec : ChangeSpec := { name := "segAlike", fn := fun _ => fun
  | [d1, d2, d3] => { results := [.lit (.bool true)], args := [d1, d2, d3] }
  | _ => none }
def segAlikeRow : OpenClaim := { program := "ythcjikpabpgpfaagreat", sum := "6f766f35ef88b87a6a8576a1e30bc10729eb0c1093ca3ae9005a9c464628c5bc", func := "verbatim/verbatimlaw13.SegAlike", spec := "segAlike", inPlace := ["slices.overlaps[verbatim/bpe.step]"], unfollowed := true, recurses := true, plainKeys := false, apart := false }
def SegAlikeSaid : Prop := segAlikeRow.holds Tryz.pinned (OpenSpec.ofChange segAlikeSpec)

/-- ITS FALSE NEIGHBOUR: 'it returns false'. Refute it at one input. -/
def segAlikeWrong : ChangeSpec := { name := "segAlike", fn := fun _ => fun
  | [d1, d2, d3] => { results := [.lit (.bool false)], args := [d1, d2, d3] }
  | _ => none }
def SegAlikeWrongFalsely : Prop := segAlikeRow.holds Tryz.pinned (OpenSpec.ofChange segAlikeWrong)

/-- 'verbatimlaw13.SegTerms': WHATEVER THE INPUT: true; the input reads as it did. -/
def segTermsSpec : ChangeSpec := { name := "segTerms", fn := fun _ => fun
  | [d1, d2, d3] => { results := [.lit (.bool true)], args := [d1, d2, d3] }
  | _ => none }
def segTermsRow : OpenClaim := { program := "ythcjikpabpgpfaagreat", sum := "6f766f35ef88b87a6a8576a1e30bc10729eb0c1093ca3ae9005a9c464628c5bc", func := "verbatim/verbatimlaw13.SegTerms", spec := "segTerms", inPlace := ["slices.overlaps[verbatim/bpe.step]"], unfollowed := true, recurses := true, plainKeys := false, apart := false }
def SegTermsSaid : Prop := segTermsRow.holds Tryz.pinned (OpenSpec.ofChange segTermsSpec)

/-- ITS FALSE NEIGHBOUR: 'it returns false'. Refute it at one input. -/
def segTermsWrong : ChangeSpec := { name := "segTerms", fn := fun _ => fun
  | [d1, d2, d3] => { results := [.lit (.bool false)], args := [d1, d2, d3] }
  | _ => none }
def SegTermsWrongFalsely : Prop := segTermsRow.holds Tryz.pinned (OpenSpec.ofChange segTermsWrong)

/-- 'verbatimlaw13.SegKeys': WHATEVER THE INPUT: true; the input reads as it did. -/
def segKeysSpec : ChangeSpec := { name := "segKeys", fn := fun _ => fun
  | [d1, d2] => { results := [.lit (.bool true)], args := [d1, d2] }
  | _ => none }
def segKeysRow : OpenClaim := { program := "ythcjikpabpgpfaagreat", sum := "6f766f35ef88b87a6a8576a1e30bc10729eb0c1093ca3ae9005a9c464628c5bc", func := "verbatim/verbatimlaw13.SegKeys", spec := "segKeys", inPlace := ["slices.overlaps[verbatim/bpe.step]"], unfollowed := true, recurses := true, plainKeys := false, apart := false }
def SegKeysSaid : Prop := segKeysRow.holds Tryz.pinned (OpenSpec.ofChange segKeysSpec)

/-- ITS FALSE NEIGHBOUR: 'it returns false'. Refute it at one input. -/
def segKeysWrong : ChangeSpec := { name := "segKeys", fn := fun _ => fun
  | [d1, d2] => { results := [.lit (.bool false)], args := [d1, d2] }
  | _ => none }
def SegKeysWrongFalsely : Prop := segKeysRow.holds Tryz.pinned (OpenSpec.ofChange segKeysWrong)

/- THE SECOND FORM. 'bulk': how many values and letters a reading holds, each counted each time it is reached (what is shared counts as often as it is met; a slice's spare places count too). A statement '..UptoSaid' is the law's where the arguments, and the package variables that the reading takes, are together of bulk at most 1048576: NARROWER than '..Said'. Prove '..Said' where nothing that the law and all that it calls make is longer than what came in: it says more and counts as full. Else prove '..UptoSaid'. A law counts once. -/
mutual
def uptoBulk {H : Type} : DataW H → Nat
  | .lit (.string bytes) => bytes.length + 1
  | .lit _ => 1
  | .nil => 1
  | .ptr d => uptoBulk d + 1
  | .slice elems spare => uptoBulkAll elems + uptoBulkAll spare + 1
  | .agg parts => uptoBulkAll parts + 1
  | .iface _ d => uptoBulk d + 1
  | .map entries => uptoBulkEntries entries + 1
  | .held _ => 1
def uptoBulkAll {H : Type} : List (DataW H) → Nat
  | [] => 0
  | d :: r => uptoBulk d + uptoBulkAll r
def uptoBulkEntries {H : Type} : List (Lit × DataW H) → Nat
  | [] => 0
  | x :: r => uptoBulkEntry x + uptoBulkEntries r
def uptoBulkEntry {H : Type} : Lit × DataW H → Nat
  | (.string bytes, d) => bytes.length + uptoBulk d + 1
  | (_, d) => uptoBulk d + 1
 end
def uptoSmall : (H : Type) → List (DataW H) → Bool := fun _ ds => decide (uptoBulkAll ds ≤ 1048576)
def OpenSpec.upto (s : _root_.Go.ChangeSpec) : _root_.Go.OpenSpec := { _root_.Go.OpenSpec.ofChange s with cond := some uptoSmall }

/-- 'verbatimlaw13.SegTells', WHERE WHAT IT READS IS OF BULK AT MOST 1048576: true; the input reads as it did. -/
def segTellsUptoRow : OpenClaim := { program := "ythcjikpabpgpfaagreat", sum := "6f766f35ef88b87a6a8576a1e30bc10729eb0c1093ca3ae9005a9c464628c5bc", func := "verbatim/verbatimlaw13.SegTells", spec := "segTells", inPlace := ["slices.overlaps[verbatim/bpe.step]"], unfollowed := true, recurses := true, plainKeys := false, apart := false, narrowed := true }
def SegTellsUptoSaid : Prop := segTellsUptoRow.holds Tryz.pinned (OpenSpec.upto segTellsSpec)

/-- 'verbatimlaw13.SegBack', WHERE WHAT IT READS IS OF BULK AT MOST 1048576: true; the input reads as it did. -/
def segBackUptoRow : OpenClaim := { program := "ythcjikpabpgpfaagreat", sum := "6f766f35ef88b87a6a8576a1e30bc10729eb0c1093ca3ae9005a9c464628c5bc", func := "verbatim/verbatimlaw13.SegBack", spec := "segBack", inPlace := ["slices.overlaps[verbatim/bpe.step]"], unfollowed := true, recurses := true, plainKeys := false, apart := false, narrowed := true }
def SegBackUptoSaid : Prop := segBackUptoRow.holds Tryz.pinned (OpenSpec.upto segBackSpec)

/-- 'verbatimlaw13.SegSpoilt', WHERE WHAT IT READS IS OF BULK AT MOST 1048576: true; the input reads as it did. -/
def segSpoiltUptoRow : OpenClaim := { program := "ythcjikpabpgpfaagreat", sum := "6f766f35ef88b87a6a8576a1e30bc10729eb0c1093ca3ae9005a9c464628c5bc", func := "verbatim/verbatimlaw13.SegSpoilt", spec := "segSpoilt", inPlace := ["slices.overlaps[verbatim/bpe.step]"], unfollowed := true, recurses := true, plainKeys := false, apart := false, narrowed := true }
def SegSpoiltUptoSaid : Prop := segSpoiltUptoRow.holds Tryz.pinned (OpenSpec.upto segSpoiltSpec)

/-- 'verbatimlaw13.SegAlike', WHERE WHAT IT READS IS OF BULK AT MOST 1048576: true; the input reads as it did. -/
def segAlikeUptoRow : OpenClaim := { program := "ythcjikpabpgpfaagreat", sum := "6f766f35ef88b87a6a8576a1e30bc10729eb0c1093ca3ae9005a9c464628c5bc", func := "verbatim/verbatimlaw13.SegAlike", spec := "segAlike", inPlace := ["slices.overlaps[verbatim/bpe.step]"], unfollowed := true, recurses := true, plainKeys := false, apart := false, narrowed := true }
def SegAlikeUptoSaid : Prop := segAlikeUptoRow.holds Tryz.pinned (OpenSpec.upto segAlikeSpec)

/-- 'verbatimlaw13.SegTerms', WHERE WHAT IT READS IS OF BULK AT MOST 1048576: true; the input reads as it did. -/
def segTermsUptoRow : OpenClaim := { program := "ythcjikpabpgpfaagreat", sum := "6f766f35ef88b87a6a8576a1e30bc10729eb0c1093ca3ae9005a9c464628c5bc", func := "verbatim/verbatimlaw13.SegTerms", spec := "segTerms", inPlace := ["slices.overlaps[verbatim/bpe.step]"], unfollowed := true, recurses := true, plainKeys := false, apart := false, narrowed := true }
def SegTermsUptoSaid : Prop := segTermsUptoRow.holds Tryz.pinned (OpenSpec.upto segTermsSpec)

/-- 'verbatimlaw13.SegKeys', WHERE WHAT IT READS IS OF BULK AT MOST 1048576: true; the input reads as it did. -/
def segKeysUptoRow : OpenClaim := { program := "ythcjikpabpgpfaagreat", sum := "6f766f35ef88b87a6a8576a1e30bc10729eb0c1093ca3ae9005a9c464628c5bc", func := "verbatim/verbatimlaw13.SegKeys", spec := "segKeys", inPlace := ["slices.overlaps[verbatim/bpe.step]"], unfollowed := true, recurses := true, plainKeys := false, apart := false, narrowed := true }
def SegKeysUptoSaid : Prop := segKeysUptoRow.holds Tryz.pinned (OpenSpec.upto segKeysSpec)

end Rows
end Go.Proofs.YthcjikpabpgpfaaGreat
