/-
  No cell of these rows narrows 'for every input' (looked for: loops, veiled, ifaces, maps, wideKeys, modest, calm, conditions, laid).
  DERIVED. THE GIVEN ROWS OF THIS SEAT. 5 by the template 'for every input the law returns true; each argument reads behind the call as it read before'; 0 by the template 'total and deterministic' (their statements: YthmjanhdjchdbaaTotals.lean).
  GIVEN WITH THE SEED: the statements are not yours to turn. If you find one false, say at which input.
  Laid BY PROGRAM, IN A SANDBOX (cutbox-rows.mjs): the forced cells as the released guide's own fill.sh prints them over the translation 6ec9a560dfa4bd29… (all of the seat's roots in one cut). By AI agents, Wed Nov 11 2026. No macro, syntax, notation, axiom, sorry.
-/
import Derived.Test.YthmjanhdjchdbaaChecked
import GoSem.Claim
import GoSem.ClaimJoined
import GoSem.ClaimMapViews
import Derived.JoinedTies
import Derived.KernelRfl
namespace Go.Proofs.Ythmjanhdjchdbaa
/- THE CELL 'sum', in the pinned program and in every row, IS THE sha256 OF THE DUMP (.gsa) THAT YthmjanhdjchdbaaProg.lean LOADS. Nothing in Lean hashes anything: it is a label: what it is worth is what the hold of that sum in a sandbox is worth. -/
noncomputable def Try.pinned : Pinned := { name := "ythmjanhdjchdbaa", sum := "6ec9a560dfa4bd298ae8caad3bac7b73c015f77174c2975d44f6db6d13702e29", checked := Try.checked }
namespace Rows
def none {H : Type} : Left H := { results := [], args := [] }

/-- 'verbatimlaw10.CursorPlays': WHATEVER THE INPUT: true; the input reads as it did. -/
def cursorPlaysSpec : ChangeSpec := { name := "cursorPlays", fn := fun _ => fun
  | [d1, d2] => { results := [.lit (.bool true)], args := [d1, d2] }
  | _ => none }
def cursorPlaysRow : OpenClaim := { program := "ythmjanhdjchdbaa", sum := "6ec9a560dfa4bd298ae8caad3bac7b73c015f77174c2975d44f6db6d13702e29", func := "verbatim/verbatimlaw10.CursorPlays", spec := "cursorPlays", unfollowed := true, recurses := true, apart := false }
def CursorPlaysSaid : Prop := cursorPlaysRow.holds Try.pinned (OpenSpec.ofChange cursorPlaysSpec)

/-- ITS FALSE NEIGHBOUR: 'it returns false'. Refute it at one input. -/
def cursorPlaysWrong : ChangeSpec := { name := "cursorPlays", fn := fun _ => fun
  | [d1, d2] => { results := [.lit (.bool false)], args := [d1, d2] }
  | _ => none }
def CursorPlaysWrongFalsely : Prop := cursorPlaysRow.holds Try.pinned (OpenSpec.ofChange cursorPlaysWrong)

/-- 'verbatimlaw10.CursorBytes': WHATEVER THE INPUT: true; the input reads as it did. -/
def cursorBytesSpec : ChangeSpec := { name := "cursorBytes", fn := fun _ => fun
  | [d1, d2] => { results := [.lit (.bool true)], args := [d1, d2] }
  | _ => none }
def cursorBytesRow : OpenClaim := { program := "ythmjanhdjchdbaa", sum := "6ec9a560dfa4bd298ae8caad3bac7b73c015f77174c2975d44f6db6d13702e29", func := "verbatim/verbatimlaw10.CursorBytes", spec := "cursorBytes", unfollowed := true, recurses := true, apart := false }
def CursorBytesSaid : Prop := cursorBytesRow.holds Try.pinned (OpenSpec.ofChange cursorBytesSpec)

/-- ITS FALSE NEIGHBOUR: 'it returns false'. Refute it at one input. -/
def cursorBytesWrong : ChangeSpec := { name := "cursorBytes", fn := fun _ => fun
  | [d1, d2] => { results := [.lit (.bool false)], args := [d1, d2] }
  | _ => none }
def CursorBytesWrongFalsely : Prop := cursorBytesRow.holds Try.pinned (OpenSpec.ofChange cursorBytesWrong)

/-- 'verbatimlaw10.CursorWalks': WHATEVER THE INPUT: true; the input reads as it did. -/
def cursorWalksSpec : ChangeSpec := { name := "cursorWalks", fn := fun _ => fun
  | [d1, d2] => { results := [.lit (.bool true)], args := [d1, d2] }
  | _ => none }
def cursorWalksRow : OpenClaim := { program := "ythmjanhdjchdbaa", sum := "6ec9a560dfa4bd298ae8caad3bac7b73c015f77174c2975d44f6db6d13702e29", func := "verbatim/verbatimlaw10.CursorWalks", spec := "cursorWalks", unfollowed := true, recurses := true, apart := false }
def CursorWalksSaid : Prop := cursorWalksRow.holds Try.pinned (OpenSpec.ofChange cursorWalksSpec)

/-- ITS FALSE NEIGHBOUR: 'it returns false'. Refute it at one input. -/
def cursorWalksWrong : ChangeSpec := { name := "cursorWalks", fn := fun _ => fun
  | [d1, d2] => { results := [.lit (.bool false)], args := [d1, d2] }
  | _ => none }
def CursorWalksWrongFalsely : Prop := cursorWalksRow.holds Try.pinned (OpenSpec.ofChange cursorWalksWrong)

/-- 'verbatimlaw10.CursorReads': WHATEVER THE INPUT: true; the input reads as it did. -/
def cursorReadsSpec : ChangeSpec := { name := "cursorReads", fn := fun _ => fun
  | [d1, d2] => { results := [.lit (.bool true)], args := [d1, d2] }
  | _ => none }
def cursorReadsRow : OpenClaim := { program := "ythmjanhdjchdbaa", sum := "6ec9a560dfa4bd298ae8caad3bac7b73c015f77174c2975d44f6db6d13702e29", func := "verbatim/verbatimlaw10.CursorReads", spec := "cursorReads", unfollowed := true, recurses := true, apart := false }
def CursorReadsSaid : Prop := cursorReadsRow.holds Try.pinned (OpenSpec.ofChange cursorReadsSpec)

/-- ITS FALSE NEIGHBOUR: 'it returns false'. Refute it at one input. -/
def cursorReadsWrong : ChangeSpec := { name := "cursorReads", fn := fun _ => fun
  | [d1, d2] => { results := [.lit (.bool false)], args := [d1, d2] }
  | _ => none }
def CursorReadsWrongFalsely : Prop := cursorReadsRow.holds Try.pinned (OpenSpec.ofChange cursorReadsWrong)

/-- 'verbatimlaw10.CursorSkips': WHATEVER THE INPUT: true; the input reads as it did. -/
def cursorSkipsSpec : ChangeSpec := { name := "cursorSkips", fn := fun _ => fun
  | [d1, d2, d3] => { results := [.lit (.bool true)], args := [d1, d2, d3] }
  | _ => none }
def cursorSkipsRow : OpenClaim := { program := "ythmjanhdjchdbaa", sum := "6ec9a560dfa4bd298ae8caad3bac7b73c015f77174c2975d44f6db6d13702e29", func := "verbatim/verbatimlaw10.CursorSkips", spec := "cursorSkips", unfollowed := true, recurses := true, apart := false }
def CursorSkipsSaid : Prop := cursorSkipsRow.holds Try.pinned (OpenSpec.ofChange cursorSkipsSpec)

/-- ITS FALSE NEIGHBOUR: 'it returns false'. Refute it at one input. -/
def cursorSkipsWrong : ChangeSpec := { name := "cursorSkips", fn := fun _ => fun
  | [d1, d2, d3] => { results := [.lit (.bool false)], args := [d1, d2, d3] }
  | _ => none }
def CursorSkipsWrongFalsely : Prop := cursorSkipsRow.holds Try.pinned (OpenSpec.ofChange cursorSkipsWrong)

/- THE SECOND FORM. 'bulk': how many values and letters a reading holds, each counted each time it is reached (what is shared counts as often as it is met; a slice's spare places count too). A statement '..UptoSaid' is the law's where the arguments, and the package variables that the reading takes, are together of bulk at most 1048576: NARROWER than '..Said'. Prove '..Said' where nothing that the law and all that it calls make is longer than what came in: it says more and counts as full. Else prove '..UptoSaid'. A law counts once. -/
mutual
def uptoBulk {H : Type} : DataW H → Nat
  | .lit (.string bytes) => bytes.length + 1
  | .lit _ => 1
  | .nil => 1
  | .ptr d => uptoBulk d + 1
  | .slice elems spare => uptoBulkAll elems + uptoBulkAll spare + 1
  | .agg parts => uptoBulkAll parts + 1
  | .iface _ d => uptoBulk d + 1
  | .map entries => uptoBulkEntries entries + 1
  | .held _ => 1
def uptoBulkAll {H : Type} : List (DataW H) → Nat
  | [] => 0
  | d :: r => uptoBulk d + uptoBulkAll r
def uptoBulkEntries {H : Type} : List (Lit × DataW H) → Nat
  | [] => 0
  | x :: r => uptoBulkEntry x + uptoBulkEntries r
def uptoBulkEntry {H : Type} : Lit × DataW H → Nat
  | (.string bytes, d) => bytes.length + uptoBulk d + 1
  | (_, d) => uptoBulk d + 1
 end
def uptoSmall : (H : Type) → List (DataW H) → Bool := fun _ ds => decide (uptoBulkAll ds ≤ 1048576)
def OpenSpec.upto (s : _root_.Go.ChangeSpec) : _root_.Go.OpenSpec := { _root_.Go.OpenSpec.ofChange s with cond := some uptoSmall }

/-- 'verbatimlaw10.CursorPlays', WHERE WHAT IT READS IS OF BULK AT MOST 1048576: true; the input reads as it did. -/
def cursorPlaysUptoRow : OpenClaim := { program := "ythmjanhdjchdbaa", sum := "6ec9a560dfa4bd298ae8caad3bac7b73c015f77174c2975d44f6db6d13702e29", func := "verbatim/verbatimlaw10.CursorPlays", spec := "cursorPlays", unfollowed := true, recurses := true, apart := false, narrowed := true }
def CursorPlaysUptoSaid : Prop := cursorPlaysUptoRow.holds Try.pinned (OpenSpec.upto cursorPlaysSpec)

/-- 'verbatimlaw10.CursorBytes', WHERE WHAT IT READS IS OF BULK AT MOST 1048576: true; the input reads as it did. -/
def cursorBytesUptoRow : OpenClaim := { program := "ythmjanhdjchdbaa", sum := "6ec9a560dfa4bd298ae8caad3bac7b73c015f77174c2975d44f6db6d13702e29", func := "verbatim/verbatimlaw10.CursorBytes", spec := "cursorBytes", unfollowed := true, recurses := true, apart := false, narrowed := true }
def CursorBytesUptoSaid : Prop := cursorBytesUptoRow.holds Try.pinned (OpenSpec.upto cursorBytesSpec)

/-- 'verbatimlaw10.CursorWalks', WHERE WHAT IT READS IS OF BULK AT MOST 1048576: true; the input reads as it did. -/
def cursorWalksUptoRow : OpenClaim := { program := "ythmjanhdjchdbaa", sum := "6ec9a560dfa4bd298ae8caad3bac7b73c015f77174c2975d44f6db6d13702e29", func := "verbatim/verbatimlaw10.CursorWalks", spec := "cursorWalks", unfollowed := true, recurses := true, apart := false, narrowed := true }
def CursorWalksUptoSaid : Prop := cursorWalksUptoRow.holds Try.pinned (OpenSpec.upto cursorWalksSpec)

/-- 'verbatimlaw10.CursorReads', WHERE WHAT IT READS IS OF BULK AT MOST 1048576: true; the input reads as it did. -/
def cursorReadsUptoRow : OpenClaim := { program := "ythmjanhdjchdbaa", sum := "6ec9a560dfa4bd298ae8caad3bac7b73c015f77174c2975d44f6db6d13702e29", func := "verbatim/verbatimlaw10.CursorReads", spec := "cursorReads", unfollowed := true, recurses := true, apart := false, narrowed := true }
def CursorReadsUptoSaid : Prop := cursorReadsUptoRow.holds Try.pinned (OpenSpec.upto cursorReadsSpec)

/-- 'verbatimlaw10.CursorSkips', WHERE WHAT IT READS IS OF BULK AT MOST 1048576: true; the input reads as it did. -/
def cursorSkipsUptoRow : OpenClaim := { program := "ythmjanhdjchdbaa", sum := "6ec9a560dfa4bd298ae8caad3bac7b73c015f77174c2975d44f6db6d13702e29", func := "verbatim/verbatimlaw10.CursorSkips", spec := "cursorSkips", unfollowed := true, recurses := true, apart := false, narrowed := true }
def CursorSkipsUptoSaid : Prop := cursorSkipsUptoRow.holds Try.pinned (OpenSpec.upto cursorSkipsSpec)

end Rows
end Go.Proofs.Ythmjanhdjchdbaa
