/-
  No cell of these rows narrows 'for every input' (looked for: loops, veiled, ifaces, maps, wideKeys, modest, calm, conditions, laid).
  DERIVED. THE GIVEN ROWS OF THIS SEAT. 5 by the template 'for every input the law returns true; each argument reads behind the call as it read before'; 0 by the template 'total and deterministic' (their statements: YtjmpngghjbiajaaTotals.lean).
  GIVEN WITH THE SEED: the statements are not yours to turn. If you find one false, say at which input.
  Laid BY PROGRAM, IN A SANDBOX (cutbox-rows.mjs): the forced cells as the released guide's own fill.sh prints them over the translation 2dcf29ac86399df9… (all of the seat's roots in one cut). By AI agents, Wed Nov 11 2026. No macro, syntax, notation, axiom, sorry.
-/
import Derived.Test.YtjmpngghjbiajaaChecked
import GoSem.Claim
import GoSem.ClaimJoined
import GoSem.ClaimMapViews
import Derived.JoinedTies
import Derived.KernelRfl
namespace Go.Proofs.Ytjmpngghjbiajaa
/- THE CELL 'sum', in the pinned program and in every row, IS THE sha256 OF THE DUMP (.gsa) THAT YtjmpngghjbiajaaProg.lean LOADS. Nothing in Lean hashes anything: it is a label: what it is worth is what the hold of that sum in a sandbox is worth. -/
noncomputable def Try.pinned : Pinned := { name := "ytjmpngghjbiajaa", sum := "2dcf29ac86399df90e9d13f45c9725e217e45bba2ee21ca602d0ee254adde5b8", checked := Try.checked }
namespace Rows
def none {H : Type} : Left H := { results := [], args := [] }

/-- 'verbatimlaw07.TrieTells': WHATEVER THE INPUT: true; the input reads as it did. -/
def trieTellsSpec : ChangeSpec := { name := "trieTells", fn := fun _ => fun
  | [d1, d2] => { results := [.lit (.bool true)], args := [d1, d2] }
  | _ => none }
def trieTellsRow : OpenClaim := { program := "ytjmpngghjbiajaa", sum := "2dcf29ac86399df90e9d13f45c9725e217e45bba2ee21ca602d0ee254adde5b8", func := "verbatim/verbatimlaw07.TrieTells", spec := "trieTells", unfollowed := true, recurses := true, apart := false }
def TrieTellsSaid : Prop := trieTellsRow.holds Try.pinned (OpenSpec.ofChange trieTellsSpec)

/-- ITS FALSE NEIGHBOUR: 'it returns false'. Refute it at one input. -/
def trieTellsWrong : ChangeSpec := { name := "trieTells", fn := fun _ => fun
  | [d1, d2] => { results := [.lit (.bool false)], args := [d1, d2] }
  | _ => none }
def TrieTellsWrongFalsely : Prop := trieTellsRow.holds Try.pinned (OpenSpec.ofChange trieTellsWrong)

/-- 'verbatimlaw07.TrieWithin': WHATEVER THE INPUT: true; the input reads as it did. -/
def trieWithinSpec : ChangeSpec := { name := "trieWithin", fn := fun _ => fun
  | [d1, d2, d3, d4, d5] => { results := [.lit (.bool true)], args := [d1, d2, d3, d4, d5] }
  | _ => none }
def trieWithinRow : OpenClaim := { program := "ytjmpngghjbiajaa", sum := "2dcf29ac86399df90e9d13f45c9725e217e45bba2ee21ca602d0ee254adde5b8", func := "verbatim/verbatimlaw07.TrieWithin", spec := "trieWithin", unfollowed := true, recurses := true, apart := false }
def TrieWithinSaid : Prop := trieWithinRow.holds Try.pinned (OpenSpec.ofChange trieWithinSpec)

/-- ITS FALSE NEIGHBOUR: 'it returns false'. Refute it at one input. -/
def trieWithinWrong : ChangeSpec := { name := "trieWithin", fn := fun _ => fun
  | [d1, d2, d3, d4, d5] => { results := [.lit (.bool false)], args := [d1, d2, d3, d4, d5] }
  | _ => none }
def TrieWithinWrongFalsely : Prop := trieWithinRow.holds Try.pinned (OpenSpec.ofChange trieWithinWrong)

/-- 'verbatimlaw07.TrieMore': WHATEVER THE INPUT: true; the input reads as it did. -/
def trieMoreSpec : ChangeSpec := { name := "trieMore", fn := fun _ => fun
  | [d1, d2, d3] => { results := [.lit (.bool true)], args := [d1, d2, d3] }
  | _ => none }
def trieMoreRow : OpenClaim := { program := "ytjmpngghjbiajaa", sum := "2dcf29ac86399df90e9d13f45c9725e217e45bba2ee21ca602d0ee254adde5b8", func := "verbatim/verbatimlaw07.TrieMore", spec := "trieMore", unfollowed := true, recurses := true, apart := false }
def TrieMoreSaid : Prop := trieMoreRow.holds Try.pinned (OpenSpec.ofChange trieMoreSpec)

/-- ITS FALSE NEIGHBOUR: 'it returns false'. Refute it at one input. -/
def trieMoreWrong : ChangeSpec := { name := "trieMore", fn := fun _ => fun
  | [d1, d2, d3] => { results := [.lit (.bool false)], args := [d1, d2, d3] }
  | _ => none }
def TrieMoreWrongFalsely : Prop := trieMoreRow.holds Try.pinned (OpenSpec.ofChange trieMoreWrong)

/-- 'verbatimlaw07.TrieWhole': WHATEVER THE INPUT: true; the input reads as it did. -/
def trieWholeSpec : ChangeSpec := { name := "trieWhole", fn := fun _ => fun
  | [d1, d2] => { results := [.lit (.bool true)], args := [d1, d2] }
  | _ => none }
def trieWholeRow : OpenClaim := { program := "ytjmpngghjbiajaa", sum := "2dcf29ac86399df90e9d13f45c9725e217e45bba2ee21ca602d0ee254adde5b8", func := "verbatim/verbatimlaw07.TrieWhole", spec := "trieWhole", unfollowed := true, recurses := true, apart := false }
def TrieWholeSaid : Prop := trieWholeRow.holds Try.pinned (OpenSpec.ofChange trieWholeSpec)

/-- ITS FALSE NEIGHBOUR: 'it returns false'. Refute it at one input. -/
def trieWholeWrong : ChangeSpec := { name := "trieWhole", fn := fun _ => fun
  | [d1, d2] => { results := [.lit (.bool false)], args := [d1, d2] }
  | _ => none }
def TrieWholeWrongFalsely : Prop := trieWholeRow.holds Try.pinned (OpenSpec.ofChange trieWholeWrong)

/-- 'verbatimlaw07.TrieEmpty': WHATEVER THE INPUT: true; the input reads as it did. -/
def trieEmptySpec : ChangeSpec := { name := "trieEmpty", fn := fun _ => fun
  | [d1, d2] => { results := [.lit (.bool true)], args := [d1, d2] }
  | _ => none }
def trieEmptyRow : OpenClaim := { program := "ytjmpngghjbiajaa", sum := "2dcf29ac86399df90e9d13f45c9725e217e45bba2ee21ca602d0ee254adde5b8", func := "verbatim/verbatimlaw07.TrieEmpty", spec := "trieEmpty", unfollowed := true, recurses := true, apart := false }
def TrieEmptySaid : Prop := trieEmptyRow.holds Try.pinned (OpenSpec.ofChange trieEmptySpec)

/-- ITS FALSE NEIGHBOUR: 'it returns false'. Refute it at one input. -/
def trieEmptyWrong : ChangeSpec := { name := "trieEmpty", fn := fun _ => fun
  | [d1, d2] => { results := [.lit (.bool false)], args := [d1, d2] }
  | _ => none }
def TrieEmptyWrongFalsely : Prop := trieEmptyRow.holds Try.pinned (OpenSpec.ofChange trieEmptyWrong)

/- THE SECOND FORM. 'bulk': how many values and letters a reading holds, each counted each time it is reached (what is shared counts as often as it is met; a slice's spare places count too). A statement '..UptoSaid' is the law's where the arguments, and the package variables that the reading takes, are together of bulk at most 1048576: NARROWER than '..Said'. Prove '..Said' where nothing that the law and all that it calls make is longer than what came in: it says more and counts as full. Else prove '..UptoSaid'. A law counts once. -/
mutual
def uptoBulk {H : Type} : DataW H → Nat
  | .lit (.string bytes) => bytes.length + 1
  | .lit _ => 1
  | .nil => 1
  | .ptr d => uptoBulk d + 1
  | .slice elems spare => uptoBulkAll elems + uptoBulkAll spare + 1
  | .agg parts => uptoBulkAll parts + 1
  | .iface _ d => uptoBulk d + 1
  | .map entries => uptoBulkEntries entries + 1
  | .held _ => 1
def uptoBulkAll {H : Type} : List (DataW H) → Nat
  | [] => 0
  | d :: r => uptoBulk d + uptoBulkAll r
def uptoBulkEntries {H : Type} : List (Lit × DataW H) → Nat
  | [] => 0
  | x :: r => uptoBulkEntry x + uptoBulkEntries r
def uptoBulkEntry {H : Type} : Lit × DataW H → Nat
  | (.string bytes, d) => bytes.length + uptoBulk d + 1
  | (_, d) => uptoBulk d + 1
 end
def uptoSmall : (H : Type) → List (DataW H) → Bool := fun _ ds => decide (uptoBulkAll ds ≤ 1048576)
def OpenSpec.upto (s : _root_.Go.ChangeSpec) : _root_.Go.OpenSpec := { _root_.Go.OpenSpec.ofChange s with cond := some uptoSmall }

/-- 'verbatimlaw07.TrieTells', WHERE WHAT IT READS IS OF BULK AT MOST 1048576: true; the input reads as it did. -/
def trieTellsUptoRow : OpenClaim := { program := "ytjmpngghjbiajaa", sum := "2dcf29ac86399df90e9d13f45c9725e217e45bba2ee21ca602d0ee254adde5b8", func := "verbatim/verbatimlaw07.TrieTells", spec := "trieTells", unfollowed := true, recurses := true, apart := false, narrowed := true }
def TrieTellsUptoSaid : Prop := trieTellsUptoRow.holds Try.pinned (OpenSpec.upto trieTellsSpec)

/-- 'verbatimlaw07.TrieWithin', WHERE WHAT IT READS IS OF BULK AT MOST 1048576: true; the input reads as it did. -/
def trieWithinUptoRow : OpenClaim := { program := "ytjmpngghjbiajaa", sum := "2dcf29ac86399df90e9d13f45c9725e217e45bba2ee21ca602d0ee254adde5b8", func := "verbatim/verbatimlaw07.TrieWithin", spec := "trieWithin", unfollowed := true, recurses := true, apart := false, narrowed := true }
def TrieWithinUptoSaid : Prop := trieWithinUptoRow.holds Try.pinned (OpenSpec.upto trieWithinSpec)

/-- 'verbatimlaw07.TrieMore', WHERE WHAT IT READS IS OF BULK AT MOST 1048576: true; the input reads as it did. -/
def trieMoreUptoRow : OpenClaim := { program := "ytjmpngghjbiajaa", sum := "2dcf29ac86399df90e9d13f45c9725e217e45bba2ee21ca602d0ee254adde5b8", func := "verbatim/verbatimlaw07.TrieMore", spec := "trieMore", unfollowed := true, recurses := true, apart := false, narrowed := true }
def TrieMoreUptoSaid : Prop := trieMoreUptoRow.holds Try.pinned (OpenSpec.upto trieMoreSpec)

/-- 'verbatimlaw07.TrieWhole', WHERE WHAT IT READS IS OF BULK AT MOST 1048576: true; the input reads as it did. -/
def trieWholeUptoRow : OpenClaim := { program := "ytjmpngghjbiajaa", sum := "2dcf29ac86399df90e9d13f45c9725e217e45bba2ee21ca602d0ee254adde5b8", func := "verbatim/verbatimlaw07.TrieWhole", spec := "trieWhole", unfollowed := true, recurses := true, apart := false, narrowed := true }
def TrieWholeUptoSaid : Prop := trieWholeUptoRow.holds Try.pinned (OpenSpec.upto trieWholeSpec)

/-- 'verbatimlaw07.TrieEmpty', WHERE WHAT IT READS IS OF BULK AT MOST 1048576: true; the input reads as it did. -/
def trieEmptyUptoRow : OpenClaim := { program := "ytjmpngghjbiajaa", sum := "2dcf29ac86399df90e9d13f45c9725e217e45bba2ee21ca602d0ee254adde5b8", func := "verbatim/verbatimlaw07.TrieEmpty", spec := "trieEmpty", unfollowed := true, recurses := true, apart := false, narrowed := true }
def TrieEmptyUptoSaid : Prop := trieEmptyUptoRow.holds Try.pinned (OpenSpec.upto trieEmptySpec)

end Rows
end Go.Proofs.Ytjmpngghjbiajaa
