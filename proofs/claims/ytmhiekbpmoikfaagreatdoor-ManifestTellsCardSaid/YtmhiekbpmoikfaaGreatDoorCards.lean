/-
  DERIVED. GIVEN WITH THE SEED: THE CARDS: each row of YtmhiekbpmoikfaaGreatDoorRows.lean that lists a variable, with what it lists TIED to the program's text (the seventh form; the later family's looks); each row that meets fmt, with fmt's text TOLD by the authors' own Lean function (tested against real Go, not proved from fmt's source: count such statements apart). THE CARD IS WHAT COUNTS. Prove the row's statement (the work); the ties are given (YtmhiekbpmoikfaaGreatDoorTie.lean); close each card by the builder's one call (the guide's Derived/Test/ToyasCard.lean, 'card_holds'). Laid BY PROGRAM, IN A SANDBOX (cutbox-door.mjs). By AI agents, Wed Nov 11 2026. No macro, syntax, notation, axiom, sorry.
-/
import Derived.Test.YtmhiekbpmoikfaaGreatDoorRows
import GoSem.ClaimSeven
namespace Go.Proofs.YtmhiekbpmoikfaaGreatDoor
namespace Rows

/-- THE TIED CARD OF 'verbatimlaw15.ManifestTells'. -/
def manifestTellsCard : Claim7 := { stood := { row := manifestTellsRow, standIns := [], harness := (true, "5e9ea5c334d582d937b5b8445ef39b7ba0ca1ec8cc5333812782fa4e0fc0b08b"), looks := true }, kinds := [], alts := [], laidByText := true, laidKinds := [.data, .data, .data], laidTests := true, laidLooks := .later }
def ManifestTellsCardSaid : Prop := Claim7.holds Tryz.pinned (.plain (OpenSpec.ofChange manifestTellsSpec)) manifestTellsCard

/-- THE TIED CARD OF 'verbatimlaw15.ManifestBack'. -/
def manifestBackCard : Claim7 := { stood := { row := manifestBackRow, standIns := [], harness := (true, "5e9ea5c334d582d937b5b8445ef39b7ba0ca1ec8cc5333812782fa4e0fc0b08b"), looks := true }, kinds := [], alts := [], laidByText := true, laidKinds := [.data, .data, .data], laidTests := true, laidLooks := .later }
def ManifestBackCardSaid : Prop := Claim7.holds Tryz.pinned (.plain (OpenSpec.ofChange manifestBackSpec)) manifestBackCard

/-- THE TIED CARD OF 'verbatimlaw15.ManifestPlays'. -/
def manifestPlaysCard : Claim7 := { stood := { row := manifestPlaysRow, standIns := [], harness := (true, "5e9ea5c334d582d937b5b8445ef39b7ba0ca1ec8cc5333812782fa4e0fc0b08b"), looks := true }, kinds := [], alts := [], laidByText := true, laidKinds := [.data, .data, .data], laidTests := true, laidLooks := .later }
def ManifestPlaysCardSaid : Prop := Claim7.holds Tryz.pinned (.plain (OpenSpec.ofChange manifestPlaysSpec)) manifestPlaysCard

/-- THE TIED CARD OF 'verbatimlaw15.ManifestOnce'. -/
def manifestOnceCard : Claim7 := { stood := { row := manifestOnceRow, standIns := [], harness := (true, "5e9ea5c334d582d937b5b8445ef39b7ba0ca1ec8cc5333812782fa4e0fc0b08b"), looks := true }, kinds := [], alts := [], laidByText := true, laidKinds := [.data, .data, .data], laidTests := true, laidLooks := .later }
def ManifestOnceCardSaid : Prop := Claim7.holds Tryz.pinned (.plain (OpenSpec.ofChange manifestOnceSpec)) manifestOnceCard

/-- THE TIED CARD OF 'verbatimlaw15.ManifestClean'. -/
def manifestCleanCard : Claim7 := { stood := { row := manifestCleanRow, standIns := [], harness := (true, "5e9ea5c334d582d937b5b8445ef39b7ba0ca1ec8cc5333812782fa4e0fc0b08b"), looks := true }, kinds := [], alts := [], laidByText := true, laidKinds := [.data, .data, .data], laidTests := true, laidLooks := .later }
def ManifestCleanCardSaid : Prop := Claim7.holds Tryz.pinned (.plain (OpenSpec.ofChange manifestCleanSpec)) manifestCleanCard

/-- THE TIED CARD OF 'verbatimlaw15.ManifestLost'. -/
def manifestLostCard : Claim7 := { stood := { row := manifestLostRow, standIns := [], harness := (true, "5e9ea5c334d582d937b5b8445ef39b7ba0ca1ec8cc5333812782fa4e0fc0b08b"), looks := true }, kinds := [], alts := [], laidByText := true, laidKinds := [.data, .data, .data], laidTests := true, laidLooks := .later }
def ManifestLostCardSaid : Prop := Claim7.holds Tryz.pinned (.plain (OpenSpec.ofChange manifestLostSpec)) manifestLostCard

/-- THE TIED CARD OF 'verbatimlaw15.ManifestNames'. -/
def manifestNamesCard : Claim7 := { stood := { row := manifestNamesRow, standIns := [], harness := (true, "5e9ea5c334d582d937b5b8445ef39b7ba0ca1ec8cc5333812782fa4e0fc0b08b"), looks := true }, kinds := [], alts := [], laidByText := true, laidKinds := [.data, .data, .data], laidTests := true, laidLooks := .later }
def ManifestNamesCardSaid : Prop := Claim7.holds Tryz.pinned (.plain (OpenSpec.ofChange manifestNamesSpec)) manifestNamesCard

/-- THE TIED CARD OF 'verbatimlaw15.ManifestWrites'. -/
def manifestWritesCard : Claim7 := { stood := { row := manifestWritesRow, standIns := [], harness := (true, "5e9ea5c334d582d937b5b8445ef39b7ba0ca1ec8cc5333812782fa4e0fc0b08b"), looks := true }, kinds := [], alts := [], laidByText := true, laidKinds := [.data, .data, .data], laidTests := true, laidLooks := .later }
def ManifestWritesCardSaid : Prop := Claim7.holds Tryz.pinned (.plain (OpenSpec.ofChange manifestWritesSpec)) manifestWritesCard

/-- THE SECOND FORM's CARD OF 'verbatimlaw15.ManifestTells'. -/
def manifestTellsUptoCard : Claim7 := { stood := { row := manifestTellsUptoRow, standIns := [], harness := (true, "5e9ea5c334d582d937b5b8445ef39b7ba0ca1ec8cc5333812782fa4e0fc0b08b"), looks := true }, kinds := [], alts := [], laidByText := true, laidKinds := [.data, .data, .data], laidTests := true, laidLooks := .later }
def ManifestTellsUptoCardSaid : Prop := Claim7.holds Tryz.pinned (.plain (OpenSpec.upto manifestTellsSpec)) manifestTellsUptoCard

/-- THE SECOND FORM's CARD OF 'verbatimlaw15.ManifestBack'. -/
def manifestBackUptoCard : Claim7 := { stood := { row := manifestBackUptoRow, standIns := [], harness := (true, "5e9ea5c334d582d937b5b8445ef39b7ba0ca1ec8cc5333812782fa4e0fc0b08b"), looks := true }, kinds := [], alts := [], laidByText := true, laidKinds := [.data, .data, .data], laidTests := true, laidLooks := .later }
def ManifestBackUptoCardSaid : Prop := Claim7.holds Tryz.pinned (.plain (OpenSpec.upto manifestBackSpec)) manifestBackUptoCard

/-- THE SECOND FORM's CARD OF 'verbatimlaw15.ManifestPlays'. -/
def manifestPlaysUptoCard : Claim7 := { stood := { row := manifestPlaysUptoRow, standIns := [], harness := (true, "5e9ea5c334d582d937b5b8445ef39b7ba0ca1ec8cc5333812782fa4e0fc0b08b"), looks := true }, kinds := [], alts := [], laidByText := true, laidKinds := [.data, .data, .data], laidTests := true, laidLooks := .later }
def ManifestPlaysUptoCardSaid : Prop := Claim7.holds Tryz.pinned (.plain (OpenSpec.upto manifestPlaysSpec)) manifestPlaysUptoCard

/-- THE SECOND FORM's CARD OF 'verbatimlaw15.ManifestOnce'. -/
def manifestOnceUptoCard : Claim7 := { stood := { row := manifestOnceUptoRow, standIns := [], harness := (true, "5e9ea5c334d582d937b5b8445ef39b7ba0ca1ec8cc5333812782fa4e0fc0b08b"), looks := true }, kinds := [], alts := [], laidByText := true, laidKinds := [.data, .data, .data], laidTests := true, laidLooks := .later }
def ManifestOnceUptoCardSaid : Prop := Claim7.holds Tryz.pinned (.plain (OpenSpec.upto manifestOnceSpec)) manifestOnceUptoCard

/-- THE SECOND FORM's CARD OF 'verbatimlaw15.ManifestClean'. -/
def manifestCleanUptoCard : Claim7 := { stood := { row := manifestCleanUptoRow, standIns := [], harness := (true, "5e9ea5c334d582d937b5b8445ef39b7ba0ca1ec8cc5333812782fa4e0fc0b08b"), looks := true }, kinds := [], alts := [], laidByText := true, laidKinds := [.data, .data, .data], laidTests := true, laidLooks := .later }
def ManifestCleanUptoCardSaid : Prop := Claim7.holds Tryz.pinned (.plain (OpenSpec.upto manifestCleanSpec)) manifestCleanUptoCard

/-- THE SECOND FORM's CARD OF 'verbatimlaw15.ManifestLost'. -/
def manifestLostUptoCard : Claim7 := { stood := { row := manifestLostUptoRow, standIns := [], harness := (true, "5e9ea5c334d582d937b5b8445ef39b7ba0ca1ec8cc5333812782fa4e0fc0b08b"), looks := true }, kinds := [], alts := [], laidByText := true, laidKinds := [.data, .data, .data], laidTests := true, laidLooks := .later }
def ManifestLostUptoCardSaid : Prop := Claim7.holds Tryz.pinned (.plain (OpenSpec.upto manifestLostSpec)) manifestLostUptoCard

/-- THE SECOND FORM's CARD OF 'verbatimlaw15.ManifestNames'. -/
def manifestNamesUptoCard : Claim7 := { stood := { row := manifestNamesUptoRow, standIns := [], harness := (true, "5e9ea5c334d582d937b5b8445ef39b7ba0ca1ec8cc5333812782fa4e0fc0b08b"), looks := true }, kinds := [], alts := [], laidByText := true, laidKinds := [.data, .data, .data], laidTests := true, laidLooks := .later }
def ManifestNamesUptoCardSaid : Prop := Claim7.holds Tryz.pinned (.plain (OpenSpec.upto manifestNamesSpec)) manifestNamesUptoCard

/-- THE SECOND FORM's CARD OF 'verbatimlaw15.ManifestWrites'. -/
def manifestWritesUptoCard : Claim7 := { stood := { row := manifestWritesUptoRow, standIns := [], harness := (true, "5e9ea5c334d582d937b5b8445ef39b7ba0ca1ec8cc5333812782fa4e0fc0b08b"), looks := true }, kinds := [], alts := [], laidByText := true, laidKinds := [.data, .data, .data], laidTests := true, laidLooks := .later }
def ManifestWritesUptoCardSaid : Prop := Claim7.holds Tryz.pinned (.plain (OpenSpec.upto manifestWritesSpec)) manifestWritesUptoCard
end Rows
end Go.Proofs.YtmhiekbpmoikfaaGreatDoor
