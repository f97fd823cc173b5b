/-
  DERIVED. GIVEN WITH THE SEED: THE CARDS: each row of YtfnnhhhkdfgefaaGreatDoorRows.lean that lists a variable, with what it lists TIED to the program's text (the seventh form; the later family's looks); each row that meets fmt, with fmt's text TOLD by the authors' own Lean function (tested against real Go, not proved from fmt's source: count such statements apart). THE CARD IS WHAT COUNTS. Prove the row's statement (the work); the ties are given (YtfnnhhhkdfgefaaGreatDoorTie.lean); close each card by the builder's one call (the guide's Derived/Test/ToyasCard.lean, 'card_holds'). Laid BY PROGRAM, IN A SANDBOX (cutbox-door.mjs). By AI agents, Wed Nov 11 2026. No macro, syntax, notation, axiom, sorry.
-/
import Derived.Test.YtfnnhhhkdfgefaaGreatDoorRows
import GoSem.ClaimSeven
namespace Go.Proofs.YtfnnhhhkdfgefaaGreatDoor
namespace Rows

/-- THE TIED CARD OF 'refitlaw04.CastValues'. -/
def castValuesCard : Claim7 := { stood := { row := castValuesRow, standIns := [], harness := (true, "e81c8a69154b5733dba66443a6a8504db75d0831868351b921995d7260d08a9f"), looks := true }, kinds := [], alts := [], laidByText := true, laidKinds := [.data, .data, .data, .data, .sentinel, .sentinel, .pinned], laidTests := true, laidLooks := .later }
def CastValuesCardSaid : Prop := Claim7.holds Tryz.pinned (.plain (OpenSpec.ofChange castValuesSpec)) castValuesCard

/-- THE TIED CARD OF 'refitlaw04.CastSafe'. -/
def castSafeCard : Claim7 := { stood := { row := castSafeRow, standIns := [], harness := (true, "e81c8a69154b5733dba66443a6a8504db75d0831868351b921995d7260d08a9f"), looks := true }, kinds := [], alts := [], laidByText := true, laidKinds := [.data, .data, .data, .data, .sentinel, .sentinel, .pinned], laidTests := true, laidLooks := .later }
def CastSafeCardSaid : Prop := Claim7.holds Tryz.pinned (.plain (OpenSpec.ofChange castSafeSpec)) castSafeCard

/-- THE TIED CARD OF 'refitlaw04.CastFits'. -/
def castFitsCard : Claim7 := { stood := { row := castFitsRow, standIns := [], harness := (true, "e81c8a69154b5733dba66443a6a8504db75d0831868351b921995d7260d08a9f"), looks := true }, kinds := [], alts := [], laidByText := true, laidKinds := [.data, .data, .data, .data, .sentinel, .sentinel, .pinned], laidTests := true, laidLooks := .later }
def CastFitsCardSaid : Prop := Claim7.holds Tryz.pinned (.plain (OpenSpec.ofChange castFitsSpec)) castFitsCard

/-- THE TIED CARD OF 'refitlaw04.CastBack'. -/
def castBackCard : Claim7 := { stood := { row := castBackRow, standIns := [], harness := (true, "e81c8a69154b5733dba66443a6a8504db75d0831868351b921995d7260d08a9f"), looks := true }, kinds := [], alts := [], laidByText := true, laidKinds := [.data, .data, .data, .data, .sentinel, .sentinel, .pinned], laidTests := true, laidLooks := .later }
def CastBackCardSaid : Prop := Claim7.holds Tryz.pinned (.plain (OpenSpec.ofChange castBackSpec)) castBackCard

/-- THE SECOND FORM's CARD OF 'refitlaw04.CastValues'. -/
def castValuesUptoCard : Claim7 := { stood := { row := castValuesUptoRow, standIns := [], harness := (true, "e81c8a69154b5733dba66443a6a8504db75d0831868351b921995d7260d08a9f"), looks := true }, kinds := [], alts := [], laidByText := true, laidKinds := [.data, .data, .data, .data, .sentinel, .sentinel, .pinned], laidTests := true, laidLooks := .later }
def CastValuesUptoCardSaid : Prop := Claim7.holds Tryz.pinned (.plain (OpenSpec.upto castValuesSpec)) castValuesUptoCard

/-- THE SECOND FORM's CARD OF 'refitlaw04.CastSafe'. -/
def castSafeUptoCard : Claim7 := { stood := { row := castSafeUptoRow, standIns := [], harness := (true, "e81c8a69154b5733dba66443a6a8504db75d0831868351b921995d7260d08a9f"), looks := true }, kinds := [], alts := [], laidByText := true, laidKinds := [.data, .data, .data, .data, .sentinel, .sentinel, .pinned], laidTests := true, laidLooks := .later }
def CastSafeUptoCardSaid : Prop := Claim7.holds Tryz.pinned (.plain (OpenSpec.upto castSafeSpec)) castSafeUptoCard

/-- THE SECOND FORM's CARD OF 'refitlaw04.CastFits'. -/
def castFitsUptoCard : Claim7 := { stood := { row := castFitsUptoRow, standIns := [], harness := (true, "e81c8a69154b5733dba66443a6a8504db75d0831868351b921995d7260d08a9f"), looks := true }, kinds := [], alts := [], laidByText := true, laidKinds := [.data, .data, .data, .data, .sentinel, .sentinel, .pinned], laidTests := true, laidLooks := .later }
def CastFitsUptoCardSaid : Prop := Claim7.holds Tryz.pinned (.plain (OpenSpec.upto castFitsSpec)) castFitsUptoCard

/-- THE SECOND FORM's CARD OF 'refitlaw04.CastBack'. -/
def castBackUptoCard : Claim7 := { stood := { row := castBackUptoRow, standIns := [], harness := (true, "e81c8a69154b5733dba66443a6a8504db75d0831868351b921995d7260d08a9f"), looks := true }, kinds := [], alts := [], laidByText := true, laidKinds := [.data, .data, .data, .data, .sentinel, .sentinel, .pinned], laidTests := true, laidLooks := .later }
def CastBackUptoCardSaid : Prop := Claim7.holds Tryz.pinned (.plain (OpenSpec.upto castBackSpec)) castBackUptoCard
end Rows
end Go.Proofs.YtfnnhhhkdfgefaaGreatDoor
