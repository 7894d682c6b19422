/-
  DERIVED. GIVEN WITH THE SEED: THE CARDS: each row of YtfddaegepmdohaaGreatDoorRows.lean that lists a variable, with what it lists TIED to the program's text (the seventh form; the later family's looks); each row that meets fmt, with fmt's text TOLD by the authors' own Lean function (tested against real Go, not proved from fmt's source: count such statements apart). THE CARD IS WHAT COUNTS. Prove the row's statement (the work); the ties are given (YtfddaegepmdohaaGreatDoorTie.lean); close each card by the builder's one call (the guide's Derived/Test/ToyasCard.lean, 'card_holds'). Laid BY PROGRAM, IN A SANDBOX (cutbox-door.mjs). By AI agents, Wed Nov 11 2026. No macro, syntax, notation, axiom, sorry.
-/
import Derived.Test.YtfddaegepmdohaaGreatDoorRows
import GoSem.ClaimSeven
namespace Go.Proofs.YtfddaegepmdohaaGreatDoor
namespace Rows

/-- THE TIED CARD OF 'tesseractlaw09.BatchReads'. -/
def batchReadsCard : Claim7 := { stood := { row := batchReadsRow, standIns := [], harness := (true, "03905dd9ace3c284a3ea7122f8253190a51982687ffc4e1d11fabd42601c365b"), looks := false }, kinds := [], alts := [], laidByText := true, laidKinds := [.data, .pinned], laidTests := true, laidLooks := .later }
def BatchReadsCardSaid : Prop := Claim7.holds Tryz.pinned (.plain (OpenSpec.ofChange batchReadsSpec)) batchReadsCard

/-- THE TIED CARD OF 'tesseractlaw09.BatchRound'. -/
def batchRoundCard : Claim7 := { stood := { row := batchRoundRow, standIns := [], harness := (true, "03905dd9ace3c284a3ea7122f8253190a51982687ffc4e1d11fabd42601c365b"), looks := false }, kinds := [], alts := [], laidByText := true, laidKinds := [.data, .pinned], laidTests := true, laidLooks := .later }
def BatchRoundCardSaid : Prop := Claim7.holds Tryz.pinned (.plain (OpenSpec.ofChange batchRoundSpec)) batchRoundCard

/-- THE SECOND FORM's CARD OF 'tesseractlaw09.BatchReads'. -/
def batchReadsUptoCard : Claim7 := { stood := { row := batchReadsUptoRow, standIns := [], harness := (true, "03905dd9ace3c284a3ea7122f8253190a51982687ffc4e1d11fabd42601c365b"), looks := false }, kinds := [], alts := [], laidByText := true, laidKinds := [.data, .pinned], laidTests := true, laidLooks := .later }
def BatchReadsUptoCardSaid : Prop := Claim7.holds Tryz.pinned (.plain (OpenSpec.upto batchReadsSpec)) batchReadsUptoCard

/-- THE SECOND FORM's CARD OF 'tesseractlaw09.BatchRound'. -/
def batchRoundUptoCard : Claim7 := { stood := { row := batchRoundUptoRow, standIns := [], harness := (true, "03905dd9ace3c284a3ea7122f8253190a51982687ffc4e1d11fabd42601c365b"), looks := false }, kinds := [], alts := [], laidByText := true, laidKinds := [.data, .pinned], laidTests := true, laidLooks := .later }
def BatchRoundUptoCardSaid : Prop := Claim7.holds Tryz.pinned (.plain (OpenSpec.upto batchRoundSpec)) batchRoundUptoCard
end Rows
end Go.Proofs.YtfddaegepmdohaaGreatDoor
