/-
  DERIVED. GIVEN WITH THE SEED: THE CARDS: each row of YtkhnieadmpahmaaDoorRows.lean that lists a variable, with what it lists TIED to the program's text (the seventh form; the later family's looks); each row that meets fmt, with fmt's text TOLD by the authors' own Lean function (tested against real Go, not proved from fmt's source: count such statements apart). THE CARD IS WHAT COUNTS. Prove the row's statement (the work); the ties are given (YtkhnieadmpahmaaDoorTie.lean); close each card by the builder's one call (the guide's Derived/Test/ToyasCard.lean, 'card_holds'). Laid BY PROGRAM, IN A SANDBOX (cutbox-door.mjs). By AI agents, Wed Nov 11 2026. No macro, syntax, notation, axiom, sorry.
-/
import Derived.Test.YtkhnieadmpahmaaDoorRows
import GoSem.ClaimSeven
namespace Go.Proofs.YtkhnieadmpahmaaDoor
namespace Rows

/-- THE TIED CARD OF 'tesseractlaw06.NamesKinds'. -/
def namesKindsCard : Claim7 := { stood := { row := namesKindsRow, standIns := [], harness := (true, "8c47760688d2123e3d86ea739eb4e27e792e065c555e72cf01bd78d17d5cea6d"), looks := false }, kinds := [], alts := [], laidByText := true, laidKinds := [.data, .pinned], laidTests := true, laidLooks := .later }
def NamesKindsCardSaid : Prop := Claim7.holds Tryd.pinned (.plain (OpenSpec.ofChange namesKindsSpec)) namesKindsCard

/-- THE TIED CARD OF 'tesseractlaw06.NamesPaths'. -/
def namesPathsCard : Claim7 := { stood := { row := namesPathsRow, standIns := [], harness := (true, "8c47760688d2123e3d86ea739eb4e27e792e065c555e72cf01bd78d17d5cea6d"), looks := false }, kinds := [], alts := [], laidByText := true, laidKinds := [.data, .pinned], laidTests := true, laidLooks := .later }
def NamesPathsCardSaid : Prop := Claim7.holds Tryd.pinned (.plain (OpenSpec.ofChange namesPathsSpec)) namesPathsCard

/-- THE TIED CARD OF 'tesseractlaw06.NamesRound'. -/
def namesRoundCard : Claim7 := { stood := { row := namesRoundRow, standIns := [], harness := (true, "8c47760688d2123e3d86ea739eb4e27e792e065c555e72cf01bd78d17d5cea6d"), looks := false }, kinds := [], alts := [], laidByText := true, laidKinds := [.data, .pinned], laidTests := true, laidLooks := .later }
def NamesRoundCardSaid : Prop := Claim7.holds Tryd.pinned (.plain (OpenSpec.ofChange namesRoundSpec)) namesRoundCard

/-- THE TIED CARD OF 'tesseractlaw06.NamesCompares'. -/
def namesComparesCard : Claim7 := { stood := { row := namesComparesRow, standIns := [], harness := (true, "8c47760688d2123e3d86ea739eb4e27e792e065c555e72cf01bd78d17d5cea6d"), looks := false }, kinds := [], alts := [], laidByText := true, laidKinds := [.data, .pinned], laidTests := true, laidLooks := .later }
def NamesComparesCardSaid : Prop := Claim7.holds Tryd.pinned (.plain (OpenSpec.ofChange namesComparesSpec)) namesComparesCard

/-- THE TIED CARD OF 'tesseractlaw06.NamesOrder'. -/
def namesOrderCard : Claim7 := { stood := { row := namesOrderRow, standIns := [], harness := (true, "8c47760688d2123e3d86ea739eb4e27e792e065c555e72cf01bd78d17d5cea6d"), looks := false }, kinds := [], alts := [], laidByText := true, laidKinds := [.data, .pinned], laidTests := true, laidLooks := .later }
def NamesOrderCardSaid : Prop := Claim7.holds Tryd.pinned (.plain (OpenSpec.ofChange namesOrderSpec)) namesOrderCard

/-- THE TIED CARD OF 'tesseractlaw06.NamesSide'. -/
def namesSideCard : Claim7 := { stood := { row := namesSideRow, standIns := [], harness := (true, "8c47760688d2123e3d86ea739eb4e27e792e065c555e72cf01bd78d17d5cea6d"), looks := false }, kinds := [], alts := [], laidByText := true, laidKinds := [.data, .pinned], laidTests := true, laidLooks := .later }
def NamesSideCardSaid : Prop := Claim7.holds Tryd.pinned (.plain (OpenSpec.ofChange namesSideSpec)) namesSideCard

/-- THE SECOND FORM's CARD OF 'tesseractlaw06.NamesKinds'. -/
def namesKindsUptoCard : Claim7 := { stood := { row := namesKindsUptoRow, standIns := [], harness := (true, "8c47760688d2123e3d86ea739eb4e27e792e065c555e72cf01bd78d17d5cea6d"), looks := false }, kinds := [], alts := [], laidByText := true, laidKinds := [.data, .pinned], laidTests := true, laidLooks := .later }
def NamesKindsUptoCardSaid : Prop := Claim7.holds Tryd.pinned (.plain (OpenSpec.upto namesKindsSpec)) namesKindsUptoCard

/-- THE SECOND FORM's CARD OF 'tesseractlaw06.NamesPaths'. -/
def namesPathsUptoCard : Claim7 := { stood := { row := namesPathsUptoRow, standIns := [], harness := (true, "8c47760688d2123e3d86ea739eb4e27e792e065c555e72cf01bd78d17d5cea6d"), looks := false }, kinds := [], alts := [], laidByText := true, laidKinds := [.data, .pinned], laidTests := true, laidLooks := .later }
def NamesPathsUptoCardSaid : Prop := Claim7.holds Tryd.pinned (.plain (OpenSpec.upto namesPathsSpec)) namesPathsUptoCard

/-- THE SECOND FORM's CARD OF 'tesseractlaw06.NamesRound'. -/
def namesRoundUptoCard : Claim7 := { stood := { row := namesRoundUptoRow, standIns := [], harness := (true, "8c47760688d2123e3d86ea739eb4e27e792e065c555e72cf01bd78d17d5cea6d"), looks := false }, kinds := [], alts := [], laidByText := true, laidKinds := [.data, .pinned], laidTests := true, laidLooks := .later }
def NamesRoundUptoCardSaid : Prop := Claim7.holds Tryd.pinned (.plain (OpenSpec.upto namesRoundSpec)) namesRoundUptoCard

/-- THE SECOND FORM's CARD OF 'tesseractlaw06.NamesCompares'. -/
def namesComparesUptoCard : Claim7 := { stood := { row := namesComparesUptoRow, standIns := [], harness := (true, "8c47760688d2123e3d86ea739eb4e27e792e065c555e72cf01bd78d17d5cea6d"), looks := false }, kinds := [], alts := [], laidByText := true, laidKinds := [.data, .pinned], laidTests := true, laidLooks := .later }
def NamesComparesUptoCardSaid : Prop := Claim7.holds Tryd.pinned (.plain (OpenSpec.upto namesComparesSpec)) namesComparesUptoCard

/-- THE SECOND FORM's CARD OF 'tesseractlaw06.NamesOrder'. -/
def namesOrderUptoCard : Claim7 := { stood := { row := namesOrderUptoRow, standIns := [], harness := (true, "8c47760688d2123e3d86ea739eb4e27e792e065c555e72cf01bd78d17d5cea6d"), looks := false }, kinds := [], alts := [], laidByText := true, laidKinds := [.data, .pinned], laidTests := true, laidLooks := .later }
def NamesOrderUptoCardSaid : Prop := Claim7.holds Tryd.pinned (.plain (OpenSpec.upto namesOrderSpec)) namesOrderUptoCard

/-- THE SECOND FORM's CARD OF 'tesseractlaw06.NamesSide'. -/
def namesSideUptoCard : Claim7 := { stood := { row := namesSideUptoRow, standIns := [], harness := (true, "8c47760688d2123e3d86ea739eb4e27e792e065c555e72cf01bd78d17d5cea6d"), looks := false }, kinds := [], alts := [], laidByText := true, laidKinds := [.data, .pinned], laidTests := true, laidLooks := .later }
def NamesSideUptoCardSaid : Prop := Claim7.holds Tryd.pinned (.plain (OpenSpec.upto namesSideSpec)) namesSideUptoCard
end Rows
end Go.Proofs.YtkhnieadmpahmaaDoor
