/-
  DERIVED. GIVEN WITH THE SEED: THE CARDS: each row of YtgbgbodhpahceaaDoorRows.lean that lists a variable, with what it lists TIED to the program's text (the seventh form; the later family's looks); each row that meets fmt, with fmt's text TOLD by the authors' own Lean function (tested against real Go, not proved from fmt's source: count such statements apart). THE CARD IS WHAT COUNTS. Prove the row's statement (the work); the ties are given (YtgbgbodhpahceaaDoorTie.lean); close each card by the builder's one call (the guide's Derived/Test/ToyasCard.lean, 'card_holds'). Laid BY PROGRAM, IN A SANDBOX (cutbox-door.mjs). By AI agents, Wed Nov 11 2026. No macro, syntax, notation, axiom, sorry.
-/
import Derived.Test.YtgbgbodhpahceaaDoorRows
import GoSem.ClaimSeven
namespace Go.Proofs.YtgbgbodhpahceaaDoor
namespace Rows

/-- THE TIED CARD OF 'paternosterlaw16.JournalPuts'. -/
def journalPutsCard : Claim7 := { stood := { row := journalPutsRow, standIns := [], harness := (true, "caaf4d7de4e0f0fd877e90b5c91ada9c1f42f8e3881905ed3b03fa6ea1044ed5"), looks := false }, kinds := [], alts := [], laidByText := true, laidKinds := [.data], laidTests := true, laidLooks := .later }
def JournalPutsCardSaid : Prop := Claim7.holds Tryd.pinned (.plain (OpenSpec.ofChange journalPutsSpec)) journalPutsCard

/-- THE TIED CARD OF 'paternosterlaw16.JournalPlays'. -/
def journalPlaysCard : Claim7 := { stood := { row := journalPlaysRow, standIns := [], harness := (true, "caaf4d7de4e0f0fd877e90b5c91ada9c1f42f8e3881905ed3b03fa6ea1044ed5"), looks := false }, kinds := [], alts := [], laidByText := true, laidKinds := [.data], laidTests := true, laidLooks := .later }
def JournalPlaysCardSaid : Prop := Claim7.holds Tryd.pinned (.plain (OpenSpec.ofChange journalPlaysSpec)) journalPlaysCard

/-- THE TIED CARD OF 'paternosterlaw16.JournalBack'. -/
def journalBackCard : Claim7 := { stood := { row := journalBackRow, standIns := [], harness := (true, "caaf4d7de4e0f0fd877e90b5c91ada9c1f42f8e3881905ed3b03fa6ea1044ed5"), looks := false }, kinds := [], alts := [], laidByText := true, laidKinds := [.data], laidTests := true, laidLooks := .later }
def JournalBackCardSaid : Prop := Claim7.holds Tryd.pinned (.plain (OpenSpec.ofChange journalBackSpec)) journalBackCard

/-- THE TIED CARD OF 'paternosterlaw16.JournalAhead'. -/
def journalAheadCard : Claim7 := { stood := { row := journalAheadRow, standIns := [], harness := (true, "caaf4d7de4e0f0fd877e90b5c91ada9c1f42f8e3881905ed3b03fa6ea1044ed5"), looks := false }, kinds := [], alts := [], laidByText := true, laidKinds := [.data], laidTests := true, laidLooks := .later }
def JournalAheadCardSaid : Prop := Claim7.holds Tryd.pinned (.plain (OpenSpec.ofChange journalAheadSpec)) journalAheadCard

/-- THE TIED CARD OF 'paternosterlaw16.JournalTurns'. -/
def journalTurnsCard : Claim7 := { stood := { row := journalTurnsRow, standIns := [], harness := (true, "caaf4d7de4e0f0fd877e90b5c91ada9c1f42f8e3881905ed3b03fa6ea1044ed5"), looks := false }, kinds := [], alts := [], laidByText := true, laidKinds := [.data], laidTests := true, laidLooks := .later }
def JournalTurnsCardSaid : Prop := Claim7.holds Tryd.pinned (.plain (OpenSpec.ofChange journalTurnsSpec)) journalTurnsCard

/-- THE TIED CARD OF 'paternosterlaw16.JournalNone'. -/
def journalNoneCard : Claim7 := { stood := { row := journalNoneRow, standIns := [], harness := (true, "caaf4d7de4e0f0fd877e90b5c91ada9c1f42f8e3881905ed3b03fa6ea1044ed5"), looks := false }, kinds := [], alts := [], laidByText := true, laidKinds := [.data], laidTests := true, laidLooks := .later }
def JournalNoneCardSaid : Prop := Claim7.holds Tryd.pinned (.plain (OpenSpec.ofChange journalNoneSpec)) journalNoneCard

/-- THE SECOND FORM's CARD OF 'paternosterlaw16.JournalPuts'. -/
def journalPutsUptoCard : Claim7 := { stood := { row := journalPutsUptoRow, standIns := [], harness := (true, "caaf4d7de4e0f0fd877e90b5c91ada9c1f42f8e3881905ed3b03fa6ea1044ed5"), looks := false }, kinds := [], alts := [], laidByText := true, laidKinds := [.data], laidTests := true, laidLooks := .later }
def JournalPutsUptoCardSaid : Prop := Claim7.holds Tryd.pinned (.plain (OpenSpec.upto journalPutsSpec)) journalPutsUptoCard

/-- THE SECOND FORM's CARD OF 'paternosterlaw16.JournalPlays'. -/
def journalPlaysUptoCard : Claim7 := { stood := { row := journalPlaysUptoRow, standIns := [], harness := (true, "caaf4d7de4e0f0fd877e90b5c91ada9c1f42f8e3881905ed3b03fa6ea1044ed5"), looks := false }, kinds := [], alts := [], laidByText := true, laidKinds := [.data], laidTests := true, laidLooks := .later }
def JournalPlaysUptoCardSaid : Prop := Claim7.holds Tryd.pinned (.plain (OpenSpec.upto journalPlaysSpec)) journalPlaysUptoCard

/-- THE SECOND FORM's CARD OF 'paternosterlaw16.JournalBack'. -/
def journalBackUptoCard : Claim7 := { stood := { row := journalBackUptoRow, standIns := [], harness := (true, "caaf4d7de4e0f0fd877e90b5c91ada9c1f42f8e3881905ed3b03fa6ea1044ed5"), looks := false }, kinds := [], alts := [], laidByText := true, laidKinds := [.data], laidTests := true, laidLooks := .later }
def JournalBackUptoCardSaid : Prop := Claim7.holds Tryd.pinned (.plain (OpenSpec.upto journalBackSpec)) journalBackUptoCard

/-- THE SECOND FORM's CARD OF 'paternosterlaw16.JournalAhead'. -/
def journalAheadUptoCard : Claim7 := { stood := { row := journalAheadUptoRow, standIns := [], harness := (true, "caaf4d7de4e0f0fd877e90b5c91ada9c1f42f8e3881905ed3b03fa6ea1044ed5"), looks := false }, kinds := [], alts := [], laidByText := true, laidKinds := [.data], laidTests := true, laidLooks := .later }
def JournalAheadUptoCardSaid : Prop := Claim7.holds Tryd.pinned (.plain (OpenSpec.upto journalAheadSpec)) journalAheadUptoCard

/-- THE SECOND FORM's CARD OF 'paternosterlaw16.JournalTurns'. -/
def journalTurnsUptoCard : Claim7 := { stood := { row := journalTurnsUptoRow, standIns := [], harness := (true, "caaf4d7de4e0f0fd877e90b5c91ada9c1f42f8e3881905ed3b03fa6ea1044ed5"), looks := false }, kinds := [], alts := [], laidByText := true, laidKinds := [.data], laidTests := true, laidLooks := .later }
def JournalTurnsUptoCardSaid : Prop := Claim7.holds Tryd.pinned (.plain (OpenSpec.upto journalTurnsSpec)) journalTurnsUptoCard

/-- THE SECOND FORM's CARD OF 'paternosterlaw16.JournalNone'. -/
def journalNoneUptoCard : Claim7 := { stood := { row := journalNoneUptoRow, standIns := [], harness := (true, "caaf4d7de4e0f0fd877e90b5c91ada9c1f42f8e3881905ed3b03fa6ea1044ed5"), looks := false }, kinds := [], alts := [], laidByText := true, laidKinds := [.data], laidTests := true, laidLooks := .later }
def JournalNoneUptoCardSaid : Prop := Claim7.holds Tryd.pinned (.plain (OpenSpec.upto journalNoneSpec)) journalNoneUptoCard
end Rows
end Go.Proofs.YtgbgbodhpahceaaDoor
