/-
  DERIVED. GIVEN WITH THE SEED: THE CARDS: each row of YtjedkkkhficmoaaDoorRows.lean that lists a variable, with what it lists TIED to the program's text (the seventh form; the later family's looks); each row that meets fmt, with fmt's text TOLD by the authors' own Lean function (tested against real Go, not proved from fmt's source: count such statements apart). THE CARD IS WHAT COUNTS. Prove the row's statement (the work); the ties are given (YtjedkkkhficmoaaDoorTie.lean); close each card by the builder's one call (the guide's Derived/Test/ToyasCard.lean, 'card_holds'). Laid BY PROGRAM, IN A SANDBOX (cutbox-door.mjs). By AI agents, Wed Nov 11 2026. No macro, syntax, notation, axiom, sorry.
-/
import Derived.Test.YtjedkkkhficmoaaDoorRows
import GoSem.ClaimSeven
namespace Go.Proofs.YtjedkkkhficmoaaDoor
namespace Rows

/-- THE TIED CARD OF 'paternosterlaw17.MendTells'. -/
def mendTellsCard : Claim7 := { stood := { row := mendTellsRow, standIns := [], harness := (true, "05b01b1524ea47fb9f32e016c3ee1005e9d75b85e5527cb968fe33fdf939f7e8"), looks := false }, kinds := [], alts := [], laidByText := true, laidKinds := [.data], laidTests := true, laidLooks := .later }
def MendTellsCardSaid : Prop := Claim7.holds Tryd.pinned (.plain (OpenSpec.ofChange mendTellsSpec)) mendTellsCard

/-- THE TIED CARD OF 'paternosterlaw17.MendSafe'. -/
def mendSafeCard : Claim7 := { stood := { row := mendSafeRow, standIns := [], harness := (true, "05b01b1524ea47fb9f32e016c3ee1005e9d75b85e5527cb968fe33fdf939f7e8"), looks := false }, kinds := [], alts := [], laidByText := true, laidKinds := [.data], laidTests := true, laidLooks := .later }
def MendSafeCardSaid : Prop := Claim7.holds Tryd.pinned (.plain (OpenSpec.ofChange mendSafeSpec)) mendSafeCard

/-- THE TIED CARD OF 'paternosterlaw17.MendNone'. -/
def mendNoneCard : Claim7 := { stood := { row := mendNoneRow, standIns := [], harness := (true, "05b01b1524ea47fb9f32e016c3ee1005e9d75b85e5527cb968fe33fdf939f7e8"), looks := false }, kinds := [], alts := [], laidByText := true, laidKinds := [.data], laidTests := true, laidLooks := .later }
def MendNoneCardSaid : Prop := Claim7.holds Tryd.pinned (.plain (OpenSpec.ofChange mendNoneSpec)) mendNoneCard

/-- THE TIED CARD OF 'paternosterlaw17.MendFirst'. -/
def mendFirstCard : Claim7 := { stood := { row := mendFirstRow, standIns := [], harness := (true, "05b01b1524ea47fb9f32e016c3ee1005e9d75b85e5527cb968fe33fdf939f7e8"), looks := false }, kinds := [], alts := [], laidByText := true, laidKinds := [.data], laidTests := true, laidLooks := .later }
def MendFirstCardSaid : Prop := Claim7.holds Tryd.pinned (.plain (OpenSpec.ofChange mendFirstSpec)) mendFirstCard

/-- THE SECOND FORM's CARD OF 'paternosterlaw17.MendTells'. -/
def mendTellsUptoCard : Claim7 := { stood := { row := mendTellsUptoRow, standIns := [], harness := (true, "05b01b1524ea47fb9f32e016c3ee1005e9d75b85e5527cb968fe33fdf939f7e8"), looks := false }, kinds := [], alts := [], laidByText := true, laidKinds := [.data], laidTests := true, laidLooks := .later }
def MendTellsUptoCardSaid : Prop := Claim7.holds Tryd.pinned (.plain (OpenSpec.upto mendTellsSpec)) mendTellsUptoCard

/-- THE SECOND FORM's CARD OF 'paternosterlaw17.MendSafe'. -/
def mendSafeUptoCard : Claim7 := { stood := { row := mendSafeUptoRow, standIns := [], harness := (true, "05b01b1524ea47fb9f32e016c3ee1005e9d75b85e5527cb968fe33fdf939f7e8"), looks := false }, kinds := [], alts := [], laidByText := true, laidKinds := [.data], laidTests := true, laidLooks := .later }
def MendSafeUptoCardSaid : Prop := Claim7.holds Tryd.pinned (.plain (OpenSpec.upto mendSafeSpec)) mendSafeUptoCard

/-- THE SECOND FORM's CARD OF 'paternosterlaw17.MendNone'. -/
def mendNoneUptoCard : Claim7 := { stood := { row := mendNoneUptoRow, standIns := [], harness := (true, "05b01b1524ea47fb9f32e016c3ee1005e9d75b85e5527cb968fe33fdf939f7e8"), looks := false }, kinds := [], alts := [], laidByText := true, laidKinds := [.data], laidTests := true, laidLooks := .later }
def MendNoneUptoCardSaid : Prop := Claim7.holds Tryd.pinned (.plain (OpenSpec.upto mendNoneSpec)) mendNoneUptoCard

/-- THE SECOND FORM's CARD OF 'paternosterlaw17.MendFirst'. -/
def mendFirstUptoCard : Claim7 := { stood := { row := mendFirstUptoRow, standIns := [], harness := (true, "05b01b1524ea47fb9f32e016c3ee1005e9d75b85e5527cb968fe33fdf939f7e8"), looks := false }, kinds := [], alts := [], laidByText := true, laidKinds := [.data], laidTests := true, laidLooks := .later }
def MendFirstUptoCardSaid : Prop := Claim7.holds Tryd.pinned (.plain (OpenSpec.upto mendFirstSpec)) mendFirstUptoCard
end Rows
end Go.Proofs.YtjedkkkhficmoaaDoor
