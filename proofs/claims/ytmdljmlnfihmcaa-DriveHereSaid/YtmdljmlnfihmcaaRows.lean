/-
  No cell of these rows narrows 'for every input' (looked for: loops, veiled, ifaces, maps, wideKeys, modest, calm, conditions, laid).
  DERIVED. THE GIVEN ROWS OF THIS SEAT. 5 by the template 'for every input the law returns true; each argument reads behind the call as it read before'; 0 by the template 'total and deterministic' (their statements: YtmdljmlnfihmcaaTotals.lean).
  GIVEN WITH THE SEED: the statements are not yours to turn. If you find one false, say at which input.
  Laid BY PROGRAM, IN A SANDBOX (cutbox-rows.mjs): the forced cells as the released guide's own fill.sh prints them over the translation 28806c778883a817… (all of the seat's roots in one cut). By AI agents, Wed Nov 11 2026. No macro, syntax, notation, axiom, sorry.
-/
import Derived.Test.YtmdljmlnfihmcaaChecked
import GoSem.Claim
import GoSem.ClaimJoined
import GoSem.ClaimMapViews
import Derived.JoinedTies
import Derived.KernelRfl
namespace Go.Proofs.Ytmdljmlnfihmcaa
/- THE CELL 'sum', in the pinned program and in every row, IS THE sha256 OF THE DUMP (.gsa) THAT YtmdljmlnfihmcaaProg.lean LOADS. Nothing in Lean hashes anything: it is a label: what it is worth is what the hold of that sum in a sandbox is worth. -/
noncomputable def Try.pinned : Pinned := { name := "ytmdljmlnfihmcaa", sum := "28806c778883a817ac166ee30348838d69d376d4d4e3bfbde419a17ca9c94fcb", checked := Try.checked }
namespace Rows
def none {H : Type} : Left H := { results := [], args := [] }

/-- 'paternosterlaw13.DriveTells': WHATEVER THE INPUT: true; the input reads as it did. -/
def driveTellsSpec : ChangeSpec := { name := "driveTells", fn := fun _ => fun
  | [d1, d2, d3, d4, d5, d6] => { results := [.lit (.bool true)], args := [d1, d2, d3, d4, d5, d6] }
  | _ => none }
def driveTellsRow : OpenClaim := { program := "ytmdljmlnfihmcaa", sum := "28806c778883a817ac166ee30348838d69d376d4d4e3bfbde419a17ca9c94fcb", func := "paternoster/paternosterlaw13.DriveTells", spec := "driveTells", unfollowed := true, recurses := true, apart := false }
def DriveTellsSaid : Prop := driveTellsRow.holds Try.pinned (OpenSpec.ofChange driveTellsSpec)

/-- ITS FALSE NEIGHBOUR: 'it returns false'. Refute it at one input. -/
def driveTellsWrong : ChangeSpec := { name := "driveTells", fn := fun _ => fun
  | [d1, d2, d3, d4, d5, d6] => { results := [.lit (.bool false)], args := [d1, d2, d3, d4, d5, d6] }
  | _ => none }
def DriveTellsWrongFalsely : Prop := driveTellsRow.holds Try.pinned (OpenSpec.ofChange driveTellsWrong)

/-- 'paternosterlaw13.DriveComes': WHATEVER THE INPUT: true; the input reads as it did. -/
def driveComesSpec : ChangeSpec := { name := "driveComes", fn := fun _ => fun
  | [d1, d2, d3, d4] => { results := [.lit (.bool true)], args := [d1, d2, d3, d4] }
  | _ => none }
def driveComesRow : OpenClaim := { program := "ytmdljmlnfihmcaa", sum := "28806c778883a817ac166ee30348838d69d376d4d4e3bfbde419a17ca9c94fcb", func := "paternoster/paternosterlaw13.DriveComes", spec := "driveComes", unfollowed := true, recurses := true, apart := false }
def DriveComesSaid : Prop := driveComesRow.holds Try.pinned (OpenSpec.ofChange driveComesSpec)

/-- ITS FALSE NEIGHBOUR: 'it returns false'. Refute it at one input. -/
def driveComesWrong : ChangeSpec := { name := "driveComes", fn := fun _ => fun
  | [d1, d2, d3, d4] => { results := [.lit (.bool false)], args := [d1, d2, d3, d4] }
  | _ => none }
def DriveComesWrongFalsely : Prop := driveComesRow.holds Try.pinned (OpenSpec.ofChange driveComesWrong)

/-- 'paternosterlaw13.DriveStops': WHATEVER THE INPUT: true; the input reads as it did. -/
def driveStopsSpec : ChangeSpec := { name := "driveStops", fn := fun _ => fun
  | [d1, d2, d3] => { results := [.lit (.bool true)], args := [d1, d2, d3] }
  | _ => none }
def driveStopsRow : OpenClaim := { program := "ytmdljmlnfihmcaa", sum := "28806c778883a817ac166ee30348838d69d376d4d4e3bfbde419a17ca9c94fcb", func := "paternoster/paternosterlaw13.DriveStops", spec := "driveStops", unfollowed := true, recurses := true, apart := false }
def DriveStopsSaid : Prop := driveStopsRow.holds Try.pinned (OpenSpec.ofChange driveStopsSpec)

/-- ITS FALSE NEIGHBOUR: 'it returns false'. Refute it at one input. -/
def driveStopsWrong : ChangeSpec := { name := "driveStops", fn := fun _ => fun
  | [d1, d2, d3] => { results := [.lit (.bool false)], args := [d1, d2, d3] }
  | _ => none }
def DriveStopsWrongFalsely : Prop := driveStopsRow.holds Try.pinned (OpenSpec.ofChange driveStopsWrong)

/-- 'paternosterlaw13.DriveMirror': WHATEVER THE INPUT: true; the input reads as it did. -/
def driveMirrorSpec : ChangeSpec := { name := "driveMirror", fn := fun _ => fun
  | [d1, d2, d3, d4] => { results := [.lit (.bool true)], args := [d1, d2, d3, d4] }
  | _ => none }
def driveMirrorRow : OpenClaim := { program := "ytmdljmlnfihmcaa", sum := "28806c778883a817ac166ee30348838d69d376d4d4e3bfbde419a17ca9c94fcb", func := "paternoster/paternosterlaw13.DriveMirror", spec := "driveMirror", unfollowed := true, recurses := true, apart := false }
def DriveMirrorSaid : Prop := driveMirrorRow.holds Try.pinned (OpenSpec.ofChange driveMirrorSpec)

/-- ITS FALSE NEIGHBOUR: 'it returns false'. Refute it at one input. -/
def driveMirrorWrong : ChangeSpec := { name := "driveMirror", fn := fun _ => fun
  | [d1, d2, d3, d4] => { results := [.lit (.bool false)], args := [d1, d2, d3, d4] }
  | _ => none }
def DriveMirrorWrongFalsely : Prop := driveMirrorRow.holds Try.pinned (OpenSpec.ofChange driveMirrorWrong)

/-- 'paternosterlaw13.DriveHere': WHATEVER THE INPUT: true; the input reads as it did. -/
def driveHereSpec : ChangeSpec := { name := "driveHere", fn := fun _ => fun
  | [d1, d2, d3] => { results := [.lit (.bool true)], args := [d1, d2, d3] }
  | _ => none }
def driveHereRow : OpenClaim := { program := "ytmdljmlnfihmcaa", sum := "28806c778883a817ac166ee30348838d69d376d4d4e3bfbde419a17ca9c94fcb", func := "paternoster/paternosterlaw13.DriveHere", spec := "driveHere", unfollowed := true, recurses := true, apart := false }
def DriveHereSaid : Prop := driveHereRow.holds Try.pinned (OpenSpec.ofChange driveHereSpec)

/-- ITS FALSE NEIGHBOUR: 'it returns false'. Refute it at one input. -/
def driveHereWrong : ChangeSpec := { name := "driveHere", fn := fun _ => fun
  | [d1, d2, d3] => { results := [.lit (.bool false)], args := [d1, d2, d3] }
  | _ => none }
def DriveHereWrongFalsely : Prop := driveHereRow.holds Try.pinned (OpenSpec.ofChange driveHereWrong)

/- THE SECOND FORM. 'bulk': how many values and letters a reading holds, each counted each time it is reached (what is shared counts as often as it is met; a slice's spare places count too). A statement '..UptoSaid' is the law's where the arguments, and the package variables that the reading takes, are together of bulk at most 1048576: NARROWER than '..Said'. Prove '..Said' where nothing that the law and all that it calls make is longer than what came in: it says more and counts as full. Else prove '..UptoSaid'. A law counts once. -/
mutual
def uptoBulk {H : Type} : DataW H → Nat
  | .lit (.string bytes) => bytes.length + 1
  | .lit _ => 1
  | .nil => 1
  | .ptr d => uptoBulk d + 1
  | .slice elems spare => uptoBulkAll elems + uptoBulkAll spare + 1
  | .agg parts => uptoBulkAll parts + 1
  | .iface _ d => uptoBulk d + 1
  | .map entries => uptoBulkEntries entries + 1
  | .held _ => 1
def uptoBulkAll {H : Type} : List (DataW H) → Nat
  | [] => 0
  | d :: r => uptoBulk d + uptoBulkAll r
def uptoBulkEntries {H : Type} : List (Lit × DataW H) → Nat
  | [] => 0
  | x :: r => uptoBulkEntry x + uptoBulkEntries r
def uptoBulkEntry {H : Type} : Lit × DataW H → Nat
  | (.string bytes, d) => bytes.length + uptoBulk d + 1
  | (_, d) => uptoBulk d + 1
 end
def uptoSmall : (H : Type) → List (DataW H) → Bool := fun _ ds => decide (uptoBulkAll ds ≤ 1048576)
def OpenSpec.upto (s : _root_.Go.ChangeSpec) : _root_.Go.OpenSpec := { _root_.Go.OpenSpec.ofChange s with cond := some uptoSmall }

/-- 'paternosterlaw13.DriveTells', WHERE WHAT IT READS IS OF BULK AT MOST 1048576: true; the input reads as it did. -/
def driveTellsUptoRow : OpenClaim := { program := "ytmdljmlnfihmcaa", sum := "28806c778883a817ac166ee30348838d69d376d4d4e3bfbde419a17ca9c94fcb", func := "paternoster/paternosterlaw13.DriveTells", spec := "driveTells", unfollowed := true, recurses := true, apart := false, narrowed := true }
def DriveTellsUptoSaid : Prop := driveTellsUptoRow.holds Try.pinned (OpenSpec.upto driveTellsSpec)

/-- 'paternosterlaw13.DriveComes', WHERE WHAT IT READS IS OF BULK AT MOST 1048576: true; the input reads as it did. -/
def driveComesUptoRow : OpenClaim := { program := "ytmdljmlnfihmcaa", sum := "28806c778883a817ac166ee30348838d69d376d4d4e3bfbde419a17ca9c94fcb", func := "paternoster/paternosterlaw13.DriveComes", spec := "driveComes", unfollowed := true, recurses := true, apart := false, narrowed := true }
def DriveComesUptoSaid : Prop := driveComesUptoRow.holds Try.pinned (OpenSpec.upto driveComesSpec)

/-- 'paternosterlaw13.DriveStops', WHERE WHAT IT READS IS OF BULK AT MOST 1048576: true; the input reads as it did. -/
def driveStopsUptoRow : OpenClaim := { program := "ytmdljmlnfihmcaa", sum := "28806c778883a817ac166ee30348838d69d376d4d4e3bfbde419a17ca9c94fcb", func := "paternoster/paternosterlaw13.DriveStops", spec := "driveStops", unfollowed := true, recurses := true, apart := false, narrowed := true }
def DriveStopsUptoSaid : Prop := driveStopsUptoRow.holds Try.pinned (OpenSpec.upto driveStopsSpec)

/-- 'paternosterlaw13.DriveMirror', WHERE WHAT IT READS IS OF BULK AT MOST 1048576: true; the input reads as it did. -/
def driveMirrorUptoRow : OpenClaim := { program := "ytmdljmlnfihmcaa", sum := "28806c778883a817ac166ee30348838d69d376d4d4e3bfbde419a17ca9c94fcb", func := "paternoster/paternosterlaw13.DriveMirror", spec := "driveMirror", unfollowed := true, recurses := true, apart := false, narrowed := true }
def DriveMirrorUptoSaid : Prop := driveMirrorUptoRow.holds Try.pinned (OpenSpec.upto driveMirrorSpec)

/-- 'paternosterlaw13.DriveHere', WHERE WHAT IT READS IS OF BULK AT MOST 1048576: true; the input reads as it did. -/
def driveHereUptoRow : OpenClaim := { program := "ytmdljmlnfihmcaa", sum := "28806c778883a817ac166ee30348838d69d376d4d4e3bfbde419a17ca9c94fcb", func := "paternoster/paternosterlaw13.DriveHere", spec := "driveHere", unfollowed := true, recurses := true, apart := false, narrowed := true }
def DriveHereUptoSaid : Prop := driveHereUptoRow.holds Try.pinned (OpenSpec.upto driveHereSpec)

end Rows
end Go.Proofs.Ytmdljmlnfihmcaa
