/-
  No cell of these rows narrows 'for every input' (looked for: loops, veiled, ifaces, maps, wideKeys, modest, calm, conditions, laid).
  DERIVED. THE GIVEN ROWS OF THIS SEAT. 6 by the template 'for every input the law returns true; each argument reads behind the call as it read before'; 0 by the template 'total and deterministic' (their statements: YtfmefjpojnbdeaaTotals.lean).
  GIVEN WITH THE SEED: the statements are not yours to turn. If you find one false, say at which input.
  Laid BY PROGRAM, IN A SANDBOX (cutbox-rows.mjs): the forced cells as the released guide's own fill.sh prints them over the translation 594a22e8b7e38a77… (all of the seat's roots in one cut). By AI agents, Wed Nov 11 2026. No macro, syntax, notation, axiom, sorry.
-/
import Derived.Test.YtfmefjpojnbdeaaChecked
import GoSem.Claim
import GoSem.ClaimJoined
import GoSem.ClaimMapViews
import Derived.JoinedTies
import Derived.KernelRfl
namespace Go.Proofs.Ytfmefjpojnbdeaa
/- THE CELL 'sum', in the pinned program and in every row, IS THE sha256 OF THE DUMP (.gsa) THAT YtfmefjpojnbdeaaProg.lean LOADS. Nothing in Lean hashes anything: it is a label: what it is worth is what the hold of that sum in a sandbox is worth. -/
noncomputable def Try.pinned : Pinned := { name := "ytfmefjpojnbdeaa", sum := "594a22e8b7e38a7779adf7868c9a5fe7355291bb2bef64e8dc0266aefdda462e", checked := Try.checked }
namespace Rows
def none {H : Type} : Left H := { results := [], args := [] }

/-- 'paternosterlaw06.PlanTells': WHATEVER THE INPUT: true; the input reads as it did. -/
def planTellsSpec : ChangeSpec := { name := "planTells", fn := fun _ => fun
  | [d1, d2, d3] => { results := [.lit (.bool true)], args := [d1, d2, d3] }
  | _ => none }
def planTellsRow : OpenClaim := { program := "ytfmefjpojnbdeaa", sum := "594a22e8b7e38a7779adf7868c9a5fe7355291bb2bef64e8dc0266aefdda462e", func := "paternoster/paternosterlaw06.PlanTells", spec := "planTells", unfollowed := true, recurses := true, apart := false }
def PlanTellsSaid : Prop := planTellsRow.holds Try.pinned (OpenSpec.ofChange planTellsSpec)

/-- ITS FALSE NEIGHBOUR: 'it returns false'. Refute it at one input. -/
def planTellsWrong : ChangeSpec := { name := "planTells", fn := fun _ => fun
  | [d1, d2, d3] => { results := [.lit (.bool false)], args := [d1, d2, d3] }
  | _ => none }
def PlanTellsWrongFalsely : Prop := planTellsRow.holds Try.pinned (OpenSpec.ofChange planTellsWrong)

/-- 'paternosterlaw06.PlanStops': WHATEVER THE INPUT: true; the input reads as it did. -/
def planStopsSpec : ChangeSpec := { name := "planStops", fn := fun _ => fun
  | [d1, d2] => { results := [.lit (.bool true)], args := [d1, d2] }
  | _ => none }
def planStopsRow : OpenClaim := { program := "ytfmefjpojnbdeaa", sum := "594a22e8b7e38a7779adf7868c9a5fe7355291bb2bef64e8dc0266aefdda462e", func := "paternoster/paternosterlaw06.PlanStops", spec := "planStops", unfollowed := true, recurses := true, apart := false }
def PlanStopsSaid : Prop := planStopsRow.holds Try.pinned (OpenSpec.ofChange planStopsSpec)

/-- ITS FALSE NEIGHBOUR: 'it returns false'. Refute it at one input. -/
def planStopsWrong : ChangeSpec := { name := "planStops", fn := fun _ => fun
  | [d1, d2] => { results := [.lit (.bool false)], args := [d1, d2] }
  | _ => none }
def PlanStopsWrongFalsely : Prop := planStopsRow.holds Try.pinned (OpenSpec.ofChange planStopsWrong)

/-- 'paternosterlaw06.PlanFaster': WHATEVER THE INPUT: true; the input reads as it did. -/
def planFasterSpec : ChangeSpec := { name := "planFaster", fn := fun _ => fun
  | [d1, d2, d3] => { results := [.lit (.bool true)], args := [d1, d2, d3] }
  | _ => none }
def planFasterRow : OpenClaim := { program := "ytfmefjpojnbdeaa", sum := "594a22e8b7e38a7779adf7868c9a5fe7355291bb2bef64e8dc0266aefdda462e", func := "paternoster/paternosterlaw06.PlanFaster", spec := "planFaster", unfollowed := true, recurses := true, apart := false }
def PlanFasterSaid : Prop := planFasterRow.holds Try.pinned (OpenSpec.ofChange planFasterSpec)

/-- ITS FALSE NEIGHBOUR: 'it returns false'. Refute it at one input. -/
def planFasterWrong : ChangeSpec := { name := "planFaster", fn := fun _ => fun
  | [d1, d2, d3] => { results := [.lit (.bool false)], args := [d1, d2, d3] }
  | _ => none }
def PlanFasterWrongFalsely : Prop := planFasterRow.holds Try.pinned (OpenSpec.ofChange planFasterWrong)

/-- 'paternosterlaw06.PlanBrakes': WHATEVER THE INPUT: true; the input reads as it did. -/
def planBrakesSpec : ChangeSpec := { name := "planBrakes", fn := fun _ => fun
  | [d1, d2, d3] => { results := [.lit (.bool true)], args := [d1, d2, d3] }
  | _ => none }
def planBrakesRow : OpenClaim := { program := "ytfmefjpojnbdeaa", sum := "594a22e8b7e38a7779adf7868c9a5fe7355291bb2bef64e8dc0266aefdda462e", func := "paternoster/paternosterlaw06.PlanBrakes", spec := "planBrakes", unfollowed := true, recurses := true, apart := false }
def PlanBrakesSaid : Prop := planBrakesRow.holds Try.pinned (OpenSpec.ofChange planBrakesSpec)

/-- ITS FALSE NEIGHBOUR: 'it returns false'. Refute it at one input. -/
def planBrakesWrong : ChangeSpec := { name := "planBrakes", fn := fun _ => fun
  | [d1, d2, d3] => { results := [.lit (.bool false)], args := [d1, d2, d3] }
  | _ => none }
def PlanBrakesWrongFalsely : Prop := planBrakesRow.holds Try.pinned (OpenSpec.ofChange planBrakesWrong)

/-- 'paternosterlaw06.PlanLeast': WHATEVER THE INPUT: true; the input reads as it did. -/
def planLeastSpec : ChangeSpec := { name := "planLeast", fn := fun _ => fun
  | [d1, d2] => { results := [.lit (.bool true)], args := [d1, d2] }
  | _ => none }
def planLeastRow : OpenClaim := { program := "ytfmefjpojnbdeaa", sum := "594a22e8b7e38a7779adf7868c9a5fe7355291bb2bef64e8dc0266aefdda462e", func := "paternoster/paternosterlaw06.PlanLeast", spec := "planLeast", unfollowed := true, recurses := true, apart := false }
def PlanLeastSaid : Prop := planLeastRow.holds Try.pinned (OpenSpec.ofChange planLeastSpec)

/-- ITS FALSE NEIGHBOUR: 'it returns false'. Refute it at one input. -/
def planLeastWrong : ChangeSpec := { name := "planLeast", fn := fun _ => fun
  | [d1, d2] => { results := [.lit (.bool false)], args := [d1, d2] }
  | _ => none }
def PlanLeastWrongFalsely : Prop := planLeastRow.holds Try.pinned (OpenSpec.ofChange planLeastWrong)

/-- 'paternosterlaw06.PlanRest': WHATEVER THE INPUT: true; the input reads as it did. -/
def planRestSpec : ChangeSpec := { name := "planRest", fn := fun _ => fun
  | [d1, d2] => { results := [.lit (.bool true)], args := [d1, d2] }
  | _ => none }
def planRestRow : OpenClaim := { program := "ytfmefjpojnbdeaa", sum := "594a22e8b7e38a7779adf7868c9a5fe7355291bb2bef64e8dc0266aefdda462e", func := "paternoster/paternosterlaw06.PlanRest", spec := "planRest", unfollowed := true, recurses := true, apart := false }
def PlanRestSaid : Prop := planRestRow.holds Try.pinned (OpenSpec.ofChange planRestSpec)

/-- ITS FALSE NEIGHBOUR: 'it returns false'. Refute it at one input. -/
def planRestWrong : ChangeSpec := { name := "planRest", fn := fun _ => fun
  | [d1, d2] => { results := [.lit (.bool false)], args := [d1, d2] }
  | _ => none }
def PlanRestWrongFalsely : Prop := planRestRow.holds Try.pinned (OpenSpec.ofChange planRestWrong)

/- THE SECOND FORM. 'bulk': how many values and letters a reading holds, each counted each time it is reached (what is shared counts as often as it is met; a slice's spare places count too). A statement '..UptoSaid' is the law's where the arguments, and the package variables that the reading takes, are together of bulk at most 1048576: NARROWER than '..Said'. Prove '..Said' where nothing that the law and all that it calls make is longer than what came in: it says more and counts as full. Else prove '..UptoSaid'. A law counts once. -/
mutual
def uptoBulk {H : Type} : DataW H → Nat
  | .lit (.string bytes) => bytes.length + 1
  | .lit _ => 1
  | .nil => 1
  | .ptr d => uptoBulk d + 1
  | .slice elems spare => uptoBulkAll elems + uptoBulkAll spare + 1
  | .agg parts => uptoBulkAll parts + 1
  | .iface _ d => uptoBulk d + 1
  | .map entries => uptoBulkEntries entries + 1
  | .held _ => 1
def uptoBulkAll {H : Type} : List (DataW H) → Nat
  | [] => 0
  | d :: r => uptoBulk d + uptoBulkAll r
def uptoBulkEntries {H : Type} : List (Lit × DataW H) → Nat
  | [] => 0
  | x :: r => uptoBulkEntry x + uptoBulkEntries r
def uptoBulkEntry {H : Type} : Lit × DataW H → Nat
  | (.string bytes, d) => bytes.length + uptoBulk d + 1
  | (_, d) => uptoBulk d + 1
 end
def uptoSmall : (H : Type) → List (DataW H) → Bool := fun _ ds => decide (uptoBulkAll ds ≤ 1048576)
def OpenSpec.upto (s : _root_.Go.ChangeSpec) : _root_.Go.OpenSpec := { _root_.Go.OpenSpec.ofChange s with cond := some uptoSmall }

/-- 'paternosterlaw06.PlanTells', WHERE WHAT IT READS IS OF BULK AT MOST 1048576: true; the input reads as it did. -/
def planTellsUptoRow : OpenClaim := { program := "ytfmefjpojnbdeaa", sum := "594a22e8b7e38a7779adf7868c9a5fe7355291bb2bef64e8dc0266aefdda462e", func := "paternoster/paternosterlaw06.PlanTells", spec := "planTells", unfollowed := true, recurses := true, apart := false, narrowed := true }
def PlanTellsUptoSaid : Prop := planTellsUptoRow.holds Try.pinned (OpenSpec.upto planTellsSpec)

/-- 'paternosterlaw06.PlanStops', WHERE WHAT IT READS IS OF BULK AT MOST 1048576: true; the input reads as it did. -/
def planStopsUptoRow : OpenClaim := { program := "ytfmefjpojnbdeaa", sum := "594a22e8b7e38a7779adf7868c9a5fe7355291bb2bef64e8dc0266aefdda462e", func := "paternoster/paternosterlaw06.PlanStops", spec := "planStops", unfollowed := true, recurses := true, apart := false, narrowed := true }
def PlanStopsUptoSaid : Prop := planStopsUptoRow.holds Try.pinned (OpenSpec.upto planStopsSpec)

/-- 'paternosterlaw06.PlanFaster', WHERE WHAT IT READS IS OF BULK AT MOST 1048576: true; the input reads as it did. -/
def planFasterUptoRow : OpenClaim := { program := "ytfmefjpojnbdeaa", sum := "594a22e8b7e38a7779adf7868c9a5fe7355291bb2bef64e8dc0266aefdda462e", func := "paternoster/paternosterlaw06.PlanFaster", spec := "planFaster", unfollowed := true, recurses := true, apart := false, narrowed := true }
def PlanFasterUptoSaid : Prop := planFasterUptoRow.holds Try.pinned (OpenSpec.upto planFasterSpec)

/-- 'paternosterlaw06.PlanBrakes', WHERE WHAT IT READS IS OF BULK AT MOST 1048576: true; the input reads as it did. -/
def planBrakesUptoRow : OpenClaim := { program := "ytfmefjpojnbdeaa", sum := "594a22e8b7e38a7779adf7868c9a5fe7355291bb2bef64e8dc0266aefdda462e", func := "paternoster/paternosterlaw06.PlanBrakes", spec := "planBrakes", unfollowed := true, recurses := true, apart := false, narrowed := true }
def PlanBrakesUptoSaid : Prop := planBrakesUptoRow.holds Try.pinned (OpenSpec.upto planBrakesSpec)

/-- 'paternosterlaw06.PlanLeast', WHERE WHAT IT READS IS OF BULK AT MOST 1048576: true; the input reads as it did. -/
def planLeastUptoRow : OpenClaim := { program := "ytfmefjpojnbdeaa", sum := "594a22e8b7e38a7779adf7868c9a5fe7355291bb2bef64e8dc0266aefdda462e", func := "paternoster/paternosterlaw06.PlanLeast", spec := "planLeast", unfollowed := true, recurses := true, apart := false, narrowed := true }
def PlanLeastUptoSaid : Prop := planLeastUptoRow.holds Try.pinned (OpenSpec.upto planLeastSpec)

/-- 'paternosterlaw06.PlanRest', WHERE WHAT IT READS IS OF BULK AT MOST 1048576: true; the input reads as it did. -/
def planRestUptoRow : OpenClaim := { program := "ytfmefjpojnbdeaa", sum := "594a22e8b7e38a7779adf7868c9a5fe7355291bb2bef64e8dc0266aefdda462e", func := "paternoster/paternosterlaw06.PlanRest", spec := "planRest", unfollowed := true, recurses := true, apart := false, narrowed := true }
def PlanRestUptoSaid : Prop := planRestUptoRow.holds Try.pinned (OpenSpec.upto planRestSpec)

end Rows
end Go.Proofs.Ytfmefjpojnbdeaa
