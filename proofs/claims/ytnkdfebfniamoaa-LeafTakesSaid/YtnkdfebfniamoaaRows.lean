/-
  No cell of these rows narrows 'for every input' (looked for: loops, veiled, ifaces, maps, wideKeys, modest, calm, conditions, laid).
  DERIVED. THE GIVEN ROWS OF THIS SEAT. 4 by the template 'for every input the law returns true; each argument reads behind the call as it read before'; 0 by the template 'total and deterministic' (their statements: YtnkdfebfniamoaaTotals.lean).
  GIVEN WITH THE SEED: the statements are not yours to turn. If you find one false, say at which input.
  Laid BY PROGRAM, IN A SANDBOX (cutbox-rows.mjs): the forced cells as the released guide's own fill.sh prints them over the translation 2ba720be2ffd6b18… (all of the seat's roots in one cut). By AI agents, Wed Nov 11 2026. No macro, syntax, notation, axiom, sorry.
-/
import Derived.Test.YtnkdfebfniamoaaChecked
import GoSem.Claim
import GoSem.ClaimJoined
import GoSem.ClaimMapViews
import Derived.JoinedTies
import Derived.KernelRfl
namespace Go.Proofs.Ytnkdfebfniamoaa
/- THE CELL 'sum', in the pinned program and in every row, IS THE sha256 OF THE DUMP (.gsa) THAT YtnkdfebfniamoaaProg.lean LOADS. Nothing in Lean hashes anything: it is a label: what it is worth is what the hold of that sum in a sandbox is worth. -/
noncomputable def Try.pinned : Pinned := { name := "ytnkdfebfniamoaa", sum := "2ba720be2ffd6b1874d9f05745209ad8d5ec802d77d4e597a1a30d6975425de9", checked := Try.checked }
namespace Rows
def none {H : Type} : Left H := { results := [], args := [] }

/-- 'paternosterlaw08.LeafSteps': WHATEVER THE INPUT: true; the input reads as it did. -/
def leafStepsSpec : ChangeSpec := { name := "leafSteps", fn := fun _ => fun
  | [d1, d2, d3, d4] => { results := [.lit (.bool true)], args := [d1, d2, d3, d4] }
  | _ => none }
def leafStepsRow : OpenClaim := { program := "ytnkdfebfniamoaa", sum := "2ba720be2ffd6b1874d9f05745209ad8d5ec802d77d4e597a1a30d6975425de9", func := "paternoster/paternosterlaw08.LeafSteps", spec := "leafSteps", apart := false }
def LeafStepsSaid : Prop := leafStepsRow.holds Try.pinned (OpenSpec.ofChange leafStepsSpec)

/-- ITS FALSE NEIGHBOUR: 'it returns false'. Refute it at one input. -/
def leafStepsWrong : ChangeSpec := { name := "leafSteps", fn := fun _ => fun
  | [d1, d2, d3, d4] => { results := [.lit (.bool false)], args := [d1, d2, d3, d4] }
  | _ => none }
def LeafStepsWrongFalsely : Prop := leafStepsRow.holds Try.pinned (OpenSpec.ofChange leafStepsWrong)

/-- 'paternosterlaw08.LeafTakes': WHATEVER THE INPUT: true; the input reads as it did. -/
def leafTakesSpec : ChangeSpec := { name := "leafTakes", fn := fun _ => fun
  | [d1, d2, d3] => { results := [.lit (.bool true)], args := [d1, d2, d3] }
  | _ => none }
def leafTakesRow : OpenClaim := { program := "ytnkdfebfniamoaa", sum := "2ba720be2ffd6b1874d9f05745209ad8d5ec802d77d4e597a1a30d6975425de9", func := "paternoster/paternosterlaw08.LeafTakes", spec := "leafTakes", apart := false }
def LeafTakesSaid : Prop := leafTakesRow.holds Try.pinned (OpenSpec.ofChange leafTakesSpec)

/-- ITS FALSE NEIGHBOUR: 'it returns false'. Refute it at one input. -/
def leafTakesWrong : ChangeSpec := { name := "leafTakes", fn := fun _ => fun
  | [d1, d2, d3] => { results := [.lit (.bool false)], args := [d1, d2, d3] }
  | _ => none }
def LeafTakesWrongFalsely : Prop := leafTakesRow.holds Try.pinned (OpenSpec.ofChange leafTakesWrong)

/-- 'paternosterlaw08.LeafBounds': WHATEVER THE INPUT: true; the input reads as it did. -/
def leafBoundsSpec : ChangeSpec := { name := "leafBounds", fn := fun _ => fun
  | [d1, d2, d3] => { results := [.lit (.bool true)], args := [d1, d2, d3] }
  | _ => none }
def leafBoundsRow : OpenClaim := { program := "ytnkdfebfniamoaa", sum := "2ba720be2ffd6b1874d9f05745209ad8d5ec802d77d4e597a1a30d6975425de9", func := "paternoster/paternosterlaw08.LeafBounds", spec := "leafBounds", apart := false }
def LeafBoundsSaid : Prop := leafBoundsRow.holds Try.pinned (OpenSpec.ofChange leafBoundsSpec)

/-- ITS FALSE NEIGHBOUR: 'it returns false'. Refute it at one input. -/
def leafBoundsWrong : ChangeSpec := { name := "leafBounds", fn := fun _ => fun
  | [d1, d2, d3] => { results := [.lit (.bool false)], args := [d1, d2, d3] }
  | _ => none }
def LeafBoundsWrongFalsely : Prop := leafBoundsRow.holds Try.pinned (OpenSpec.ofChange leafBoundsWrong)

/-- 'paternosterlaw08.LeafBack': WHATEVER THE INPUT: true; the input reads as it did. -/
def leafBackSpec : ChangeSpec := { name := "leafBack", fn := fun _ => fun
  | [d1, d2] => { results := [.lit (.bool true)], args := [d1, d2] }
  | _ => none }
def leafBackRow : OpenClaim := { program := "ytnkdfebfniamoaa", sum := "2ba720be2ffd6b1874d9f05745209ad8d5ec802d77d4e597a1a30d6975425de9", func := "paternoster/paternosterlaw08.LeafBack", spec := "leafBack", apart := false }
def LeafBackSaid : Prop := leafBackRow.holds Try.pinned (OpenSpec.ofChange leafBackSpec)

/-- ITS FALSE NEIGHBOUR: 'it returns false'. Refute it at one input. -/
def leafBackWrong : ChangeSpec := { name := "leafBack", fn := fun _ => fun
  | [d1, d2] => { results := [.lit (.bool false)], args := [d1, d2] }
  | _ => none }
def LeafBackWrongFalsely : Prop := leafBackRow.holds Try.pinned (OpenSpec.ofChange leafBackWrong)

/- THE SECOND FORM. 'bulk': how many values and letters a reading holds, each counted each time it is reached (what is shared counts as often as it is met; a slice's spare places count too). A statement '..UptoSaid' is the law's where the arguments, and the package variables that the reading takes, are together of bulk at most 1048576: NARROWER than '..Said'. Prove '..Said' where nothing that the law and all that it calls make is longer than what came in: it says more and counts as full. Else prove '..UptoSaid'. A law counts once. -/
mutual
def uptoBulk {H : Type} : DataW H → Nat
  | .lit (.string bytes) => bytes.length + 1
  | .lit _ => 1
  | .nil => 1
  | .ptr d => uptoBulk d + 1
  | .slice elems spare => uptoBulkAll elems + uptoBulkAll spare + 1
  | .agg parts => uptoBulkAll parts + 1
  | .iface _ d => uptoBulk d + 1
  | .map entries => uptoBulkEntries entries + 1
  | .held _ => 1
def uptoBulkAll {H : Type} : List (DataW H) → Nat
  | [] => 0
  | d :: r => uptoBulk d + uptoBulkAll r
def uptoBulkEntries {H : Type} : List (Lit × DataW H) → Nat
  | [] => 0
  | x :: r => uptoBulkEntry x + uptoBulkEntries r
def uptoBulkEntry {H : Type} : Lit × DataW H → Nat
  | (.string bytes, d) => bytes.length + uptoBulk d + 1
  | (_, d) => uptoBulk d + 1
 end
def uptoSmall : (H : Type) → List (DataW H) → Bool := fun _ ds => decide (uptoBulkAll ds ≤ 1048576)
def OpenSpec.upto (s : _root_.Go.ChangeSpec) : _root_.Go.OpenSpec := { _root_.Go.OpenSpec.ofChange s with cond := some uptoSmall }

/-- 'paternosterlaw08.LeafSteps', WHERE WHAT IT READS IS OF BULK AT MOST 1048576: true; the input reads as it did. -/
def leafStepsUptoRow : OpenClaim := { program := "ytnkdfebfniamoaa", sum := "2ba720be2ffd6b1874d9f05745209ad8d5ec802d77d4e597a1a30d6975425de9", func := "paternoster/paternosterlaw08.LeafSteps", spec := "leafSteps", apart := false, narrowed := true }
def LeafStepsUptoSaid : Prop := leafStepsUptoRow.holds Try.pinned (OpenSpec.upto leafStepsSpec)

/-- 'paternosterlaw08.LeafTakes', WHERE WHAT IT READS IS OF BULK AT MOST 1048576: true; the input reads as it did. -/
def leafTakesUptoRow : OpenClaim := { program := "ytnkdfebfniamoaa", sum := "2ba720be2ffd6b1874d9f05745209ad8d5ec802d77d4e597a1a30d6975425de9", func := "paternoster/paternosterlaw08.LeafTakes", spec := "leafTakes", apart := false, narrowed := true }
def LeafTakesUptoSaid : Prop := leafTakesUptoRow.holds Try.pinned (OpenSpec.upto leafTakesSpec)

/-- 'paternosterlaw08.LeafBounds', WHERE WHAT IT READS IS OF BULK AT MOST 1048576: true; the input reads as it did. -/
def leafBoundsUptoRow : OpenClaim := { program := "ytnkdfebfniamoaa", sum := "2ba720be2ffd6b1874d9f05745209ad8d5ec802d77d4e597a1a30d6975425de9", func := "paternoster/paternosterlaw08.LeafBounds", spec := "leafBounds", apart := false, narrowed := true }
def LeafBoundsUptoSaid : Prop := leafBoundsUptoRow.holds Try.pinned (OpenSpec.upto leafBoundsSpec)

/-- 'paternosterlaw08.LeafBack', WHERE WHAT IT READS IS OF BULK AT MOST 1048576: true; the input reads as it did. -/
def leafBackUptoRow : OpenClaim := { program := "ytnkdfebfniamoaa", sum := "2ba720be2ffd6b1874d9f05745209ad8d5ec802d77d4e597a1a30d6975425de9", func := "paternoster/paternosterlaw08.LeafBack", spec := "leafBack", apart := false, narrowed := true }
def LeafBackUptoSaid : Prop := leafBackUptoRow.holds Try.pinned (OpenSpec.upto leafBackSpec)

end Rows
end Go.Proofs.Ytnkdfebfniamoaa
