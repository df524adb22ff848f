/-
  No cell of these rows narrows 'for every input' (looked for: loops, veiled, ifaces, maps, wideKeys, modest, calm, conditions, laid).
  DERIVED. THE GIVEN ROWS OF THIS SEAT. 4 by the template 'for every input the law returns true; each argument reads behind the call as it read before'; 0 by the template 'total and deterministic' (their statements: YtalkngnejnkemaaTotals.lean).
  GIVEN WITH THE SEED: the statements are not yours to turn. If you find one false, say at which input.
  Laid BY PROGRAM, IN A SANDBOX (cutbox-rows.mjs): the forced cells as the released guide's own fill.sh prints them over the translation bbe5d27a0105c795… (all of the seat's roots in one cut). By AI agents, Wed Nov 11 2026. No macro, syntax, notation, axiom, sorry.
-/
import Derived.Test.YtalkngnejnkemaaChecked
import GoSem.Claim
import GoSem.ClaimJoined
import GoSem.ClaimMapViews
import Derived.JoinedTies
import Derived.KernelRfl
namespace Go.Proofs.Ytalkngnejnkemaa
/- THE CELL 'sum', in the pinned program and in every row, IS THE sha256 OF THE DUMP (.gsa) THAT YtalkngnejnkemaaProg.lean LOADS. Nothing in Lean hashes anything: it is a label: what it is worth is what the hold of that sum in a sandbox is worth. -/
noncomputable def Try.pinned : Pinned := { name := "ytalkngnejnkemaa", sum := "bbe5d27a0105c7959b9289f8091bf1349585175c2e4dd91a2c76465c2fab2c56", checked := Try.checked }
namespace Rows
def none {H : Type} : Left H := { results := [], args := [] }

/-- 'paternosterlaw20.TurnTells': WHATEVER THE INPUT: true; the input reads as it did. -/
def turnTellsSpec : ChangeSpec := { name := "turnTells", fn := fun _ => fun
  | [d1, d2, d3] => { results := [.lit (.bool true)], args := [d1, d2, d3] }
  | _ => none }
def turnTellsRow : OpenClaim := { program := "ytalkngnejnkemaa", sum := "bbe5d27a0105c7959b9289f8091bf1349585175c2e4dd91a2c76465c2fab2c56", func := "paternoster/paternosterlaw20.TurnTells", spec := "turnTells", unfollowed := true, recurses := true, apart := false }
def TurnTellsSaid : Prop := turnTellsRow.holds Try.pinned (OpenSpec.ofChange turnTellsSpec)

/-- ITS FALSE NEIGHBOUR: 'it returns false'. Refute it at one input. -/
def turnTellsWrong : ChangeSpec := { name := "turnTells", fn := fun _ => fun
  | [d1, d2, d3] => { results := [.lit (.bool false)], args := [d1, d2, d3] }
  | _ => none }
def TurnTellsWrongFalsely : Prop := turnTellsRow.holds Try.pinned (OpenSpec.ofChange turnTellsWrong)

/-- 'paternosterlaw20.TurnReady': WHATEVER THE INPUT: true; the input reads as it did. -/
def turnReadySpec : ChangeSpec := { name := "turnReady", fn := fun _ => fun
  | [d1, d2] => { results := [.lit (.bool true)], args := [d1, d2] }
  | _ => none }
def turnReadyRow : OpenClaim := { program := "ytalkngnejnkemaa", sum := "bbe5d27a0105c7959b9289f8091bf1349585175c2e4dd91a2c76465c2fab2c56", func := "paternoster/paternosterlaw20.TurnReady", spec := "turnReady", unfollowed := true, recurses := true, apart := false }
def TurnReadySaid : Prop := turnReadyRow.holds Try.pinned (OpenSpec.ofChange turnReadySpec)

/-- ITS FALSE NEIGHBOUR: 'it returns false'. Refute it at one input. -/
def turnReadyWrong : ChangeSpec := { name := "turnReady", fn := fun _ => fun
  | [d1, d2] => { results := [.lit (.bool false)], args := [d1, d2] }
  | _ => none }
def TurnReadyWrongFalsely : Prop := turnReadyRow.holds Try.pinned (OpenSpec.ofChange turnReadyWrong)

/-- 'paternosterlaw20.TurnRounds': WHATEVER THE INPUT: true; the input reads as it did. -/
def turnRoundsSpec : ChangeSpec := { name := "turnRounds", fn := fun _ => fun
  | [d1, d2, d3] => { results := [.lit (.bool true)], args := [d1, d2, d3] }
  | _ => none }
def turnRoundsRow : OpenClaim := { program := "ytalkngnejnkemaa", sum := "bbe5d27a0105c7959b9289f8091bf1349585175c2e4dd91a2c76465c2fab2c56", func := "paternoster/paternosterlaw20.TurnRounds", spec := "turnRounds", unfollowed := true, recurses := true, apart := false }
def TurnRoundsSaid : Prop := turnRoundsRow.holds Try.pinned (OpenSpec.ofChange turnRoundsSpec)

/-- ITS FALSE NEIGHBOUR: 'it returns false'. Refute it at one input. -/
def turnRoundsWrong : ChangeSpec := { name := "turnRounds", fn := fun _ => fun
  | [d1, d2, d3] => { results := [.lit (.bool false)], args := [d1, d2, d3] }
  | _ => none }
def TurnRoundsWrongFalsely : Prop := turnRoundsRow.holds Try.pinned (OpenSpec.ofChange turnRoundsWrong)

/-- 'paternosterlaw20.TurnHand': WHATEVER THE INPUT: true; the input reads as it did. -/
def turnHandSpec : ChangeSpec := { name := "turnHand", fn := fun _ => fun
  | [d1, d2, d3, d4] => { results := [.lit (.bool true)], args := [d1, d2, d3, d4] }
  | _ => none }
def turnHandRow : OpenClaim := { program := "ytalkngnejnkemaa", sum := "bbe5d27a0105c7959b9289f8091bf1349585175c2e4dd91a2c76465c2fab2c56", func := "paternoster/paternosterlaw20.TurnHand", spec := "turnHand", unfollowed := true, recurses := true, apart := false }
def TurnHandSaid : Prop := turnHandRow.holds Try.pinned (OpenSpec.ofChange turnHandSpec)

/-- ITS FALSE NEIGHBOUR: 'it returns false'. Refute it at one input. -/
def turnHandWrong : ChangeSpec := { name := "turnHand", fn := fun _ => fun
  | [d1, d2, d3, d4] => { results := [.lit (.bool false)], args := [d1, d2, d3, d4] }
  | _ => none }
def TurnHandWrongFalsely : Prop := turnHandRow.holds Try.pinned (OpenSpec.ofChange turnHandWrong)

/- THE SECOND FORM. 'bulk': how many values and letters a reading holds, each counted each time it is reached (what is shared counts as often as it is met; a slice's spare places count too). A statement '..UptoSaid' is the law's where the arguments, and the package variables that the reading takes, are together of bulk at most 1048576: NARROWER than '..Said'. Prove '..Said' where nothing that the law and all that it calls make is longer than what came in: it says more and counts as full. Else prove '..UptoSaid'. A law counts once. -/
mutual
def uptoBulk {H : Type} : DataW H → Nat
  | .lit (.string bytes) => bytes.length + 1
  | .lit _ => 1
  | .nil => 1
  | .ptr d => uptoBulk d + 1
  | .slice elems spare => uptoBulkAll elems + uptoBulkAll spare + 1
  | .agg parts => uptoBulkAll parts + 1
  | .iface _ d => uptoBulk d + 1
  | .map entries => uptoBulkEntries entries + 1
  | .held _ => 1
def uptoBulkAll {H : Type} : List (DataW H) → Nat
  | [] => 0
  | d :: r => uptoBulk d + uptoBulkAll r
def uptoBulkEntries {H : Type} : List (Lit × DataW H) → Nat
  | [] => 0
  | x :: r => uptoBulkEntry x + uptoBulkEntries r
def uptoBulkEntry {H : Type} : Lit × DataW H → Nat
  | (.string bytes, d) => bytes.length + uptoBulk d + 1
  | (_, d) => uptoBulk d + 1
 end
def uptoSmall : (H : Type) → List (DataW H) → Bool := fun _ ds => decide (uptoBulkAll ds ≤ 1048576)
def OpenSpec.upto (s : _root_.Go.ChangeSpec) : _root_.Go.OpenSpec := { _root_.Go.OpenSpec.ofChange s with cond := some uptoSmall }

/-- 'paternosterlaw20.TurnTells', WHERE WHAT IT READS IS OF BULK AT MOST 1048576: true; the input reads as it did. -/
def turnTellsUptoRow : OpenClaim := { program := "ytalkngnejnkemaa", sum := "bbe5d27a0105c7959b9289f8091bf1349585175c2e4dd91a2c76465c2fab2c56", func := "paternoster/paternosterlaw20.TurnTells", spec := "turnTells", unfollowed := true, recurses := true, apart := false, narrowed := true }
def TurnTellsUptoSaid : Prop := turnTellsUptoRow.holds Try.pinned (OpenSpec.upto turnTellsSpec)

/-- 'paternosterlaw20.TurnReady', WHERE WHAT IT READS IS OF BULK AT MOST 1048576: true; the input reads as it did. -/
def turnReadyUptoRow : OpenClaim := { program := "ytalkngnejnkemaa", sum := "bbe5d27a0105c7959b9289f8091bf1349585175c2e4dd91a2c76465c2fab2c56", func := "paternoster/paternosterlaw20.TurnReady", spec := "turnReady", unfollowed := true, recurses := true, apart := false, narrowed := true }
def TurnReadyUptoSaid : Prop := turnReadyUptoRow.holds Try.pinned (OpenSpec.upto turnReadySpec)

/-- 'paternosterlaw20.TurnRounds', WHERE WHAT IT READS IS OF BULK AT MOST 1048576: true; the input reads as it did. -/
def turnRoundsUptoRow : OpenClaim := { program := "ytalkngnejnkemaa", sum := "bbe5d27a0105c7959b9289f8091bf1349585175c2e4dd91a2c76465c2fab2c56", func := "paternoster/paternosterlaw20.TurnRounds", spec := "turnRounds", unfollowed := true, recurses := true, apart := false, narrowed := true }
def TurnRoundsUptoSaid : Prop := turnRoundsUptoRow.holds Try.pinned (OpenSpec.upto turnRoundsSpec)

/-- 'paternosterlaw20.TurnHand', WHERE WHAT IT READS IS OF BULK AT MOST 1048576: true; the input reads as it did. -/
def turnHandUptoRow : OpenClaim := { program := "ytalkngnejnkemaa", sum := "bbe5d27a0105c7959b9289f8091bf1349585175c2e4dd91a2c76465c2fab2c56", func := "paternoster/paternosterlaw20.TurnHand", spec := "turnHand", unfollowed := true, recurses := true, apart := false, narrowed := true }
def TurnHandUptoSaid : Prop := turnHandUptoRow.holds Try.pinned (OpenSpec.upto turnHandSpec)

end Rows
end Go.Proofs.Ytalkngnejnkemaa
