/-
  NARROWER THAN 'FOR EVERY INPUT', by the rows' own cells (each row's printed sentence says how): MendTells: laid · MendSafe: laid · MendNone: laid · MendFirst: laid.
  DERIVED. THE GIVEN ROWS OF THIS SEAT. 4 by the template 'for every input the law returns true; each argument reads behind the call as it read before'; 0 by the template 'total and deterministic' (their statements: YtjedkkkhficmoaaDoorTotals.lean).
  GIVEN WITH THE SEED: the statements are not yours to turn. If you find one false, say at which input.
  Laid BY PROGRAM, IN A SANDBOX (cutbox-rows.mjs): the forced cells as the released guide's own fill.sh prints them over the translation fcd72f006d59c9c0… (all of the seat's roots in one cut). By AI agents, Wed Nov 11 2026. No macro, syntax, notation, axiom, sorry.
-/
import Derived.Test.YtjedkkkhficmoaaDoorChecked
import GoSem.Claim
import GoSem.ClaimJoined
import GoSem.ClaimMapViews
import Derived.JoinedTies
import Derived.KernelRfl
namespace Go.Proofs.YtjedkkkhficmoaaDoor
/- THE CELL 'sum', in the pinned program and in every row, IS THE sha256 OF THE DUMP (.gsa) THAT YtjedkkkhficmoaaDoorProg.lean LOADS. Nothing in Lean hashes anything: it is a label: what it is worth is what the hold of that sum in a sandbox is worth. -/
noncomputable def Tryd.pinned : Pinned := { name := "ytjedkkkhficmoaadoor", sum := "fcd72f006d59c9c0438aef79260defc0b2119331e9c6a6dd9850e36285bc8ce7", checked := Tryd.checked }
namespace Rows
def none {H : Type} : Left H := { results := [], args := [] }

/- WHAT THE LISTED PACKAGE-LEVEL VARIABLES READ AS WHEN THE CALL BEGINS. Each datum BY PROGRAM (the guide's laid-datum.mjs) off the statement by which the dump's own 'gosem.cut.vars' lays the variable. In a bare row this is a premise. The card (YtjedkkkhficmoaaDoorCards.lean) ties it to the program's text. -/
def laid_paternoster_crc_halfByte {H : Type} : DataW H := .agg [.lit (.int .u32 0), .lit (.int .u32 498536548), .lit (.int .u32 997073096), .lit (.int .u32 651767980), .lit (.int .u32 1994146192), .lit (.int .u32 1802195444), .lit (.int .u32 1303535960), .lit (.int .u32 1342533948), .lit (.int .u32 3988292384), .lit (.int .u32 4027552580), .lit (.int .u32 3604390888), .lit (.int .u32 3412177804), .lit (.int .u32 2607071920), .lit (.int .u32 2262029012), .lit (.int .u32 2685067896), .lit (.int .u32 3183342108)]

/-- 'paternosterlaw17.MendTells': WHATEVER THE INPUT: true; the input reads as it did. -/
def mendTellsSpec : ChangeSpec := { name := "mendTells", fn := fun _ => fun
  | [d1, d2, d3, d4] => { results := [.lit (.bool true)], args := [d1, d2, d3, d4] }
  | _ => none }
def mendTellsRow : OpenClaim := { program := "ytjedkkkhficmoaadoor", sum := "fcd72f006d59c9c0438aef79260defc0b2119331e9c6a6dd9850e36285bc8ce7", func := "paternoster/paternosterlaw17.MendTells", spec := "mendTells", unfollowed := true, recurses := true, named := ["paternoster/crc.halfByte"], apart := false, laid := [("paternoster/crc.halfByte", laid_paternoster_crc_halfByte)] }
def MendTellsSaid : Prop := mendTellsRow.holds Tryd.pinned (OpenSpec.ofChange mendTellsSpec)

/-- ITS FALSE NEIGHBOUR: 'it returns false'. Refute it at one input. -/
def mendTellsWrong : ChangeSpec := { name := "mendTells", fn := fun _ => fun
  | [d1, d2, d3, d4] => { results := [.lit (.bool false)], args := [d1, d2, d3, d4] }
  | _ => none }
def MendTellsWrongFalsely : Prop := mendTellsRow.holds Tryd.pinned (OpenSpec.ofChange mendTellsWrong)

/-- 'paternosterlaw17.MendSafe': WHATEVER THE INPUT: true; the input reads as it did. -/
def mendSafeSpec : ChangeSpec := { name := "mendSafe", fn := fun _ => fun
  | [d1, d2, d3, d4] => { results := [.lit (.bool true)], args := [d1, d2, d3, d4] }
  | _ => none }
def mendSafeRow : OpenClaim := { program := "ytjedkkkhficmoaadoor", sum := "fcd72f006d59c9c0438aef79260defc0b2119331e9c6a6dd9850e36285bc8ce7", func := "paternoster/paternosterlaw17.MendSafe", spec := "mendSafe", unfollowed := true, recurses := true, named := ["paternoster/crc.halfByte"], apart := false, laid := [("paternoster/crc.halfByte", laid_paternoster_crc_halfByte)] }
def MendSafeSaid : Prop := mendSafeRow.holds Tryd.pinned (OpenSpec.ofChange mendSafeSpec)

/-- ITS FALSE NEIGHBOUR: 'it returns false'. Refute it at one input. -/
def mendSafeWrong : ChangeSpec := { name := "mendSafe", fn := fun _ => fun
  | [d1, d2, d3, d4] => { results := [.lit (.bool false)], args := [d1, d2, d3, d4] }
  | _ => none }
def MendSafeWrongFalsely : Prop := mendSafeRow.holds Tryd.pinned (OpenSpec.ofChange mendSafeWrong)

/-- 'paternosterlaw17.MendNone': WHATEVER THE INPUT: true; the input reads as it did. -/
def mendNoneSpec : ChangeSpec := { name := "mendNone", fn := fun _ => fun
  | [d1, d2, d3, d4] => { results := [.lit (.bool true)], args := [d1, d2, d3, d4] }
  | _ => none }
def mendNoneRow : OpenClaim := { program := "ytjedkkkhficmoaadoor", sum := "fcd72f006d59c9c0438aef79260defc0b2119331e9c6a6dd9850e36285bc8ce7", func := "paternoster/paternosterlaw17.MendNone", spec := "mendNone", unfollowed := true, recurses := true, named := ["paternoster/crc.halfByte"], apart := false, laid := [("paternoster/crc.halfByte", laid_paternoster_crc_halfByte)] }
def MendNoneSaid : Prop := mendNoneRow.holds Tryd.pinned (OpenSpec.ofChange mendNoneSpec)

/-- ITS FALSE NEIGHBOUR: 'it returns false'. Refute it at one input. -/
def mendNoneWrong : ChangeSpec := { name := "mendNone", fn := fun _ => fun
  | [d1, d2, d3, d4] => { results := [.lit (.bool false)], args := [d1, d2, d3, d4] }
  | _ => none }
def MendNoneWrongFalsely : Prop := mendNoneRow.holds Tryd.pinned (OpenSpec.ofChange mendNoneWrong)

/-- 'paternosterlaw17.MendFirst': WHATEVER THE INPUT: true; the input reads as it did. -/
def mendFirstSpec : ChangeSpec := { name := "mendFirst", fn := fun _ => fun
  | [d1, d2, d3] => { results := [.lit (.bool true)], args := [d1, d2, d3] }
  | _ => none }
def mendFirstRow : OpenClaim := { program := "ytjedkkkhficmoaadoor", sum := "fcd72f006d59c9c0438aef79260defc0b2119331e9c6a6dd9850e36285bc8ce7", func := "paternoster/paternosterlaw17.MendFirst", spec := "mendFirst", unfollowed := true, recurses := true, named := ["paternoster/crc.halfByte"], apart := false, laid := [("paternoster/crc.halfByte", laid_paternoster_crc_halfByte)] }
def MendFirstSaid : Prop := mendFirstRow.holds Tryd.pinned (OpenSpec.ofChange mendFirstSpec)

/-- ITS FALSE NEIGHBOUR: 'it returns false'. Refute it at one input. -/
def mendFirstWrong : ChangeSpec := { name := "mendFirst", fn := fun _ => fun
  | [d1, d2, d3] => { results := [.lit (.bool false)], args := [d1, d2, d3] }
  | _ => none }
def MendFirstWrongFalsely : Prop := mendFirstRow.holds Tryd.pinned (OpenSpec.ofChange mendFirstWrong)

/- THE SECOND FORM. 'bulk': how many values and letters a reading holds, each counted each time it is reached (what is shared counts as often as it is met; a slice's spare places count too). A statement '..UptoSaid' is the law's where the arguments, and the package variables that the reading takes, are together of bulk at most 1048576: NARROWER than '..Said'. Prove '..Said' where nothing that the law and all that it calls make is longer than what came in: it says more and counts as full. Else prove '..UptoSaid'. A law counts once. -/
mutual
def uptoBulk {H : Type} : DataW H → Nat
  | .lit (.string bytes) => bytes.length + 1
  | .lit _ => 1
  | .nil => 1
  | .ptr d => uptoBulk d + 1
  | .slice elems spare => uptoBulkAll elems + uptoBulkAll spare + 1
  | .agg parts => uptoBulkAll parts + 1
  | .iface _ d => uptoBulk d + 1
  | .map entries => uptoBulkEntries entries + 1
  | .held _ => 1
def uptoBulkAll {H : Type} : List (DataW H) → Nat
  | [] => 0
  | d :: r => uptoBulk d + uptoBulkAll r
def uptoBulkEntries {H : Type} : List (Lit × DataW H) → Nat
  | [] => 0
  | x :: r => uptoBulkEntry x + uptoBulkEntries r
def uptoBulkEntry {H : Type} : Lit × DataW H → Nat
  | (.string bytes, d) => bytes.length + uptoBulk d + 1
  | (_, d) => uptoBulk d + 1
 end
def uptoSmall : (H : Type) → List (DataW H) → Bool := fun _ ds => decide (uptoBulkAll ds ≤ 1048576)
def OpenSpec.upto (s : _root_.Go.ChangeSpec) : _root_.Go.OpenSpec := { _root_.Go.OpenSpec.ofChange s with cond := some uptoSmall }

/-- 'paternosterlaw17.MendTells', WHERE WHAT IT READS IS OF BULK AT MOST 1048576: true; the input reads as it did. -/
def mendTellsUptoRow : OpenClaim := { program := "ytjedkkkhficmoaadoor", sum := "fcd72f006d59c9c0438aef79260defc0b2119331e9c6a6dd9850e36285bc8ce7", func := "paternoster/paternosterlaw17.MendTells", spec := "mendTells", unfollowed := true, recurses := true, named := ["paternoster/crc.halfByte"], apart := false, laid := [("paternoster/crc.halfByte", laid_paternoster_crc_halfByte)], narrowed := true }
def MendTellsUptoSaid : Prop := mendTellsUptoRow.holds Tryd.pinned (OpenSpec.upto mendTellsSpec)

/-- 'paternosterlaw17.MendSafe', WHERE WHAT IT READS IS OF BULK AT MOST 1048576: true; the input reads as it did. -/
def mendSafeUptoRow : OpenClaim := { program := "ytjedkkkhficmoaadoor", sum := "fcd72f006d59c9c0438aef79260defc0b2119331e9c6a6dd9850e36285bc8ce7", func := "paternoster/paternosterlaw17.MendSafe", spec := "mendSafe", unfollowed := true, recurses := true, named := ["paternoster/crc.halfByte"], apart := false, laid := [("paternoster/crc.halfByte", laid_paternoster_crc_halfByte)], narrowed := true }
def MendSafeUptoSaid : Prop := mendSafeUptoRow.holds Tryd.pinned (OpenSpec.upto mendSafeSpec)

/-- 'paternosterlaw17.MendNone', WHERE WHAT IT READS IS OF BULK AT MOST 1048576: true; the input reads as it did. -/
def mendNoneUptoRow : OpenClaim := { program := "ytjedkkkhficmoaadoor", sum := "fcd72f006d59c9c0438aef79260defc0b2119331e9c6a6dd9850e36285bc8ce7", func := "paternoster/paternosterlaw17.MendNone", spec := "mendNone", unfollowed := true, recurses := true, named := ["paternoster/crc.halfByte"], apart := false, laid := [("paternoster/crc.halfByte", laid_paternoster_crc_halfByte)], narrowed := true }
def MendNoneUptoSaid : Prop := mendNoneUptoRow.holds Tryd.pinned (OpenSpec.upto mendNoneSpec)

/-- 'paternosterlaw17.MendFirst', WHERE WHAT IT READS IS OF BULK AT MOST 1048576: true; the input reads as it did. -/
def mendFirstUptoRow : OpenClaim := { program := "ytjedkkkhficmoaadoor", sum := "fcd72f006d59c9c0438aef79260defc0b2119331e9c6a6dd9850e36285bc8ce7", func := "paternoster/paternosterlaw17.MendFirst", spec := "mendFirst", unfollowed := true, recurses := true, named := ["paternoster/crc.halfByte"], apart := false, laid := [("paternoster/crc.halfByte", laid_paternoster_crc_halfByte)], narrowed := true }
def MendFirstUptoSaid : Prop := mendFirstUptoRow.holds Tryd.pinned (OpenSpec.upto mendFirstSpec)

end Rows
end Go.Proofs.YtjedkkkhficmoaaDoor
