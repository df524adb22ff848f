/- How an argument of type leaf.Leaf is opened. -/
import Derived.Test.YtaknnkmdfimcbaaOpenS
import Derived.Test.YtaknnkmdfimcbaaLefA0
namespace Go.Proofs.Ytaknnkmdfimcbaa.Open
open Go.ChangeShapes Go.WideShapes Go.ChangeAt Go.RowKit Go.Deep Go.Proofs.Ytaknnkmdfimcbaa.LefP
set_option linter.unusedVariables false

theorem open_leaf {H : Type} {enc : TypeId × Value → H} {W : World} {b0 : Nat} {v : Value} {d : DataW H} {p : List MemPlace} (hv : Value.okWide Try.prog W .any b0 25 v) (h : DataW.Trod enc Try.prog W 0 (fun _ => true) true 25 v d p) : ∃ r : L, v = Lef.val r := by
  obtain ⟨l, hl, rfl, _⟩ := open_struct_ints Try.underlying25 (by kernel_rfl) (by kernel_rfl) (by kernel_rfl) hv h
  match l, hl with
  | [a, b], _ => exact ⟨⟨a, b⟩, rfl⟩

end Go.Proofs.Ytaknnkmdfimcbaa.Open
