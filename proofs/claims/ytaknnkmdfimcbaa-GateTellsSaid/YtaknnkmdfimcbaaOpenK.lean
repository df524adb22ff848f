/- How arguments of type car.Car, and slices of bools, are opened. -/
import Derived.Test.YtaknnkmdfimcbaaOpenS
import Derived.Test.YtaknnkmdfimcbaaCarV
namespace Go.Proofs.Ytaknnkmdfimcbaa.Open
open Go.ChangeShapes Go.WideShapes Go.ChangeAt Go.RowKit Go.Deep Go.Proofs.Ytaknnkmdfimcbaa.CarP Go.Proofs.Ytaknnkmdfimcbaa.Car
set_option linter.unusedVariables false

theorem open_car {H : Type} {enc : TypeId × Value → H} {W : World} {b0 : Nat} {v : Value} {d : DataW H} {p : List MemPlace} (hv : Value.okWide Try.prog W .any b0 23 v) (h : DataW.Trod enc Try.prog W 0 (fun _ => true) true 23 v d p) : ∃ r : K, v = val r := by
  obtain ⟨l, hl, rfl, _⟩ := open_struct_ints Try.underlying23 (by kernel_rfl) (by kernel_rfl) (by kernel_rfl) hv h
  match l, hl with
  | [a, b, c], _ => exact ⟨⟨a, b, c⟩, rfl⟩

end Go.Proofs.Ytaknnkmdfimcbaa.Open
