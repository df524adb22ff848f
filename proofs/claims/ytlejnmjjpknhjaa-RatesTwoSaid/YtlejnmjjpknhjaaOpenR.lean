/- How an argument of type rates.Rates is opened. -/
import Derived.Test.YtlejnmjjpknhjaaOpenS
import Derived.Test.YtlejnmjjpknhjaaRatA
namespace Go.Proofs.Ytlejnmjjpknhjaa.Open
open Go.ChangeShapes Go.WideShapes Go.ChangeAt Go.RowKit Go.Deep Go.Proofs.Ytlejnmjjpknhjaa.RatP Go.Proofs.Ytlejnmjjpknhjaa.Rat
set_option linter.unusedVariables false

theorem open_rates {H : Type} {enc : TypeId × Value → H} {W : World} {b0 : Nat} {v : Value} {d : DataW H} {p : List MemPlace} (hv : Value.okWide Try.prog W .any b0 23 v) (h : DataW.Trod enc Try.prog W 0 (fun _ => true) true 23 v d p) : ∃ r : R, v = val r := by
  obtain ⟨l, hl, rfl, _⟩ := open_struct_ints Try.underlying23 (by kernel_rfl) (by kernel_rfl) (by kernel_rfl) hv h
  match l, hl with
  | [a, b, c, d, e, f], _ => exact ⟨⟨a, b, c, d, e, f⟩, rfl⟩

end Go.Proofs.Ytlejnmjjpknhjaa.Open
