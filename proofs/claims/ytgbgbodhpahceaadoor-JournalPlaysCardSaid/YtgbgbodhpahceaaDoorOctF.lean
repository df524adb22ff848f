/- The contract of the reference's Row of layer 1. -/
import Derived.Test.YtgbgbodhpahceaaDoorOctB
import Derived.Test.YtgbgbodhpahceaaDoorNum
namespace Go.Proofs.YtgbgbodhpahceaaDoor.Oct
open Go.RowKit Go.Proofs.YtgbgbodhpahceaaDoor.Plain Go.Proofs.YtgbgbodhpahceaaDoor.Sees
set_option linter.unusedVariables false
set_option maxRecDepth 100000

theorem row_any (bs : List Int) (w : World) (h : bs.length ≤ 65535) : Calls Tryd.prog 39 #[.string (strOfNums bs)] w (StrPost w (lowB 2 bs.length ++ bs)) := by
  have kc := conv_two
  have hsz : (strOfNums bs).size = bs.length := strOfNums_size bs
  have hadd : ∀ W, (Op.stringOp .add (strOfNums [(bs.length : Int) % 256, (bs.length : Int) / 256]) (strOfNums bs)).run Tryd.prog W = .ok (.string (strOfNums ([(bs.length : Int) % 256, (bs.length : Int) / 256] ++ bs))) W := fun W =>
    run_str_add W _ _ (by simp; omega)
  have hlow : lowB 2 bs.length = [(bs.length : Int) % 256, (bs.length : Int) / 256] := by
    simp only [lowB]
    rw [Int.emod_eq_of_lt (by omega) (by omega : (bs.length : Int) / 256 < 256)]
  rw [hlow]
  clear hlow
  generalize hL : bs.length = L at *
  have HL := Lib.hid hL
  clear hL
  go_enter Tryd.func39, Tryd.ntmps39
  go_wp2
  go_ret
  exact ⟨rfl, (Below.refl _ _).alloc (Nat.le_refl _) _⟩

end Go.Proofs.YtgbgbodhpahceaaDoor.Oct
