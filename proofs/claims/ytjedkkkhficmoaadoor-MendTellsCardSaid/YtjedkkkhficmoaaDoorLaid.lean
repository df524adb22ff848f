/- What the listed table's condition gives a walk: its sixteen cells; the heap that the program's own start leaves meets it. -/
import Derived.Test.YtjedkkkhficmoaaDoorCrcA
import Derived.ProofKit
import Derived.LaidMore
import Derived.OpenShut
import Derived.Stop.Joined
import Derived.LaidOnce
namespace Go.Proofs.YtjedkkkhficmoaaDoor.Crc
open Go.ChangeShapes Go.WideShapes Go.ChangeAt Go.WideMaps Go.WideElems Go.RowKit Go.Proofs.YtjedkkkhficmoaaDoor.Sees
set_option linter.unusedVariables false
set_option maxRecDepth 100000

def laidHalf : List (String × DataW Unit) := [("paternoster/crc.halfByte", Rows.laid_paternoster_crc_halfByte)]
theorem gHalf : Tryd.prog.globalNamed "paternoster/crc.halfByte" = some 0 := by kernel_rfl
theorem tHalf : (Tryd.prog.globals[0]?).map (·.type) = some 130 := by kernel_rfl

theorem door_met (os : Os) (args : Array Value) : laidMetH Tryd.prog laidHalf ((World.doorLaid Tryd.prog 400 os).forCall (fun _ _ => 0) ⟨#[], args, []⟩).memory :=
  laidMetH_of_parts3 (fuel := 24) (laidMet_of_run' 24 (by kernel_rfl) (by kernel_rfl)) (by kernel_rfl) (by kernel_rfl)

theorem laid_eq : (Rows.laid_paternoster_crc_halfByte : DataW Unit) = .agg ((List.range 16).map fun r => .lit (.int .u32 (zn 4 r : Nat))) := by kernel_rfl

theorem tab_of_laid {W : World} (h : laidMetH Tryd.prog laidHalf W) : Tab W := by
  rw [MakeChecks.laidMetH_plain _ _ _ (by kernel_rfl)] at h
  obtain ⟨ps, ⟨g0, t0, cs0, f0, p0, q0, hg0, ht0, hv0, hd0, _, _⟩, _, _⟩ := h
  obtain rfl := Option.some.inj (gHalf.symm.trans hg0)
  obtain rfl := Option.some.inj (tHalf.symm.trans ht0)
  obtain ⟨xs, m1, rfl, hx1, hlen, hn, hel⟩ := DataW.trod_array Tryd.underlying130 hd0
  have c1 : Tryd.prog.cellsOf 121 = 1 := by kernel_rfl
  simp only [Prod.mk.injEq] at hx1
  have hall : ∀ r, r < 16 → W.cell? ⟨0, r, none⟩ = some (.int .u32 (zn 4 r : Nat)) := by
    intro r hr
    have h0 := hel r hr
    have hx : xs[r]? = some (xs[r]'(by omega)) := by simp [hn, hr]
    rw [hx] at h0
    obtain ⟨k, e1, e2, _⟩ := DataW.trod_int Tryd.underlying121 h0
    have hk := (laid_eq.symm.trans hx1.1)
    injection hk with hk
    have hk := congrArg (fun l => l[r]?) hk
    simp only [List.getElem?_map, hx, Option.map_some, List.getElem?_range hr, Option.some.injEq] at hk
    rw [e2] at hk
    have hk : DataW.lit (.int .u32 (zn 4 r : Nat)) = (DataW.lit (.int .u32 k) : DataW Unit) := hk
    injection hk with hk
    injection hk with _ hk
    subst hk
    have := World.var?_cell hg0 hv0 r
    rw [this]
    rw [c1, Nat.mul_one] at e1
    have e3 := congrArg (fun l => l[0]?) e1
    simp [List.getElem?_drop] at e3
    simpa using e3
  exact ⟨World.block_lt_of_cell? W _ (hall 0 (by decide)), hall⟩

end Go.Proofs.YtjedkkkhficmoaaDoor.Crc
