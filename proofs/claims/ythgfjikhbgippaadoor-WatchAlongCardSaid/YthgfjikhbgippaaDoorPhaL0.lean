/- What the listed table's condition gives a walk: the cells of what may follow alone (layer 25's seat); the heap that the program's own start leaves meets it. -/
import Derived.Test.YthgfjikhbgippaaDoorPhaA0
import Derived.ProofKit
import Derived.LaidMore
import Derived.OpenShut
import Derived.Stop.Joined
import Derived.LaidOnce
namespace Go.Proofs.YthgfjikhbgippaaDoor.Pha
open Go.ChangeShapes Go.WideShapes Go.ChangeAt Go.WideMaps Go.WideElems Go.RowKit Go.Proofs.YthgfjikhbgippaaDoor.Sees Go.Proofs.YthgfjikhbgippaaDoor.PhaP
set_option linter.unusedVariables false
set_option maxRecDepth 100000

def laidPha : List (String × DataW Unit) := [("paternoster/phase.following", Rows.laid_paternoster_phase_following)]
theorem gBits : Tryd.prog.globalNamed "paternoster/phase.following" = some 0 := by kernel_rfl
theorem tBits : (Tryd.prog.globals[0]?).map (·.type) = some 80 := by kernel_rfl

theorem door_met (os : Os) (args : Array Value) : laidMetH Tryd.prog laidPha ((World.doorLaid Tryd.prog 400 os).forCall (fun _ _ => 0) ⟨#[], args, []⟩).memory :=
  laidMetH_of_parts3 (fuel := 24) (laidMet_of_run' 24 (by kernel_rfl) (by kernel_rfl)) (by kernel_rfl) (by kernel_rfl)

theorem bits_eq : (Rows.laid_paternoster_phase_following : DataW Unit) = .agg ((List.range 6).map fun (r : Nat) => .lit (.int .u8 (tb r : Nat))) := by kernel_rfl

theorem lay_of_laid {W : World} (h : laidMetH Tryd.prog laidPha W) : Lay W := by
  rw [MakeChecks.laidMetH_plain _ _ _ (by kernel_rfl)] at h
  obtain ⟨ps, ⟨g0, t0, cs0, f0, p0, q0, hg0, ht0, hv0, hd0, _, _⟩, _, _⟩ := h
  obtain rfl := Option.some.inj (gBits.symm.trans hg0)
  obtain rfl := Option.some.inj (tBits.symm.trans ht0)
  have cu : Tryd.prog.cellsOf 5 = 1 := by kernel_rfl
  have hbits : ∀ r, r < 6 → W.cell? ⟨0, r, none⟩ = some (.int .u8 (tb r : Nat)) := by
    obtain ⟨xs, m1, rfl, hx1, hlen, hn, hel⟩ := DataW.trod_array Tryd.underlying80 hd0
    simp only [Prod.mk.injEq] at hx1
    intro r hr
    have h0 := hel r hr
    have hx : xs[r]? = some (xs[r]'(by omega)) := by simp [hn, hr]
    rw [hx] at h0
    obtain ⟨k, e1, e2, _⟩ := DataW.trod_int Tryd.underlying5 h0
    have hk := (bits_eq.symm.trans hx1.1)
    injection hk with hk
    have hk := congrArg (fun l => l[r]?) hk
    simp only [List.getElem?_map, hx, Option.map_some, List.getElem?_range hr, Option.some.injEq] at hk
    rw [e2] at hk
    have hk : DataW.lit (.int .u8 (tb r : Nat)) = (DataW.lit (.int .u8 k) : DataW Unit) := hk
    injection hk with hk
    injection hk with _ hk
    subst hk
    have := World.var?_cell hg0 hv0 r
    rw [this]
    rw [cu, Nat.mul_one] at e1
    have e3 := congrArg (fun l => l[0]?) e1
    simp [List.getElem?_drop] at e3
    simpa using e3
  exact ⟨World.block_lt_of_cell? W _ (hbits 0 (by decide)), hbits⟩

end Go.Proofs.YthgfjikhbgippaaDoor.Pha
