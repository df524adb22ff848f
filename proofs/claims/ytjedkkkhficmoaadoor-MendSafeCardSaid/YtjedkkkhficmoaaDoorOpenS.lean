/- How an argument is opened that is a struct of integers, by value. -/
import Derived.Test.YtjedkkkhficmoaaDoorOpen
import Derived.Deep.Fields
namespace Go.Proofs.YtjedkkkhficmoaaDoor.Open
open Go.ChangeShapes Go.WideShapes Go.ChangeAt Go.RowKit Go.Deep
set_option linter.unusedVariables false

section
variable {H : Type} {enc : TypeId × Value → H} {P : Program} {W : World}
theorem open_struct_ints {t : TypeId} {fs : Array Field} {b0 : Nat} {v : Value} {d : DataW H} {p : List MemPlace} (ht : P.underlying t = some (.struct fs)) (hone : oneCellFields P fs = true)
    (hint : (fs.toList.all fun f => match P.underlying f.type with | some (.int .i64) => true | _ => false) = true) (hC : P.cellsOf t = fs.size)
    (hv : Value.okWide P W .any b0 t v) (h : DataW.Trod enc P W 0 (fun _ => true) true t v d p) :
    ∃ l : List Int, l.length = fs.size ∧ v = .agg (l.map (Value.int .i64)).toArray ∧ ∀ n ∈ l, (Lit.int .i64 n).wf = true := by
  obtain ⟨cs, rfl, hsz⟩ := okWide_struct ht hv
  obtain ⟨fuel, hf⟩ := h
  obtain ⟨xs, n, _, _, _, hlen, hg⟩ := DataW.trod_struct ht hf
  have key : ∀ i (hi : i < cs.size), ∃ z : Int, cs[i] = .int .i64 z ∧ (Lit.int .i64 z).wf = true := by
    intro i hi
    have hi2 : i < fs.size := by omega
    have hfi : fs[i]? = some fs[i] := by simp [hi2]
    obtain ⟨ho, hk⟩ := hone_of hone i fs[i] hfi
    have h1 := hg i fs[i] hfi
    have hx : xs[i]? = some xs[i] := List.getElem?_eq_getElem (by omega)
    rw [ho, hk, hx] at h1
    have hu := List.all_eq_true.1 hint fs[i] (by simp)
    have hu' : P.underlying fs[i].type = some (.int .i64) := by
      revert hu
      split
      · intro _; assumption
      · intro h; cases h
    obtain ⟨z, hz, _, hw⟩ := DataW.trod_int hu' h1
    refine ⟨z, ?_, hw⟩
    have e : (((Value.agg cs).cells.toList.drop i).take 1) = [cs[i]] := by
      simp only [Value.cells]
      rw [List.drop_eq_getElem_cons (by simpa using hi)]
      simp
    rw [e] at hz
    injection hz
  refine ⟨cs.toList.map (fun v => match v with | .int _ z => z | _ => 0), by simp; omega, ?_, ?_⟩
  · congr 1
    apply Array.ext_getElem?
    intro j
    by_cases hj : j < cs.size
    · obtain ⟨z, hz, _⟩ := key j hj
      simp [hj, hz]
    · simp [hj]
  · intro n hn
    obtain ⟨v, hv, rfl⟩ := List.mem_map.1 hn
    obtain ⟨j, hj, rfl⟩ := List.mem_iff_getElem.1 hv
    obtain ⟨z, hz, hw⟩ := key j (by simpa using hj)
    simp only [Array.getElem_toList, hz]
    exact hw
end

end Go.Proofs.YtjedkkkhficmoaaDoor.Open
