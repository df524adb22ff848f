/- How a slice of structs is opened whose cells are told one by one. -/
import Derived.Test.YthgfjikhbgippaaDoorRows
import Derived.Test.YthgfjikhbgippaaDoorOpen
import Derived.Test.YthgfjikhbgippaaDoorOpenT
import Derived.Deep.Slices
namespace Go.Proofs.YthgfjikhbgippaaDoor.Open
open Go.ChangeShapes Go.WideShapes Go.ChangeAt Go.RowKit Go.Deep Go.Proofs.YthgfjikhbgippaaDoor.Sees
set_option linter.unusedVariables false
set_option maxRecDepth 100000

section
variable {H : Type} {enc : TypeId × Value → H} {W : World}
/-- a slice of anything whose cells are told -/
theorem open_structs {α : Type} [Inhabited α] {t e : TypeId} {C : Nat} {a : Option Addr} {len cap : Nat} {d : DataW H} {p : List MemPlace} (cells : α → List Value) (ok : α → Prop) (ht : Tryd.prog.underlying t = some (.slice e)) (hC : Tryd.prog.cellsOf e = C) (h0 : 0 < C)
    (hl : ∀ x, (cells x).length = C) (hone : ∀ n cs y, DataW.trod enc Tryd.prog W 0 (fun _ => true) true n e cs = some y → ∃ x, cs = cells x ∧ ok x)
    (h : DataW.Trod enc Tryd.prog W 0 (fun _ => true) true t (.slice a len cap) d p) :
    ∃ l : List α, l.length = len ∧ len ≤ cap ∧ cap ≤ maxLen ∧ Sees W W.heap.size a (l.map cells).flatten ∧ ∀ x ∈ l, ok x := by
  obtain ⟨fuel, hf⟩ := h
  rcases open_slice ht hf with ⟨hcs, _⟩ | ⟨x, l, c, m, n, D, Pl, hcs, _, hl2, hm, hmm, _, hx⟩
  · simp [Value.cells] at hcs
    obtain ⟨rfl, rfl, rfl⟩ := hcs
    exact ⟨[], rfl, Nat.le_refl _, Nat.zero_le _, .inl rfl, fun r hr => by cases hr⟩
  · simp [Value.cells] at hcs
    obtain ⟨rfl, rfl, rfl⟩ := hcs
    simp only [if_true] at hmm
    subst hmm
    have each : ∀ i, i < m → ∃ r : α, ok r ∧ ∀ j, j < C → W.cell? (x.add (i * C + j)) = (cells r)[j]? := fun i hi => by
      obtain ⟨cs, h1, h2⟩ := hx i hi
      rw [hC] at h1
      obtain ⟨_, hlen, hcell⟩ := World.cells?_some h1
      obtain ⟨r, rfl, hr⟩ := hone _ _ _ h2
      refine ⟨r, hr, fun j hj => ?_⟩
      have := hcell j hj
      rw [add_add] at this
      exact this
    obtain ⟨r, hr⟩ := choose_lt each
    refine ⟨(List.range len).map r, by simp, hl2, hm, sees_of fun j u hu => ?_, fun s hs => ?_⟩
    · rw [flat_at h0 _ (fun s hs => by
        obtain ⟨i, hi, rfl⟩ := List.mem_map.1 hs
        exact hl _) j] at hu
      obtain ⟨s, hs, hu⟩ := Option.bind_eq_some_iff.1 hu
      rw [List.getElem?_map] at hs
      obtain ⟨i, hi, rfl⟩ := Option.map_eq_some_iff.1 hs
      obtain ⟨hi1, hi2⟩ := List.getElem?_eq_some_iff.1 hi
      simp only [List.getElem_map, List.getElem_range, List.length_map, List.length_range] at hi1 hi2
      subst hi2
      have hq := (hr (j / C) (by omega)).2 (j % C) (Nat.mod_lt _ h0)
      rw [Nat.div_add_mod' j C, hu] at hq
      exact hq
    · obtain ⟨i, hi, rfl⟩ := List.mem_map.1 hs
      exact (hr i (by have := List.mem_range.1 hi; omega)).1
end
end Go.Proofs.YthgfjikhbgippaaDoor.Open
