/- How rows of slices of numbers are opened. -/
import Derived.Test.YthgfjikhbgippaaDoorOpen
namespace Go.Proofs.YthgfjikhbgippaaDoor.Open
open Go.ChangeShapes Go.WideShapes Go.ChangeAt Go.RowKit Go.Proofs.YthgfjikhbgippaaDoor.Sees
set_option linter.unusedVariables false

/-- a row of numbers as a value, and what it shows -/
structure RowN where
  A : Option Addr
  c : Nat
  zs : List Int
def RowN.val (r : RowN) : Value := .slice r.A r.zs.length r.c
structure RowN.Ok (k : IntKind) (w : World) (B : Nat) (r : RowN) : Prop where
  cap : r.zs.length ≤ r.c
  see : Sees w B r.A (nums k r.zs)
  wf : ∀ z ∈ r.zs, (Lit.int k z).wf = true
theorem RowN.Ok.below {k : IntKind} {w w' : World} {B C : Nat} {r : RowN} (h : r.Ok k w B) (hb : Below C w w') (hC : B ≤ C) : r.Ok k w' B := ⟨h.cap, h.see.below hb hC, h.wf⟩

section
variable {H : Type} {enc : TypeId × Value → H} {P : Program} {W : World}
theorem open_irows {t e q : TypeId} {k : IntKind} {a : Option Addr} {len cap : Nat} {d : DataW H} {p : List MemPlace} (ht : P.underlying t = some (.slice e)) (he : P.underlying e = some (.slice q)) (hq : P.underlying q = some (.int k))
    (ce : P.cellsOf e = 1) (cq : P.cellsOf q = 1) (h : DataW.Trod enc P W 0 (fun _ => true) true t (.slice a len cap) d p) :
    ∃ rs : List RowN, rs.length = len ∧ len ≤ cap ∧ cap ≤ maxLen ∧ Sees W W.heap.size a (rs.map RowN.val) ∧ (∀ r ∈ rs, r.Ok k W W.heap.size) := by
  obtain ⟨fuel, hf⟩ := h
  rcases Go.Deep.open_int_rows ht he hq ce cq hf with ⟨hcs, _⟩ | ⟨x, l, c, A, L, C, Z, hcs, _, hl, hm, hdat, hrow⟩
  · simp [Value.cells] at hcs
    obtain ⟨rfl, rfl, rfl⟩ := hcs
    exact ⟨[], rfl, Nat.le_refl _, Nat.zero_le _, .inl rfl, (fun n hn => by cases hn)⟩
  · simp [Value.cells] at hcs
    obtain ⟨rfl, rfl, rfl⟩ := hcs
    have hbl : ∀ r, r < cap → ((Z r).take (L r)).length = L r := fun r hr => by
      have := (hrow r hr).2.1
      have := (hrow r hr).2.2.2.1
      simp; omega
    refine ⟨(List.range len).map fun r => ⟨A r, C r, (Z r).take (L r)⟩, by simp, hl, hm, sees_of fun j u hu => ?_, fun r hr => ?_⟩
    · have hj : j < len := by simpa using (List.getElem?_eq_some_iff.1 hu).1
      rw [(hrow j (by omega)).1, ← hu]
      simp [hj, RowN.val]
      have := (hrow j (by omega)).2.1
      have := (hrow j (by omega)).2.2.2.1
      omega
    · obtain ⟨i, hi, rfl⟩ := List.mem_map.1 hr
      have hi' : i < cap := by have := List.mem_range.1 hi; omega
      obtain ⟨h1, h2, h3, h4, h5, h6, h7⟩ := hrow i hi'
      refine ⟨by rw [hbl i hi']; exact h2, ?_, fun b hb => h5 b (List.mem_of_mem_take hb)⟩
      rcases hA : A i with _ | a'
      · have : L i = 0 := by have := h6 hA; omega
        exact .inl (by simp [nums, this])
      · refine sees_of fun j u hu => ?_
        have hj : j < L i := by
          have := (List.getElem?_eq_some_iff.1 hu).1
          rw [nums_length, hbl i hi'] at this
          exact this
        rw [(h7 a' hA).2 j (by omega), ← hu]
        simp [nums, hj, show j < (Z i).length by omega]
end

end Go.Proofs.YthgfjikhbgippaaDoor.Open
