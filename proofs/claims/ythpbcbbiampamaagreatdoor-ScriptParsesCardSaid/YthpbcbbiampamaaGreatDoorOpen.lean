/- How a law's arguments are opened: slices of numbers, rows of bytes, as what they show. -/
import Derived.Test.YthpbcbbiampamaaGreatDoorSees
import Derived.ProofKit
import Derived.OpenShut
import Derived.ShutString
import Derived.ChangeOld
import Derived.Deep.Matrix
import Derived.SizedLaws
namespace Go.Proofs.YthpbcbbiampamaaGreatDoor.Open
open Go.ChangeShapes Go.WideShapes Go.ChangeAt Go.RowKit Go.Proofs.YthpbcbbiampamaaGreatDoor.Sees
set_option linter.unusedVariables false

/-- cells at an address, from the first on, are what the address shows -/
theorem sees_of {W : World} {x : Addr} {xs : List Value} (h : ∀ j u, xs[j]? = some u → W.cell? (x.add j) = some u) : Sees W W.heap.size (some x) xs := by
  cases xs with
  | nil => exact .inl rfl
  | cons v xs =>
    have h0 := h 0 v rfl
    obtain ⟨b, off, spot⟩ := x
    have hspot : spot = none := by simpa [Addr.add] using World.cell?_spot h0
    subst hspot
    refine .inr ⟨b, off, rfl, World.block_lt_of_cell? W _ h0, fun j u hu => ?_⟩
    have := h j u hu
    rwa [Addr.add_lit] at this

section
variable {H : Type} {enc : TypeId × Value → H} {P : Program} {W : World}

theorem open_nums {t e : TypeId} {k : IntKind} {a : Option Addr} {len cap : Nat} {d : DataW H} {p : List MemPlace} (ht : P.underlying t = some (.slice e)) (he : P.underlying e = some (.int k)) (hc : P.cellsOf e = 1)
    (h : DataW.Trod enc P W 0 (fun _ => true) true t (.slice a len cap) d p) :
    ∃ zs : List Int, zs.length = len ∧ len ≤ cap ∧ cap ≤ maxLen ∧ Sees W W.heap.size a (nums k zs) ∧ ∀ n ∈ zs, (Lit.int k n).wf = true := by
  obtain ⟨fuel, hf⟩ := h
  rcases open_ints ht he hc hf with ⟨hcs, _⟩ | ⟨x, l, c, zs, hcs, _, hl, hm, hz, _, hcell, hwz⟩
  · simp [Value.cells] at hcs
    obtain ⟨rfl, rfl, rfl⟩ := hcs
    exact ⟨[], rfl, Nat.le_refl _, Nat.zero_le _, .inl rfl, fun n hn => by cases hn⟩
  · simp [Value.cells] at hcs
    obtain ⟨rfl, rfl, rfl⟩ := hcs
    simp only [if_true] at hz
    refine ⟨zs.take len, by simp; omega, hl, hm, sees_of fun j u hu => ?_, fun n hn => hwz n (List.mem_of_mem_take hn)⟩
    have hj : j < len := by
      have := (List.getElem?_eq_some_iff.1 hu).1
      rw [nums_length] at this
      simp at this
      omega
    rw [hcell j (by omega)]
    rw [← hu]
    simp [nums, hj, show j < zs.length by omega]

theorem mem_weightsAll {e : TypeId} {d : DataW H} {l : List (DataW H)} (hd : d ∈ l) : ∀ n ∈ d.weights P e, n ∈ DataW.weightsAll P e l := by
  intro n hn
  induction l with
  | nil => cases hd
  | cons x l ih =>
    rw [DataW.weightsAll, List.mem_append]
    rcases List.mem_cons.1 hd with rfl | h
    · exact .inl hn
    · exact .inr (ih h)

theorem open_rows {t e q : TypeId} {a : Option Addr} {len cap : Nat} {d : DataW H} {p : List MemPlace} (ht : P.underlying t = some (.slice e)) (he : P.underlying e = some (.slice q)) (hq : P.underlying q = some (.int .u8))
    (ce : P.cellsOf e = 1) (cq : P.cellsOf q = 1) (h : DataW.Trod enc P W 0 (fun _ => true) true t (.slice a len cap) d p) :
    ∃ rs : List RowV, rs.length = len ∧ len ≤ cap ∧ cap ≤ maxLen ∧ Sees W W.heap.size a (rs.map RowV.val) ∧ (∀ r ∈ rs, r.Ok W W.heap.size) ∧
      (P.bytesOf q = 1 → (∀ n ∈ d.weights P t, n ≤ reachBytes) → ∀ r ∈ rs, r.bs.length ≤ reachBytes) := by
  obtain ⟨fuel, hf⟩ := h
  rcases Go.Deep.open_int_rows ht he hq ce cq hf with ⟨hcs, _⟩ | ⟨x, l, c, A, L, C, Z, hcs, _, hl, hm, hdat, hrow⟩
  · simp [Value.cells] at hcs
    obtain ⟨rfl, rfl, rfl⟩ := hcs
    exact ⟨[], rfl, Nat.le_refl _, Nat.zero_le _, .inl rfl, (fun n hn => by cases hn), fun _ _ n hn => by cases hn⟩
  · simp [Value.cells] at hcs
    obtain ⟨rfl, rfl, rfl⟩ := hcs
    have hbl : ∀ r, r < cap → ((Z r).take (L r)).length = L r := fun r hr => by
      have := (hrow r hr).2.1
      have := (hrow r hr).2.2.2.1
      simp; omega
    refine ⟨(List.range len).map fun r => ⟨A r, C r, (Z r).take (L r)⟩, by simp, hl, hm, sees_of fun j u hu => ?_, fun r hr => ?_, fun hq1 hw r hr => ?_⟩
    · have hj : j < len := by simpa using (List.getElem?_eq_some_iff.1 hu).1
      rw [(hrow j (by omega)).1, ← hu]
      simp [hj, RowV.val]
      have := (hrow j (by omega)).2.1
      have := (hrow j (by omega)).2.2.2.1
      omega
    · obtain ⟨i, hi, rfl⟩ := List.mem_map.1 hr
      have hi' : i < cap := by have := List.mem_range.1 hi; omega
      obtain ⟨h1, h2, h3, h4, h5, h6, h7⟩ := hrow i hi'
      refine ⟨by rw [hbl i hi']; exact h2, ?_, fun b hb => bounds_u8 (h5 b (List.mem_of_mem_take hb))⟩
      rcases hA : A i with _ | a'
      · have : L i = 0 := by have := h6 hA; omega
        exact .inl (by simp [nums, this])
      · refine sees_of fun j u hu => ?_
        have hj : j < L i := by
          have := (List.getElem?_eq_some_iff.1 hu).1
          rw [nums_length, hbl i hi'] at this
          exact this
        rw [(h7 a' hA).2 j (by omega), ← hu]
        simp [nums, hj, show j < (Z i).length by omega]
    · obtain ⟨i, hi, rfl⟩ := List.mem_map.1 hr
      have hi2 : i < len := List.mem_range.1 hi
      have hi' : i < cap := by omega
      show ((Z i).take (L i)).length ≤ _
      rw [hbl i hi']
      simp only [Prod.mk.injEq] at hdat
      obtain ⟨rfl, _⟩ := hdat
      rcases hA : A i with _ | a'
      · have h1 := (hrow i hi').2.1
        have h2 := (hrow i hi').2.2.2.2.2.1 hA
        omega
      · have hd : (DataW.slice (lits .u8 ((Z i).take (L i))) (lits .u8 ((Z i).drop (L i))) : DataW H) ∈ (List.range len).map fun r => Go.Deep.intRow (H := H) .u8 (A r) (L r) (Z r) := by
          refine List.mem_map.2 ⟨i, List.mem_range.2 hi2, ?_⟩
          simp [Go.Deep.intRow, hA]
        have hin : ((lits (H := H) .u8 ((Z i).take (L i))).length + (lits (H := H) .u8 ((Z i).drop (L i))).length) * P.bytesOf q ∈ (DataW.slice (lits (H := H) .u8 ((Z i).take (L i))) (lits .u8 ((Z i).drop (L i)))).weights P e := by
          simp [DataW.weights, he]
        have h3 := hw _ (by
          rw [DataW.weights, ht]
          simp only [List.mem_cons, List.mem_append]
          exact .inr (.inl (mem_weightsAll hd _ hin)))
        rw [hq1] at h3
        simp only [lits, List.length_map, hbl i hi', Nat.mul_one] at h3
        omega
end

end Go.Proofs.YthpbcbbiampamaaGreatDoor.Open
