/- How structs of integers and bools are opened, by value, and slices of such. -/
import Derived.Test.YthpbcbbiampamaaGreatDoorOpen
import Derived.Deep.Fields
import Derived.Deep.Grids
import Derived.Deep.Slices
namespace Go.Proofs.YthpbcbbiampamaaGreatDoor.Open
open Go.ChangeShapes Go.WideShapes Go.ChangeAt Go.RowKit Go.Deep Go.Proofs.YthpbcbbiampamaaGreatDoor.Sees
set_option linter.unusedVariables false

section
variable {H : Type} {enc : TypeId × Value → H} {P : Program} {W : World}
/-- an integer of the kind, or a bool, as the type says -/
def Scalar (P : Program) (t : TypeId) (v : Value) : Prop :=
  (∃ k z, P.underlying t = some (.int k) ∧ v = .int k z ∧ (Lit.int k z).wf = true) ∨ (∃ b, P.underlying t = some .bool ∧ v = .bool b)
def scalarB (P : Program) (t : TypeId) : Bool := match P.underlying t with | some (.int _) => true | some .bool => true | _ => false
theorem Scalar.int {t : TypeId} {v : Value} {k : IntKind} (h : Scalar P t v) (ht : P.underlying t = some (.int k)) : ∃ z, v = .int k z ∧ (Lit.int k z).wf = true := by
  rcases h with ⟨k', z, h1, h2, h3⟩ | ⟨b, h1, _⟩
  · rw [ht] at h1; injection h1 with h1; injection h1 with h1; subst h1; exact ⟨z, h2, h3⟩
  · rw [ht] at h1; injection h1 with h1; cases h1
theorem Scalar.bool {t : TypeId} {v : Value} (h : Scalar P t v) (ht : P.underlying t = some .bool) : ∃ b, v = .bool b := by
  rcases h with ⟨k', z, h1, _⟩ | ⟨b, _, h2⟩
  · rw [ht] at h1; injection h1 with h1; cases h1
  · exact ⟨b, h2⟩
theorem open_scalar {t : TypeId} {v : Value} {n : Nat} {y : DataW H × List MemPlace} (ht : scalarB P t = true) (h : DataW.trod enc P W 0 (fun _ => true) true n t [v] = some y) : Scalar P t v := by
  unfold scalarB at ht
  split at ht
  · rename_i k hk
    obtain ⟨z, hz, _, hw⟩ := DataW.trod_int hk h
    injection hz with hz
    exact .inl ⟨k, z, hk, hz, hw⟩
  · rename_i hk
    obtain ⟨b, hb, _⟩ := DataW.trod_bool hk h
    injection hb with hb
    exact .inr ⟨b, hk, hb⟩
  · cases ht
/-- cells of one struct -/
def Fits (P : Program) (fs : Array Field) (r : List Value) : Prop := r.length = fs.size ∧ ∀ (i : Nat) (f : Field), fs[i]? = some f → ∃ v, r[i]? = some v ∧ Scalar P f.type v
theorem open_fields {t : TypeId} {fs : Array Field} {n : Nat} {cs : List Value} {y : DataW H × List MemPlace} (ht : P.underlying t = some (.struct fs)) (hone : oneCellFields P fs = true) (hsc : (fs.toList.all fun f => scalarB P f.type) = true)
    (hlen : cs.length = fs.size) (h : DataW.trod enc P W 0 (fun _ => true) true n t cs = some y) : Fits P fs cs := by
  obtain ⟨xs, k, _, _, _, hxl, hg⟩ := DataW.trod_struct ht h
  refine ⟨hlen, fun i f hf => ?_⟩
  have hi : i < fs.size := (Array.getElem?_eq_some_iff.1 hf).1
  obtain ⟨ho, hk⟩ := hone_of hone i f hf
  have h1 := hg i f hf
  have hx : xs[i]? = some xs[i] := List.getElem?_eq_getElem (by omega)
  have hc : i < cs.length := by omega
  have e : (cs.drop i).take 1 = [cs[i]] := by
    rw [List.drop_eq_getElem_cons hc]; rfl
  rw [ho, hk, hx, e] at h1
  exact ⟨cs[i], List.getElem?_eq_getElem hc, open_scalar (List.all_eq_true.1 hsc f (by rw [Array.mem_toList_iff]; exact Array.mem_of_getElem? hf)) h1⟩
theorem open_struct_scalars {t : TypeId} {fs : Array Field} {b0 : Nat} {v : Value} {d : DataW H} {p : List MemPlace} (ht : P.underlying t = some (.struct fs)) (hone : oneCellFields P fs = true) (hsc : (fs.toList.all fun f => scalarB P f.type) = true) (hC : P.cellsOf t = fs.size)
    (hv : Value.okWide P W .any b0 t v) (h : DataW.Trod enc P W 0 (fun _ => true) true t v d p) : ∃ r : List Value, v = .agg r.toArray ∧ Fits P fs r := by
  obtain ⟨cs, rfl, hsz⟩ := okWide_struct ht hv
  obtain ⟨fuel, hf⟩ := h
  refine ⟨cs.toList, rfl, open_fields ht hone hsc ?_ hf⟩
  show (Value.agg cs).cells.toList.length = _
  simp only [Value.cells, Array.length_toList]
  exact hsz.trans hC

theorem flat_at {C : Nat} (hC : 0 < C) : ∀ (R : List (List Value)), (∀ r ∈ R, r.length = C) → ∀ j, R.flatten[j]? = (R[j / C]?).bind (·[j % C]?) := by
  intro R
  induction R with
  | nil => intro _ j; simp
  | cons r R ih =>
    intro h j
    have hr := h r List.mem_cons_self
    rw [List.flatten_cons]
    by_cases hj : j < C
    · rw [List.getElem?_append_left (by omega), Nat.div_eq_of_lt hj, Nat.mod_eq_of_lt hj]
      rfl
    · have e1 : j / C = (j - C) / C + 1 := by
        rw [Nat.div_eq_sub_div hC (by omega)]
      have e2 : j % C = (j - C) % C := by
        rw [Nat.mod_eq_sub_mod (by omega)]
      rw [List.getElem?_append_right (by omega), hr, ih (fun r hr => h r (List.mem_cons_of_mem _ hr)) (j - C), e1, e2]
      rfl
theorem open_slice_scalars {t e : TypeId} {fs : Array Field} {a : Option Addr} {len cap : Nat} {d : DataW H} {p : List MemPlace} (ht : P.underlying t = some (.slice e)) (he : P.underlying e = some (.struct fs)) (hone : oneCellFields P fs = true) (hsc : (fs.toList.all fun f => scalarB P f.type) = true) (hC : P.cellsOf e = fs.size) (h0 : 0 < fs.size)
    (h : DataW.Trod enc P W 0 (fun _ => true) true t (.slice a len cap) d p) :
    ∃ R : List (List Value), R.length = len ∧ len ≤ cap ∧ cap ≤ maxLen ∧ Sees W W.heap.size a R.flatten ∧ ∀ r ∈ R, Fits P fs r := by
  obtain ⟨fuel, hf⟩ := h
  rcases open_slice ht hf with ⟨hcs, _⟩ | ⟨x, l, c, m, n, D, Pl, hcs, _, hl, hm, hmm, _, hx⟩
  · simp [Value.cells] at hcs
    obtain ⟨rfl, rfl, rfl⟩ := hcs
    exact ⟨[], rfl, Nat.le_refl _, Nat.zero_le _, .inl rfl, fun r hr => by cases hr⟩
  · simp [Value.cells] at hcs
    obtain ⟨rfl, rfl, rfl⟩ := hcs
    simp only [if_true] at hmm
    subst hmm
    have each : ∀ i, i < m → ∃ r : List Value, Fits P fs r ∧ ∀ j, j < fs.size → W.cell? (x.add (i * fs.size + j)) = r[j]? := fun i hi => by
      obtain ⟨cs, h1, h2⟩ := hx i hi
      rw [hC] at h1
      obtain ⟨_, hlen, hcell⟩ := World.cells?_some h1
      refine ⟨cs, open_fields he hone hsc hlen h2, fun j hj => ?_⟩
      have := hcell j hj
      rw [add_add] at this
      exact this
    obtain ⟨r, hr⟩ := choose_lt each
    refine ⟨(List.range len).map r, by simp, hl, hm, sees_of fun j u hu => ?_, fun s hs => ?_⟩
    · rw [flat_at h0 _ (fun s hs => by
        obtain ⟨i, hi, rfl⟩ := List.mem_map.1 hs
        exact (hr i (by have := List.mem_range.1 hi; omega)).1.1) j] at hu
      obtain ⟨s, hs, hu⟩ := Option.bind_eq_some_iff.1 hu
      rw [List.getElem?_map] at hs
      obtain ⟨i, hi, rfl⟩ := Option.map_eq_some_iff.1 hs
      obtain ⟨hi1, hi2⟩ := List.getElem?_eq_some_iff.1 hi
      simp only [List.getElem_range, List.length_range] at hi1 hi2
      subst hi2
      have hq := (hr (j / fs.size) (by omega)).2 (j % fs.size) (Nat.mod_lt _ h0)
      rw [Nat.div_add_mod' j fs.size, hu] at hq
      exact hq
    · obtain ⟨i, hi, rfl⟩ := List.mem_map.1 hs
      exact (hr i (by have := List.mem_range.1 hi; omega)).1
end

end Go.Proofs.YthpbcbbiampamaaGreatDoor.Open
