/- How structs of integers and bools are opened, by value, and slices of such. -/
import Derived.Test.YtaknnkmdfimcbaaRows
import Derived.Test.YtaknnkmdfimcbaaOpenT
namespace Go.Proofs.Ytaknnkmdfimcbaa.Open
open Go.ChangeShapes Go.WideShapes Go.ChangeAt Go.RowKit Go.Deep Go.Proofs.Ytaknnkmdfimcbaa.Sees
set_option linter.unusedVariables false

structure Leaf0 where
  o : Int
  d : Int
def Leaf0.cells (p : Leaf0) : List Value := [.int .i64 p.o, .int .i64 p.d]
def Leaf0.val (p : Leaf0) : Value := .agg #[.int .i64 p.o, .int .i64 p.d]
def leaf0s (l : List Leaf0) : List Value := (l.map Leaf0.cells).flatten
theorem fit_leaf0 {P : Program} {n0 n1 : Field} (h0 : P.underlying n0.type = some (.int .i64)) (h1 : P.underlying n1.type = some (.int .i64)) {r : List Value} (h : Fits P #[n0, n1] r) : ∃ p : Leaf0, r = p.cells := by
  obtain ⟨hl, hf⟩ := h
  match r, hl with
  | [a0, a1], _ =>
    obtain ⟨v0, e0, k0⟩ := hf 0 n0 rfl
    obtain ⟨v1, e1, k1⟩ := hf 1 n1 rfl
    simp at e0 e1
    subst e0 e1
    obtain ⟨x0, rfl, _⟩ := k0.int h0
    obtain ⟨x1, rfl, _⟩ := k1.int h1
    exact ⟨⟨x0, x1⟩, rfl⟩
theorem all_leaf0 : ∀ R : List (List Value), (∀ r ∈ R, ∃ p : Leaf0, r = p.cells) → ∃ l : List Leaf0, R = l.map Leaf0.cells := by
  intro R
  induction R with
  | nil => exact fun _ => ⟨[], rfl⟩
  | cons r R ih =>
    intro h
    obtain ⟨p, rfl⟩ := h r List.mem_cons_self
    obtain ⟨l, rfl⟩ := ih fun r hr => h r (List.mem_cons_of_mem _ hr)
    exact ⟨p :: l, rfl⟩
theorem open_leaf0 {H : Type} {enc : TypeId × Value → H} {W : World} {b0 : Nat} {v : Value} {d : DataW H} {p : List MemPlace} (hv : Value.okWide Try.prog W .any b0 25 v) (h : DataW.Trod enc Try.prog W 0 (fun _ => true) true 25 v d p) : ∃ s : Leaf0, v = s.val := by
  obtain ⟨r, rfl, hr⟩ := open_struct_scalars Try.underlying25 (by kernel_rfl) (by kernel_rfl) (by kernel_rfl) hv h
  obtain ⟨s, rfl⟩ := fit_leaf0 Try.underlying3 Try.underlying3 hr
  exact ⟨s, rfl⟩
theorem leaf0s_at (l : List Leaf0) (i : Nat) (p : Leaf0) (h : l[i]? = some p) : (leaf0s l)[i * 2]? = some (.int .i64 p.o) ∧ (leaf0s l)[i * 2 + 1]? = some (.int .i64 p.d) := by
  have hall : ∀ r ∈ l.map Leaf0.cells, r.length = 2 := fun r hr => by
    obtain ⟨p, _, rfl⟩ := List.mem_map.1 hr; rfl
  unfold leaf0s
  have e0 : (i * 2) / 2 = i := by omega
  have f0 : (i * 2) % 2 = 0 := by omega
  have e1 : (i * 2 + 1) / 2 = i := by omega
  have f1 : (i * 2 + 1) % 2 = 1 := by omega
  rw [flat_at (by omega) _ hall, flat_at (by omega) _ hall, e0, f0, e1, f1, List.getElem?_map, h]
  exact ⟨rfl, rfl⟩
theorem leaf0_cells {W : World} {B : Nat} {a : Option Addr} {l : List Leaf0} (h : Sees W B a (leaf0s l)) (i : Nat) (p : Leaf0) (hp : l[i]? = some p) :
    ∃ b o, a = some ⟨b, o, none⟩ ∧ b < B ∧ W.cell? ⟨b, o + i * 2, none⟩ = some (.int .i64 p.o) ∧ W.cell? ⟨b, o + i * 2 + 1, none⟩ = some (.int .i64 p.d) := by
  obtain ⟨h0, h1⟩ := leaf0s_at l i p hp
  rcases h with h | ⟨b, o, ha, hb, hc⟩
  · rw [h] at h0; simp at h0
  · exact ⟨b, o, ha, hb, hc _ _ h0, hc _ _ h1⟩
theorem open_leaf0s {H : Type} {enc : TypeId × Value → H} {W : World} {a : Option Addr} {len cap : Nat} {d : DataW H} {p : List MemPlace} (h : DataW.Trod enc Try.prog W 0 (fun _ => true) true 40 (.slice a len cap) d p) :
    ∃ l : List Leaf0, l.length = len ∧ len ≤ cap ∧ cap ≤ maxLen ∧ Sees W W.heap.size a (leaf0s l) := by
  obtain ⟨R, hl, hc, hx, hs, hf⟩ := open_slice_scalars Try.underlying40 Try.underlying25 (by kernel_rfl) (by kernel_rfl) (by kernel_rfl) (by decide) h
  obtain ⟨l, rfl⟩ := all_leaf0 R fun r hr => fit_leaf0 Try.underlying3 Try.underlying3 (hf r hr)
  exact ⟨l, by simpa using hl, hc, hx, hs⟩

end Go.Proofs.Ytaknnkmdfimcbaa.Open
