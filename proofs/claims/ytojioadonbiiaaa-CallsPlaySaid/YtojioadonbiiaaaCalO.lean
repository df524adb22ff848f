/- How structs of integers and bools are opened, by value, and slices of such. -/
import Derived.Test.YtojioadonbiiaaaRows
import Derived.Test.YtojioadonbiiaaaOpenT
namespace Go.Proofs.Ytojioadonbiiaaa.Open
open Go.ChangeShapes Go.WideShapes Go.ChangeAt Go.RowKit Go.Deep Go.Proofs.Ytojioadonbiiaaa.Sees
set_option linter.unusedVariables false
set_option maxRecDepth 100000

structure CAc where
  k : Int
  c : Int
  f : Int
  h : Bool
def CAc.cells (p : CAc) : List Value := [.int .i64 p.k, .int .i64 p.c, .int .i64 p.f, .bool p.h]
def CAc.val (p : CAc) : Value := .agg #[.int .i64 p.k, .int .i64 p.c, .int .i64 p.f, .bool p.h]
def cAcs (l : List CAc) : List Value := (l.map CAc.cells).flatten
theorem fit_cAc {P : Program} {n0 n1 n2 n3 : Field} (h0 : P.underlying n0.type = some (.int .i64)) (h1 : P.underlying n1.type = some (.int .i64)) (h2 : P.underlying n2.type = some (.int .i64)) (h3 : P.underlying n3.type = some .bool) {r : List Value} (h : Fits P #[n0, n1, n2, n3] r) : ∃ p : CAc, r = p.cells := by
  obtain ⟨hl, hf⟩ := h
  match r, hl with
  | [a0, a1, a2, a3], _ =>
    obtain ⟨v0, e0, k0⟩ := hf 0 n0 rfl
    obtain ⟨v1, e1, k1⟩ := hf 1 n1 rfl
    obtain ⟨v2, e2, k2⟩ := hf 2 n2 rfl
    obtain ⟨v3, e3, k3⟩ := hf 3 n3 rfl
    simp at e0 e1 e2 e3
    subst e0 e1 e2 e3
    obtain ⟨x0, rfl, _⟩ := k0.int h0
    obtain ⟨x1, rfl, _⟩ := k1.int h1
    obtain ⟨x2, rfl, _⟩ := k2.int h2
    obtain ⟨x3, rfl⟩ := k3.bool h3
    exact ⟨⟨x0, x1, x2, x3⟩, rfl⟩
theorem all_cAc : ∀ R : List (List Value), (∀ r ∈ R, ∃ p : CAc, r = p.cells) → ∃ l : List CAc, R = l.map CAc.cells := by
  intro R
  induction R with
  | nil => exact fun _ => ⟨[], rfl⟩
  | cons r R ih =>
    intro h
    obtain ⟨p, rfl⟩ := h r List.mem_cons_self
    obtain ⟨l, rfl⟩ := ih fun r hr => h r (List.mem_cons_of_mem _ hr)
    exact ⟨p :: l, rfl⟩
theorem open_cAc {H : Type} {enc : TypeId × Value → H} {W : World} {b0 : Nat} {v : Value} {d : DataW H} {p : List MemPlace} (hv : Value.okWide Try.prog W .any b0 30 v) (h : DataW.Trod enc Try.prog W 0 (fun _ => true) true 30 v d p) : ∃ s : CAc, v = s.val := by
  obtain ⟨r, rfl, hr⟩ := open_struct_scalars Try.underlying30 (by kernel_rfl) (by kernel_rfl) (by kernel_rfl) hv h
  obtain ⟨s, rfl⟩ := fit_cAc Try.underlying3 Try.underlying3 Try.underlying3 Try.underlying4 hr
  exact ⟨s, rfl⟩
theorem cAcs_at (l : List CAc) (i : Nat) (p : CAc) (h : l[i]? = some p) : (cAcs l)[i * 4]? = some (.int .i64 p.k) ∧ (cAcs l)[i * 4 + 1]? = some (.int .i64 p.c) ∧ (cAcs l)[i * 4 + 2]? = some (.int .i64 p.f) ∧ (cAcs l)[i * 4 + 3]? = some (.bool p.h) := by
  have hall : ∀ r ∈ l.map CAc.cells, r.length = 4 := fun r hr => by
    obtain ⟨p, _, rfl⟩ := List.mem_map.1 hr; rfl
  unfold cAcs
  have e0 : (i * 4) / 4 = i := by omega
  have f0 : (i * 4) % 4 = 0 := by omega
  have e1 : (i * 4 + 1) / 4 = i := by omega
  have f1 : (i * 4 + 1) % 4 = 1 := by omega
  have e2 : (i * 4 + 2) / 4 = i := by omega
  have f2 : (i * 4 + 2) % 4 = 2 := by omega
  have e3 : (i * 4 + 3) / 4 = i := by omega
  have f3 : (i * 4 + 3) % 4 = 3 := by omega
  rw [flat_at (by omega) _ hall, flat_at (by omega) _ hall, flat_at (by omega) _ hall, flat_at (by omega) _ hall, e0, f0, e1, f1, e2, f2, e3, f3, List.getElem?_map, h]
  exact ⟨rfl, rfl, rfl, rfl⟩
theorem cAc_cells {W : World} {B : Nat} {a : Option Addr} {l : List CAc} (h : Sees W B a (cAcs l)) (i : Nat) (p : CAc) (hp : l[i]? = some p) :
    ∃ b o, a = some ⟨b, o, none⟩ ∧ b < B ∧ W.cell? ⟨b, o + i * 4, none⟩ = some (.int .i64 p.k) ∧ W.cell? ⟨b, o + i * 4 + 1, none⟩ = some (.int .i64 p.c) ∧ W.cell? ⟨b, o + i * 4 + 2, none⟩ = some (.int .i64 p.f) ∧ W.cell? ⟨b, o + i * 4 + 3, none⟩ = some (.bool p.h) := by
  obtain ⟨h0, h1, h2, h3⟩ := cAcs_at l i p hp
  rcases h with h | ⟨b, o, ha, hb, hc⟩
  · rw [h] at h0; simp at h0
  · exact ⟨b, o, ha, hb, hc _ _ h0, hc _ _ h1, hc _ _ h2, hc _ _ h3⟩
theorem open_cAcs {H : Type} {enc : TypeId × Value → H} {W : World} {a : Option Addr} {len cap : Nat} {d : DataW H} {p : List MemPlace} (h : DataW.Trod enc Try.prog W 0 (fun _ => true) true 22 (.slice a len cap) d p) :
    ∃ l : List CAc, l.length = len ∧ len ≤ cap ∧ cap ≤ maxLen ∧ Sees W W.heap.size a (cAcs l) := by
  obtain ⟨R, hl, hc, hx, hs, hf⟩ := open_slice_scalars Try.underlying22 Try.underlying30 (by kernel_rfl) (by kernel_rfl) (by kernel_rfl) (by decide) h
  obtain ⟨l, rfl⟩ := all_cAc R fun r hr => fit_cAc Try.underlying3 Try.underlying3 Try.underlying3 Try.underlying4 (hf r hr)
  exact ⟨l, by simpa using hl, hc, hx, hs⟩

end Go.Proofs.Ytojioadonbiiaaa.Open
