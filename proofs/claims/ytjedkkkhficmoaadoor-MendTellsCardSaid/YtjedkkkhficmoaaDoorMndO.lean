/- How structs of integers and bools are opened, by value, and slices of such. -/
import Derived.Test.YtjedkkkhficmoaaDoorRows
import Derived.Test.YtjedkkkhficmoaaDoorOpenT
namespace Go.Proofs.YtjedkkkhficmoaaDoor.Open
open Go.ChangeShapes Go.WideShapes Go.ChangeAt Go.RowKit Go.Deep Go.Proofs.YtjedkkkhficmoaaDoor.Sees
set_option linter.unusedVariables false
set_option maxRecDepth 100000

structure Mv where
  c : Int
  p : Int
def Mv.cells (p : Mv) : List Value := [.int .i64 p.c, .int .i64 p.p]
def Mv.val (p : Mv) : Value := .agg #[.int .i64 p.c, .int .i64 p.p]
def mvs (l : List Mv) : List Value := (l.map Mv.cells).flatten
theorem fit_mv {P : Program} {n0 n1 : Field} (h0 : P.underlying n0.type = some (.int .i64)) (h1 : P.underlying n1.type = some (.int .i64)) {r : List Value} (h : Fits P #[n0, n1] r) : ∃ p : Mv, r = p.cells := by
  obtain ⟨hl, hf⟩ := h
  match r, hl with
  | [a0, a1], _ =>
    obtain ⟨v0, e0, k0⟩ := hf 0 n0 rfl
    obtain ⟨v1, e1, k1⟩ := hf 1 n1 rfl
    simp at e0 e1
    subst e0 e1
    obtain ⟨x0, rfl, _⟩ := k0.int h0
    obtain ⟨x1, rfl, _⟩ := k1.int h1
    exact ⟨⟨x0, x1⟩, rfl⟩
theorem all_mv : ∀ R : List (List Value), (∀ r ∈ R, ∃ p : Mv, r = p.cells) → ∃ l : List Mv, R = l.map Mv.cells := by
  intro R
  induction R with
  | nil => exact fun _ => ⟨[], rfl⟩
  | cons r R ih =>
    intro h
    obtain ⟨p, rfl⟩ := h r List.mem_cons_self
    obtain ⟨l, rfl⟩ := ih fun r hr => h r (List.mem_cons_of_mem _ hr)
    exact ⟨p :: l, rfl⟩
theorem open_mv {H : Type} {enc : TypeId × Value → H} {W : World} {b0 : Nat} {v : Value} {d : DataW H} {p : List MemPlace} (hv : Value.okWide Tryd.prog W .any b0 28 v) (h : DataW.Trod enc Tryd.prog W 0 (fun _ => true) true 28 v d p) : ∃ s : Mv, v = s.val := by
  obtain ⟨r, rfl, hr⟩ := open_struct_scalars Tryd.underlying28 (by kernel_rfl) (by kernel_rfl) (by kernel_rfl) hv h
  obtain ⟨s, rfl⟩ := fit_mv Tryd.underlying3 Tryd.underlying3 hr
  exact ⟨s, rfl⟩
theorem mvs_at (l : List Mv) (i : Nat) (p : Mv) (h : l[i]? = some p) : (mvs l)[i * 2]? = some (.int .i64 p.c) ∧ (mvs l)[i * 2 + 1]? = some (.int .i64 p.p) := by
  have hall : ∀ r ∈ l.map Mv.cells, r.length = 2 := fun r hr => by
    obtain ⟨p, _, rfl⟩ := List.mem_map.1 hr; rfl
  unfold mvs
  have e0 : (i * 2) / 2 = i := by omega
  have f0 : (i * 2) % 2 = 0 := by omega
  have e1 : (i * 2 + 1) / 2 = i := by omega
  have f1 : (i * 2 + 1) % 2 = 1 := by omega
  rw [flat_at (by omega) _ hall, flat_at (by omega) _ hall, e0, f0, e1, f1, List.getElem?_map, h]
  exact ⟨rfl, rfl⟩
theorem mv_cells {W : World} {B : Nat} {a : Option Addr} {l : List Mv} (h : Sees W B a (mvs l)) (i : Nat) (p : Mv) (hp : l[i]? = some p) :
    ∃ b o, a = some ⟨b, o, none⟩ ∧ b < B ∧ W.cell? ⟨b, o + i * 2, none⟩ = some (.int .i64 p.c) ∧ W.cell? ⟨b, o + i * 2 + 1, none⟩ = some (.int .i64 p.p) := by
  obtain ⟨h0, h1⟩ := mvs_at l i p hp
  rcases h with h | ⟨b, o, ha, hb, hc⟩
  · rw [h] at h0; simp at h0
  · exact ⟨b, o, ha, hb, hc _ _ h0, hc _ _ h1⟩
theorem open_mvs {H : Type} {enc : TypeId × Value → H} {W : World} {a : Option Addr} {len cap : Nat} {d : DataW H} {p : List MemPlace} (h : DataW.Trod enc Tryd.prog W 0 (fun _ => true) true 23 (.slice a len cap) d p) :
    ∃ l : List Mv, l.length = len ∧ len ≤ cap ∧ cap ≤ maxLen ∧ Sees W W.heap.size a (mvs l) := by
  obtain ⟨R, hl, hc, hx, hs, hf⟩ := open_slice_scalars Tryd.underlying23 Tryd.underlying28 (by kernel_rfl) (by kernel_rfl) (by kernel_rfl) (by decide) h
  obtain ⟨l, rfl⟩ := all_mv R fun r hr => fit_mv Tryd.underlying3 Tryd.underlying3 (hf r hr)
  exact ⟨l, by simpa using hl, hc, hx, hs⟩

end Go.Proofs.YtjedkkkhficmoaaDoor.Open
