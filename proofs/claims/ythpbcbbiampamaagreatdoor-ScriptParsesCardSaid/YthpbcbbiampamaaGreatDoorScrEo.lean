/- How structs of integers and bools are opened, by value, and slices of such. -/
import Derived.Test.YthpbcbbiampamaaGreatDoorRows
import Derived.Test.YthpbcbbiampamaaGreatDoorOpenT
namespace Go.Proofs.YthpbcbbiampamaaGreatDoor.Open
open Go.ChangeShapes Go.WideShapes Go.ChangeAt Go.RowKit Go.Deep Go.Proofs.YthpbcbbiampamaaGreatDoor.Sees
set_option linter.unusedVariables false
set_option maxRecDepth 100000

structure Ev where
  k : Int
  c : Int
  n : Int
def Ev.cells (p : Ev) : List Value := [.int .i64 p.k, .int .i64 p.c, .int .i64 p.n]
def Ev.val (p : Ev) : Value := .agg #[.int .i64 p.k, .int .i64 p.c, .int .i64 p.n]
def evs (l : List Ev) : List Value := (l.map Ev.cells).flatten
def Ev.wf (p : Ev) : Prop := (Lit.int .i64 p.k).wf = true ∧ (Lit.int .i64 p.c).wf = true ∧ (Lit.int .i64 p.n).wf = true
theorem fit_ev {P : Program} {n0 n1 n2 : Field} (h0 : P.underlying n0.type = some (.int .i64)) (h1 : P.underlying n1.type = some (.int .i64)) (h2 : P.underlying n2.type = some (.int .i64)) {r : List Value} (h : Fits P #[n0, n1, n2] r) : ∃ p : Ev, r = p.cells ∧ p.wf := by
  obtain ⟨hl, hf⟩ := h
  match r, hl with
  | [a0, a1, a2], _ =>
    obtain ⟨v0, e0, k0⟩ := hf 0 n0 rfl
    obtain ⟨v1, e1, k1⟩ := hf 1 n1 rfl
    obtain ⟨v2, e2, k2⟩ := hf 2 n2 rfl
    simp at e0 e1 e2
    subst e0 e1 e2
    obtain ⟨x0, rfl, y0⟩ := k0.int h0
    obtain ⟨x1, rfl, y1⟩ := k1.int h1
    obtain ⟨x2, rfl, y2⟩ := k2.int h2
    exact ⟨⟨x0, x1, x2⟩, rfl, y0, y1, y2⟩
theorem all_ev : ∀ R : List (List Value), (∀ r ∈ R, ∃ p : Ev, r = p.cells ∧ p.wf) → ∃ l : List Ev, R = l.map Ev.cells ∧ ∀ p ∈ l, p.wf := by
  intro R
  induction R with
  | nil => exact fun _ => ⟨[], rfl, fun p hp => by cases hp⟩
  | cons r R ih =>
    intro h
    obtain ⟨p, rfl, hp⟩ := h r List.mem_cons_self
    obtain ⟨l, rfl, hl⟩ := ih fun r hr => h r (List.mem_cons_of_mem _ hr)
    exact ⟨p :: l, rfl, fun q hq => (List.mem_cons.1 hq).elim (fun e => e ▸ hp) (hl q)⟩
theorem open_ev {H : Type} {enc : TypeId × Value → H} {W : World} {b0 : Nat} {v : Value} {d : DataW H} {p : List MemPlace} (hv : Value.okWide Tryz.prog W .any b0 49 v) (h : DataW.Trod enc Tryz.prog W 0 (fun _ => true) true 49 v d p) : ∃ s : Ev, v = s.val ∧ s.wf := by
  obtain ⟨r, rfl, hr⟩ := open_struct_scalars Tryz.underlying49 (by kernel_rfl) (by kernel_rfl) (by kernel_rfl) hv h
  obtain ⟨s, rfl, hw⟩ := fit_ev Tryz.underlying3 Tryz.underlying3 Tryz.underlying3 hr
  exact ⟨s, rfl, hw⟩
theorem evs_at (l : List Ev) (i : Nat) (p : Ev) (h : l[i]? = some p) : (evs l)[i * 3]? = some (.int .i64 p.k) ∧ (evs l)[i * 3 + 1]? = some (.int .i64 p.c) ∧ (evs l)[i * 3 + 2]? = some (.int .i64 p.n) := by
  have hall : ∀ r ∈ l.map Ev.cells, r.length = 3 := fun r hr => by
    obtain ⟨p, _, rfl⟩ := List.mem_map.1 hr; rfl
  unfold evs
  have e0 : (i * 3) / 3 = i := by omega
  have f0 : (i * 3) % 3 = 0 := by omega
  have e1 : (i * 3 + 1) / 3 = i := by omega
  have f1 : (i * 3 + 1) % 3 = 1 := by omega
  have e2 : (i * 3 + 2) / 3 = i := by omega
  have f2 : (i * 3 + 2) % 3 = 2 := by omega
  rw [flat_at (by omega) _ hall, flat_at (by omega) _ hall, flat_at (by omega) _ hall, e0, f0, e1, f1, e2, f2, List.getElem?_map, h]
  exact ⟨rfl, rfl, rfl⟩
theorem ev_cells {W : World} {B : Nat} {a : Option Addr} {l : List Ev} (h : Sees W B a (evs l)) (i : Nat) (p : Ev) (hp : l[i]? = some p) :
    ∃ b o, a = some ⟨b, o, none⟩ ∧ b < B ∧ W.cell? ⟨b, o + i * 3, none⟩ = some (.int .i64 p.k) ∧ W.cell? ⟨b, o + i * 3 + 1, none⟩ = some (.int .i64 p.c) ∧ W.cell? ⟨b, o + i * 3 + 2, none⟩ = some (.int .i64 p.n) := by
  obtain ⟨h0, h1, h2⟩ := evs_at l i p hp
  rcases h with h | ⟨b, o, ha, hb, hc⟩
  · rw [h] at h0; simp at h0
  · exact ⟨b, o, ha, hb, hc _ _ h0, hc _ _ h1, hc _ _ h2⟩
theorem open_evs {H : Type} {enc : TypeId × Value → H} {W : World} {a : Option Addr} {len cap : Nat} {d : DataW H} {p : List MemPlace} (h : DataW.Trod enc Tryz.prog W 0 (fun _ => true) true 23 (.slice a len cap) d p) :
    ∃ l : List Ev, l.length = len ∧ len ≤ cap ∧ cap ≤ maxLen ∧ Sees W W.heap.size a (evs l) ∧ ∀ p ∈ l, p.wf := by
  obtain ⟨R, hl, hc, hx, hs, hf⟩ := open_slice_scalars Tryz.underlying23 Tryz.underlying49 (by kernel_rfl) (by kernel_rfl) (by kernel_rfl) (by decide) h
  obtain ⟨l, rfl, hw⟩ := all_ev R fun r hr => fit_ev Tryz.underlying3 Tryz.underlying3 Tryz.underlying3 (hf r hr)
  exact ⟨l, by simpa using hl, hc, hx, hs, hw⟩

end Go.Proofs.YthpbcbbiampamaaGreatDoor.Open
