/- What is wanted of the switch, tick by tick: how a law's arguments are opened. -/
import Derived.Test.YtfcdfkodafikdaaOpenT
import Derived.Test.YtfcdfkodafikdaaFedA
namespace Go.Proofs.Ytfcdfkodafikdaa.Open
open Go.ChangeShapes Go.WideShapes Go.ChangeAt Go.RowKit Go.Deep Go.Proofs.Ytfcdfkodafikdaa.Sees Go.Proofs.Ytfcdfkodafikdaa.FedP
set_option linter.unusedVariables false

/-- what is wanted, whether all is still, how long it takes -/
structure Sp where
  w : Int
  s : Bool
  d : Int
def Sp.cells (p : Sp) : List Value := [.int .i64 p.w, .bool p.s, .int .i64 p.d]
def Sp.val (p : Sp) : Value := .agg p.cells.toArray
def steps (l : List Sp) : List Value := (l.map Sp.cells).flatten
theorem fit_sp {P : Program} {t0 t1 t2 : TypeId} {n0 n1 n2 : Field} (h0 : P.underlying n0.type = some (.int .i64)) (h1 : P.underlying n1.type = some .bool) (h2 : P.underlying n2.type = some (.int .i64)) {r : List Value} (h : Fits P #[n0, n1, n2] r) : ∃ p : Sp, r = p.cells := by
  obtain ⟨hl, hf⟩ := h
  match r, hl with
  | [a, b, c], _ =>
    obtain ⟨v0, e0, k0⟩ := hf 0 n0 rfl
    obtain ⟨v1, e1, k1⟩ := hf 1 n1 rfl
    obtain ⟨v2, e2, k2⟩ := hf 2 n2 rfl
    simp at e0 e1 e2
    subst e0 e1 e2
    obtain ⟨x, rfl, _⟩ := k0.int h0
    obtain ⟨y, rfl⟩ := k1.bool h1
    obtain ⟨z, rfl, _⟩ := k2.int h2
    exact ⟨⟨x, y, z⟩, rfl⟩
theorem all_sp : ∀ R : List (List Value), (∀ r ∈ R, ∃ p : Sp, r = p.cells) → ∃ l : List Sp, R = l.map Sp.cells := by
  intro R
  induction R with
  | nil => exact fun _ => ⟨[], rfl⟩
  | cons r R ih =>
    intro h
    obtain ⟨p, rfl⟩ := h r List.mem_cons_self
    obtain ⟨l, rfl⟩ := ih fun r hr => h r (List.mem_cons_of_mem _ hr)
    exact ⟨p :: l, rfl⟩
theorem steps_at (l : List Sp) (i : Nat) (p : Sp) (h : l[i]? = some p) : (steps l)[i * 3]? = some (.int .i64 p.w) ∧ (steps l)[i * 3 + 1]? = some (.bool p.s) ∧ (steps l)[i * 3 + 2]? = some (.int .i64 p.d) := by
  have hall : ∀ r ∈ l.map Sp.cells, r.length = 3 := fun r hr => by
    obtain ⟨p, _, rfl⟩ := List.mem_map.1 hr; rfl
  unfold steps
  have e0 : i * 3 / 3 = i := by omega
  have e1 : (i * 3 + 1) / 3 = i := by omega
  have e2 : (i * 3 + 2) / 3 = i := by omega
  have f0 : i * 3 % 3 = 0 := by omega
  have f1 : (i * 3 + 1) % 3 = 1 := by omega
  have f2 : (i * 3 + 2) % 3 = 2 := by omega
  rw [flat_at (by omega) _ hall, flat_at (by omega) _ hall, flat_at (by omega) _ hall, e0, e1, e2, f0, f1, f2, List.getElem?_map, h]
  exact ⟨rfl, rfl, rfl⟩
theorem open_sp {H : Type} {enc : TypeId × Value → H} {W : World} {b0 : Nat} {v : Value} {d : DataW H} {p : List MemPlace} (hv : Value.okWide Try.prog W .any b0 25 v) (h : DataW.Trod enc Try.prog W 0 (fun _ => true) true 25 v d p) : ∃ s : Sp, v = s.val := by
  obtain ⟨r, rfl, hr⟩ := open_struct_scalars Try.underlying25 (by kernel_rfl) (by kernel_rfl) (by kernel_rfl) hv h
  obtain ⟨s, rfl⟩ := fit_sp (t0 := 0) (t1 := 0) (t2 := 0) Try.underlying3 Try.underlying4 Try.underlying3 hr
  exact ⟨s, rfl⟩
theorem open_sps {H : Type} {enc : TypeId × Value → H} {W : World} {a : Option Addr} {len cap : Nat} {d : DataW H} {p : List MemPlace} (h : DataW.Trod enc Try.prog W 0 (fun _ => true) true 43 (.slice a len cap) d p) :
    ∃ l : List Sp, l.length = len ∧ len ≤ cap ∧ cap ≤ maxLen ∧ Sees W W.heap.size a (steps l) := by
  obtain ⟨R, hl, hc, hx, hs, hf⟩ := open_slice_scalars Try.underlying43 Try.underlying25 (by kernel_rfl) (by kernel_rfl) (by kernel_rfl) (by decide) h
  obtain ⟨l, rfl⟩ := all_sp R fun r hr => fit_sp (t0 := 0) (t1 := 0) (t2 := 0) Try.underlying3 Try.underlying4 Try.underlying3 (hf r hr)
  exact ⟨l, by simpa using hl, hc, hx, hs⟩
theorem open_feed {H : Type} {enc : TypeId × Value → H} {W : World} {b0 : Nat} {v : Value} {d : DataW H} {p : List MemPlace} (hv : Value.okWide Try.prog W .any b0 23 v) (h : DataW.Trod enc Try.prog W 0 (fun _ => true) true 23 v d p) :
    ∃ f : F, v = Fed.val f ∧ f.l < 9223372036854775808 := by
  obtain ⟨r, rfl, hl, hf⟩ := open_struct_scalars Try.underlying23 (by kernel_rfl) (by kernel_rfl) (by kernel_rfl) hv h
  match r, hl with
  | [a, b, c], _ =>
    obtain ⟨v0, e0, k0⟩ := hf 0 _ rfl
    obtain ⟨v1, e1, k1⟩ := hf 1 _ rfl
    obtain ⟨v2, e2, k2⟩ := hf 2 _ rfl
    simp at e0 e1 e2
    subst e0 e1 e2
    obtain ⟨x, rfl, _⟩ := k0.int Try.underlying3
    obtain ⟨y, rfl, _⟩ := k1.int Try.underlying3
    obtain ⟨z, rfl, hz⟩ := k2.int Try.underlying3
    have := bounds_i64 hz
    exact ⟨⟨x, y, z⟩, rfl, by simp only; omega⟩

end Go.Proofs.Ytfcdfkodafikdaa.Open
