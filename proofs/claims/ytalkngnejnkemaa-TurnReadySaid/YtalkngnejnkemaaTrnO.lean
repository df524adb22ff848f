/- How structs of integers and bools are opened, by value, and slices of such. -/
import Derived.Test.YtalkngnejnkemaaRows
import Derived.Test.YtalkngnejnkemaaOpenT
namespace Go.Proofs.Ytalkngnejnkemaa.Open
open Go.ChangeShapes Go.WideShapes Go.ChangeAt Go.RowKit Go.Deep Go.Proofs.Ytalkngnejnkemaa.Sees
set_option linter.unusedVariables false
set_option maxRecDepth 100000

structure Tn where
  c : Int
  l : Int
def Tn.cells (p : Tn) : List Value := [.int .i64 p.c, .int .i64 p.l]
def Tn.val (p : Tn) : Value := .agg #[.int .i64 p.c, .int .i64 p.l]
def tns (l : List Tn) : List Value := (l.map Tn.cells).flatten
theorem fit_tn {P : Program} {n0 n1 : Field} (h0 : P.underlying n0.type = some (.int .i64)) (h1 : P.underlying n1.type = some (.int .i64)) {r : List Value} (h : Fits P #[n0, n1] r) : ∃ p : Tn, r = p.cells := by
  obtain ⟨hl, hf⟩ := h
  match r, hl with
  | [a0, a1], _ =>
    obtain ⟨v0, e0, k0⟩ := hf 0 n0 rfl
    obtain ⟨v1, e1, k1⟩ := hf 1 n1 rfl
    simp at e0 e1
    subst e0 e1
    obtain ⟨x0, rfl, _⟩ := k0.int h0
    obtain ⟨x1, rfl, _⟩ := k1.int h1
    exact ⟨⟨x0, x1⟩, rfl⟩
theorem all_tn : ∀ R : List (List Value), (∀ r ∈ R, ∃ p : Tn, r = p.cells) → ∃ l : List Tn, R = l.map Tn.cells := by
  intro R
  induction R with
  | nil => exact fun _ => ⟨[], rfl⟩
  | cons r R ih =>
    intro h
    obtain ⟨p, rfl⟩ := h r List.mem_cons_self
    obtain ⟨l, rfl⟩ := ih fun r hr => h r (List.mem_cons_of_mem _ hr)
    exact ⟨p :: l, rfl⟩
theorem open_tn {H : Type} {enc : TypeId × Value → H} {W : World} {b0 : Nat} {v : Value} {d : DataW H} {p : List MemPlace} (hv : Value.okWide Try.prog W .any b0 23 v) (h : DataW.Trod enc Try.prog W 0 (fun _ => true) true 23 v d p) : ∃ s : Tn, v = s.val := by
  obtain ⟨r, rfl, hr⟩ := open_struct_scalars Try.underlying23 (by kernel_rfl) (by kernel_rfl) (by kernel_rfl) hv h
  obtain ⟨s, rfl⟩ := fit_tn Try.underlying3 Try.underlying3 hr
  exact ⟨s, rfl⟩

structure Ac where
  r : Int
  b : Bool
  h : Bool
  c : Int
def Ac.cells (p : Ac) : List Value := [.int .u64 p.r, .bool p.b, .bool p.h, .int .i64 p.c]
def Ac.val (p : Ac) : Value := .agg #[.int .u64 p.r, .bool p.b, .bool p.h, .int .i64 p.c]
def acs (l : List Ac) : List Value := (l.map Ac.cells).flatten
def Ac.wf (p : Ac) : Prop := (Lit.int .u64 p.r).wf = true ∧ (Lit.int .i64 p.c).wf = true
theorem fit_ac {P : Program} {n0 n1 n2 n3 : Field} (h0 : P.underlying n0.type = some (.int .u64)) (h1 : P.underlying n1.type = some .bool) (h2 : P.underlying n2.type = some .bool) (h3 : P.underlying n3.type = some (.int .i64)) {r : List Value} (h : Fits P #[n0, n1, n2, n3] r) : ∃ p : Ac, r = p.cells ∧ p.wf := by
  obtain ⟨hl, hf⟩ := h
  match r, hl with
  | [a0, a1, a2, a3], _ =>
    obtain ⟨v0, e0, k0⟩ := hf 0 n0 rfl
    obtain ⟨v1, e1, k1⟩ := hf 1 n1 rfl
    obtain ⟨v2, e2, k2⟩ := hf 2 n2 rfl
    obtain ⟨v3, e3, k3⟩ := hf 3 n3 rfl
    simp at e0 e1 e2 e3
    subst e0 e1 e2 e3
    obtain ⟨x0, rfl, y0⟩ := k0.int h0
    obtain ⟨x1, rfl⟩ := k1.bool h1
    obtain ⟨x2, rfl⟩ := k2.bool h2
    obtain ⟨x3, rfl, y3⟩ := k3.int h3
    exact ⟨⟨x0, x1, x2, x3⟩, rfl, y0, y3⟩
theorem all_ac : ∀ R : List (List Value), (∀ r ∈ R, ∃ p : Ac, r = p.cells ∧ p.wf) → ∃ l : List Ac, R = l.map Ac.cells ∧ ∀ p ∈ l, p.wf := by
  intro R
  induction R with
  | nil => exact fun _ => ⟨[], rfl, fun p hp => by cases hp⟩
  | cons r R ih =>
    intro h
    obtain ⟨p, rfl, hp⟩ := h r List.mem_cons_self
    obtain ⟨l, rfl, hl⟩ := ih fun r hr => h r (List.mem_cons_of_mem _ hr)
    exact ⟨p :: l, rfl, fun q hq => (List.mem_cons.1 hq).elim (fun e => e ▸ hp) (hl q)⟩
theorem open_ac {H : Type} {enc : TypeId × Value → H} {W : World} {b0 : Nat} {v : Value} {d : DataW H} {p : List MemPlace} (hv : Value.okWide Try.prog W .any b0 26 v) (h : DataW.Trod enc Try.prog W 0 (fun _ => true) true 26 v d p) : ∃ s : Ac, v = s.val ∧ s.wf := by
  obtain ⟨r, rfl, hr⟩ := open_struct_scalars Try.underlying26 (by kernel_rfl) (by kernel_rfl) (by kernel_rfl) hv h
  obtain ⟨s, rfl, hw⟩ := fit_ac Try.underlying24 Try.underlying4 Try.underlying4 Try.underlying3 hr
  exact ⟨s, rfl, hw⟩
theorem acs_at (l : List Ac) (i : Nat) (p : Ac) (h : l[i]? = some p) : (acs l)[i * 4]? = some (.int .u64 p.r) ∧ (acs l)[i * 4 + 1]? = some (.bool p.b) ∧ (acs l)[i * 4 + 2]? = some (.bool p.h) ∧ (acs l)[i * 4 + 3]? = some (.int .i64 p.c) := by
  have hall : ∀ r ∈ l.map Ac.cells, r.length = 4 := fun r hr => by
    obtain ⟨p, _, rfl⟩ := List.mem_map.1 hr; rfl
  unfold acs
  have e0 : (i * 4) / 4 = i := by omega
  have f0 : (i * 4) % 4 = 0 := by omega
  have e1 : (i * 4 + 1) / 4 = i := by omega
  have f1 : (i * 4 + 1) % 4 = 1 := by omega
  have e2 : (i * 4 + 2) / 4 = i := by omega
  have f2 : (i * 4 + 2) % 4 = 2 := by omega
  have e3 : (i * 4 + 3) / 4 = i := by omega
  have f3 : (i * 4 + 3) % 4 = 3 := by omega
  rw [flat_at (by omega) _ hall, flat_at (by omega) _ hall, flat_at (by omega) _ hall, flat_at (by omega) _ hall, e0, f0, e1, f1, e2, f2, e3, f3, List.getElem?_map, h]
  exact ⟨rfl, rfl, rfl, rfl⟩
theorem ac_cells {W : World} {B : Nat} {a : Option Addr} {l : List Ac} (h : Sees W B a (acs l)) (i : Nat) (p : Ac) (hp : l[i]? = some p) :
    ∃ b o, a = some ⟨b, o, none⟩ ∧ b < B ∧ W.cell? ⟨b, o + i * 4, none⟩ = some (.int .u64 p.r) ∧ W.cell? ⟨b, o + i * 4 + 1, none⟩ = some (.bool p.b) ∧ W.cell? ⟨b, o + i * 4 + 2, none⟩ = some (.bool p.h) ∧ W.cell? ⟨b, o + i * 4 + 3, none⟩ = some (.int .i64 p.c) := by
  obtain ⟨h0, h1, h2, h3⟩ := acs_at l i p hp
  rcases h with h | ⟨b, o, ha, hb, hc⟩
  · rw [h] at h0; simp at h0
  · exact ⟨b, o, ha, hb, hc _ _ h0, hc _ _ h1, hc _ _ h2, hc _ _ h3⟩
theorem open_acs {H : Type} {enc : TypeId × Value → H} {W : World} {a : Option Addr} {len cap : Nat} {d : DataW H} {p : List MemPlace} (h : DataW.Trod enc Try.prog W 0 (fun _ => true) true 36 (.slice a len cap) d p) :
    ∃ l : List Ac, l.length = len ∧ len ≤ cap ∧ cap ≤ maxLen ∧ Sees W W.heap.size a (acs l) ∧ ∀ p ∈ l, p.wf := by
  obtain ⟨R, hl, hc, hx, hs, hf⟩ := open_slice_scalars Try.underlying36 Try.underlying26 (by kernel_rfl) (by kernel_rfl) (by kernel_rfl) (by decide) h
  obtain ⟨l, rfl, hw⟩ := all_ac R fun r hr => fit_ac Try.underlying24 Try.underlying4 Try.underlying4 Try.underlying3 (hf r hr)
  exact ⟨l, by simpa using hl, hc, hx, hs, hw⟩

end Go.Proofs.Ytalkngnejnkemaa.Open
