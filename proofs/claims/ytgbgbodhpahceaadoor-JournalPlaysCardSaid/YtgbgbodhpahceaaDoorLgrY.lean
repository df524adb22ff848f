import Derived.Test.YtgbgbodhpahceaaDoorOpenS
import Derived.Test.YtgbgbodhpahceaaDoorLgrP
import Derived.Deep.Slices
import Derived.Test.YtgbgbodhpahceaaDoorOpenT

/- How an argument of type ledger.Ledger is opened. -/
namespace Go.Proofs.YtgbgbodhpahceaaDoor.Open
open Go.ChangeShapes Go.WideShapes Go.ChangeAt Go.RowKit Go.Deep Go.Proofs.YtgbgbodhpahceaaDoor.LgrP Go.Proofs.YtgbgbodhpahceaaDoor.Sees
set_option linter.unusedVariables false
set_option maxRecDepth 100000

section
variable {H : Type} {enc : TypeId × Value → H} {W : World}
theorem lg_int {n : Nat} {c : List Value} {y : DataW H × List MemPlace} (h : DataW.trod enc Tryd.prog W 0 (fun _ => true) true n 3 c = some y) : ∃ z : Int, c = [.int .i64 z] := by
  obtain ⟨z, hz, _⟩ := DataW.trod_int Tryd.underlying3 h
  exact ⟨z, hz⟩
theorem lg_row {n : Nat} {cs : List Value} {y : DataW H × List MemPlace} (h : DataW.trod enc Tryd.prog W 0 (fun _ => true) true n 22 cs = some y) :
    ∃ (A : Option Addr) (cb : Nat) (l : List Pm), cs = [.slice A l.length cb] ∧ l.length ≤ cb ∧ cb ≤ maxLen ∧ Sees W W.heap.size A (pms l) := by
  rcases open_slice Tryd.underlying22 h with ⟨rfl, _⟩ | ⟨a, len, cap, m, n', D, Pl, rfl, _, hl, hm, hmm, _, hi⟩
  · exact ⟨none, 0, [], rfl, Nat.le_refl _, Nat.zero_le _, .inl rfl⟩
  · obtain ⟨zs, h1, h2, h3, h4⟩ := open_pms (enc := enc) (W := W) (a := some a) (len := len) (cap := cap) ⟨n, h⟩
    subst h1
    exact ⟨some a, _, zs, rfl, h2, h3, h4⟩
set_option maxRecDepth 100000 in
theorem open_lg {b0 : Nat} {v : Value} {d : DataW H} {p : List MemPlace} (hv : Value.okWide Tryd.prog W .any b0 24 v) (h : DataW.Trod enc Tryd.prog W 0 (fun _ => true) true 24 v d p) : ∃ x : Lg, v = x.val ∧ x.In W := by
  obtain ⟨cs, rfl, hsz⟩ := okWide_struct Tryd.underlying24 hv
  obtain ⟨fuel, hf⟩ := h
  obtain ⟨xs, m, _, _, hlen, hx, hg⟩ := DataW.trod_struct Tryd.underlying24 hf
  obtain ⟨l⟩ := cs
  have hl : l.length = 4 := hlen.trans (by kernel_rfl)
  clear hlen
  match l, hl with
  | [c0, c1, c2, c3], _ =>
    match xs, hx with
    | [x0, x1, x2, x3], _ =>
      obtain ⟨z0, h0⟩ := lg_int (c := [c0]) (y := x0) (hg 0 _ rfl)
      obtain ⟨z1, h1⟩ := lg_int (c := [c1]) (y := x1) (hg 1 _ rfl)
      obtain ⟨z2, h2⟩ := lg_int (c := [c2]) (y := x2) (hg 2 _ rfl)
      obtain ⟨A, cb, r, h3, hc, hm, hs⟩ := lg_row (cs := [c3]) (y := x3) (hg 3 _ rfl)
      injection h0 with h0; injection h1 with h1; injection h2 with h2; injection h3 with h3
      subst h0 h1 h2 h3
      exact ⟨⟨z0, z1, z2, A, cb, r⟩, rfl, hc, hm, hs⟩
end

end Go.Proofs.YtgbgbodhpahceaaDoor.Open

/- How slices of ledgers, and of acts, are opened. -/
namespace Go.Proofs.YtgbgbodhpahceaaDoor.Open
open Go.ChangeShapes Go.WideShapes Go.ChangeAt Go.RowKit Go.Deep Go.Proofs.YtgbgbodhpahceaaDoor.LgrP Go.Proofs.YtgbgbodhpahceaaDoor.Sees
set_option linter.unusedVariables false
set_option maxRecDepth 100000

section
variable {H : Type} {enc : TypeId × Value → H} {W : World}
/-- a slice of anything whose cells are told -/
theorem open_structs {α : Type} [Inhabited α] {t e : TypeId} {C : Nat} {a : Option Addr} {len cap : Nat} {d : DataW H} {p : List MemPlace} (cells : α → List Value) (ok : α → Prop) (ht : Tryd.prog.underlying t = some (.slice e)) (hC : Tryd.prog.cellsOf e = C) (h0 : 0 < C)
    (hl : ∀ x, (cells x).length = C) (hone : ∀ n cs y, DataW.trod enc Tryd.prog W 0 (fun _ => true) true n e cs = some y → ∃ x, cs = cells x ∧ ok x)
    (h : DataW.Trod enc Tryd.prog W 0 (fun _ => true) true t (.slice a len cap) d p) :
    ∃ l : List α, l.length = len ∧ len ≤ cap ∧ cap ≤ maxLen ∧ Sees W W.heap.size a (l.map cells).flatten ∧ ∀ x ∈ l, ok x := by
  obtain ⟨fuel, hf⟩ := h
  rcases open_slice ht hf with ⟨hcs, _⟩ | ⟨x, l, c, m, n, D, Pl, hcs, _, hl2, hm, hmm, _, hx⟩
  · simp [Value.cells] at hcs
    obtain ⟨rfl, rfl, rfl⟩ := hcs
    exact ⟨[], rfl, Nat.le_refl _, Nat.zero_le _, .inl rfl, fun r hr => by cases hr⟩
  · simp [Value.cells] at hcs
    obtain ⟨rfl, rfl, rfl⟩ := hcs
    simp only [if_true] at hmm
    subst hmm
    have each : ∀ i, i < m → ∃ r : α, ok r ∧ ∀ j, j < C → W.cell? (x.add (i * C + j)) = (cells r)[j]? := fun i hi => by
      obtain ⟨cs, h1, h2⟩ := hx i hi
      rw [hC] at h1
      obtain ⟨_, hlen, hcell⟩ := World.cells?_some h1
      obtain ⟨r, rfl, hr⟩ := hone _ _ _ h2
      refine ⟨r, hr, fun j hj => ?_⟩
      have := hcell j hj
      rw [add_add] at this
      exact this
    obtain ⟨r, hr⟩ := choose_lt each
    refine ⟨(List.range len).map r, by simp, hl2, hm, sees_of fun j u hu => ?_, fun s hs => ?_⟩
    · rw [flat_at h0 _ (fun s hs => by
        obtain ⟨i, hi, rfl⟩ := List.mem_map.1 hs
        exact hl _) j] at hu
      obtain ⟨s, hs, hu⟩ := Option.bind_eq_some_iff.1 hu
      rw [List.getElem?_map] at hs
      obtain ⟨i, hi, rfl⟩ := Option.map_eq_some_iff.1 hs
      obtain ⟨hi1, hi2⟩ := List.getElem?_eq_some_iff.1 hi
      simp only [List.getElem_map, List.getElem_range, List.length_map, List.length_range] at hi1 hi2
      subst hi2
      have hq := (hr (j / C) (by omega)).2 (j % C) (Nat.mod_lt _ h0)
      rw [Nat.div_add_mod' j C, hu] at hq
      exact hq
    · obtain ⟨i, hi, rfl⟩ := List.mem_map.1 hs
      exact (hr i (by have := List.mem_range.1 hi; omega)).1
instance : Inhabited Lg := ⟨⟨0, 0, 0, none, 0, []⟩⟩
def lgc (x : Lg) : List Value := [.int .i64 x.b, .int .i64 x.m, .int .i64 x.k, .slice x.A x.l.length x.cap]
theorem lg_cells {n : Nat} {cs : List Value} {y : DataW H × List MemPlace} (h : DataW.trod enc Tryd.prog W 0 (fun _ => true) true n 24 cs = some y) : ∃ x : Lg, cs = lgc x ∧ x.In W := by
  obtain ⟨xs, m, _, _, hlen, hx, hg⟩ := DataW.trod_struct Tryd.underlying24 h
  have hl : cs.length = 4 := hlen.trans (by kernel_rfl)
  clear hlen
  match cs, hl with
  | [c0, c1, c2, c3], _ =>
    match xs, hx with
    | [x0, x1, x2, x3], _ =>
      obtain ⟨z0, h0⟩ := lg_int (c := [c0]) (y := x0) (hg 0 _ rfl)
      obtain ⟨z1, h1⟩ := lg_int (c := [c1]) (y := x1) (hg 1 _ rfl)
      obtain ⟨z2, h2⟩ := lg_int (c := [c2]) (y := x2) (hg 2 _ rfl)
      obtain ⟨A, cb, r, h3, hc, hm, hs⟩ := lg_row (cs := [c3]) (y := x3) (hg 3 _ rfl)
      injection h0 with h0; injection h1 with h1; injection h2 with h2; injection h3 with h3
      subst h0 h1 h2 h3
      exact ⟨⟨z0, z1, z2, A, cb, r⟩, rfl, hc, hm, hs⟩
theorem open_lgs {a : Option Addr} {len cap : Nat} {d : DataW H} {p : List MemPlace} (h : DataW.Trod enc Tryd.prog W 0 (fun _ => true) true 64 (.slice a len cap) d p) :
    ∃ l : List Lg, l.length = len ∧ len ≤ cap ∧ cap ≤ maxLen ∧ Sees W W.heap.size a (l.map lgc).flatten ∧ ∀ x ∈ l, x.In W :=
  open_structs (C := 4) lgc (fun x => x.In W) Tryd.underlying64 (by kernel_rfl) (by decide) (fun _ => rfl) (fun n cs y h => lg_cells h) h
/-- something that is done -/
structure Ac where
  t : Bool
  n : Int
  g : Lg
instance : Inhabited Ac := ⟨⟨false, 0, default⟩⟩
def acc (x : Ac) : List Value := .bool x.t :: .int .i64 x.n :: lgc x.g
theorem ac_cells {n : Nat} {cs : List Value} {y : DataW H × List MemPlace} (h : DataW.trod enc Tryd.prog W 0 (fun _ => true) true n 56 cs = some y) : ∃ x : Ac, cs = acc x ∧ (x.g.In W ∧ (Lit.int .i64 x.n).wf = true) := by
  obtain ⟨xs, m, _, _, hlen, hx, hg⟩ := DataW.trod_struct Tryd.underlying56 h
  have hl : cs.length = 6 := hlen.trans (by kernel_rfl)
  clear hlen
  match cs, hl with
  | [c0, c1, c2, c3, c4, c5], _ =>
    match xs, hx with
    | [x0, x1, x2], _ =>
      obtain ⟨b, hb, _⟩ := DataW.trod_bool Tryd.underlying4 (hg 0 _ rfl)
      obtain ⟨z, hz, _, hw⟩ := DataW.trod_int Tryd.underlying3 (hg 1 _ rfl)
      obtain ⟨g, h2, hi⟩ := lg_cells (cs := [c2, c3, c4, c5]) (y := x2) (hg 2 _ rfl)
      have e0 : c0 = .bool b := by injection hb
      have e1 : c1 = .int .i64 z := by injection hz
      subst e0 e1
      rw [h2]
      exact ⟨⟨b, z, g⟩, rfl, hi, hw⟩
theorem open_acts {a : Option Addr} {len cap : Nat} {d : DataW H} {p : List MemPlace} (h : DataW.Trod enc Tryd.prog W 0 (fun _ => true) true 42 (.slice a len cap) d p) :
    ∃ l : List Ac, l.length = len ∧ len ≤ cap ∧ cap ≤ maxLen ∧ Sees W W.heap.size a (l.map acc).flatten ∧ ∀ x ∈ l, x.g.In W ∧ (Lit.int .i64 x.n).wf = true :=
  open_structs (C := 6) acc (fun x => x.g.In W ∧ (Lit.int .i64 x.n).wf = true) Tryd.underlying42 (by kernel_rfl) (by decide) (fun _ => rfl) (fun n cs y h => ac_cells h) h
end

end Go.Proofs.YtgbgbodhpahceaaDoor.Open
