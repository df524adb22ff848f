/- How slices of facts are opened. -/
import Derived.Test.YthgfjikhbgippaaDoorOpenQ
import Derived.Test.YthgfjikhbgippaaDoorOpenN
namespace Go.Proofs.YthgfjikhbgippaaDoor.Open
open Go.ChangeShapes Go.WideShapes Go.ChangeAt Go.RowKit Go.Deep Go.Proofs.YthgfjikhbgippaaDoor.Sees
set_option linter.unusedVariables false
set_option maxRecDepth 100000

/-- a fact: power, drawn, capacity, the row of its phases, who rests -/
structure Fc where
  pw : Int
  dr : Int
  cp : Int
  r : RowN
  rs : Nat
instance : Inhabited RowN := ⟨⟨none, 0, []⟩⟩
instance : Inhabited Fc := ⟨⟨0, 0, 0, default, 0⟩⟩
/-- its cells -/
def fcc (x : Fc) : List Value := [.int .i64 x.pw, .int .i64 x.dr, .int .i64 x.cp, x.r.val, .int .u64 (x.rs : Nat)]
structure Fc.In (x : Fc) (W : World) : Prop where
  row : x.r.Ok .i64 W W.heap.size
  len : x.r.zs.length ≤ maxLen
  bits : x.rs < 18446744073709551616
section
variable {H : Type} {enc : TypeId × Value → H} {W : World}
theorem fc_row {n : Nat} {cs : List Value} {y : DataW H × List MemPlace} (h : DataW.trod enc Tryd.prog W 0 (fun _ => true) true n 37 cs = some y) :
    ∃ r : RowN, cs = [r.val] ∧ r.Ok .i64 W W.heap.size ∧ r.zs.length ≤ maxLen := by
  rcases open_slice Tryd.underlying37 h with ⟨rfl, _⟩ | ⟨a, len, cap, m, n', D, Pl, rfl, _, hl, hm, hmm, _, hi⟩
  · exact ⟨⟨none, 0, []⟩, rfl, ⟨Nat.le_refl _, Or.inl rfl, fun z hz => by cases hz⟩, Nat.zero_le _⟩
  · obtain ⟨zs, h1, h2, h3, h4, h5⟩ := open_nums Tryd.underlying37 Tryd.underlying3 (by kernel_rfl) (enc := enc) (W := W) (a := some a) (len := len) (cap := cap) ⟨n, h⟩
    subst h1
    exact ⟨⟨some a, cap, zs⟩, rfl, ⟨h2, h4, h5⟩, Nat.le_trans h2 h3⟩
theorem fc_cells {n : Nat} {cs : List Value} {y : DataW H × List MemPlace} (h : DataW.trod enc Tryd.prog W 0 (fun _ => true) true n 40 cs = some y) : ∃ x : Fc, cs = fcc x ∧ x.In W := by
  obtain ⟨xs, m, _, _, hlen, hx, hg⟩ := DataW.trod_struct Tryd.underlying40 h
  have hl : cs.length = 5 := hlen.trans (by kernel_rfl)
  clear hlen
  match cs, hl with
  | [c0, c1, c2, c3, c4], _ =>
    match xs, hx with
    | [x0, x1, x2, x3, x4], _ =>
      obtain ⟨z0, h0, _⟩ := DataW.trod_int Tryd.underlying3 (cs := [c0]) (hg 0 _ rfl)
      obtain ⟨z1, h1, _⟩ := DataW.trod_int Tryd.underlying3 (cs := [c1]) (hg 1 _ rfl)
      obtain ⟨z2, h2, _⟩ := DataW.trod_int Tryd.underlying3 (cs := [c2]) (hg 2 _ rfl)
      obtain ⟨r, h3, hr, hl⟩ := fc_row (cs := [c3]) (hg 3 _ rfl)
      obtain ⟨z4, h4, _, w4⟩ := DataW.trod_int Tryd.underlying38 (cs := [c4]) (hg 4 _ rfl)
      injection h0 with h0; injection h1 with h1; injection h2 with h2; injection h3 with h3; injection h4 with h4
      subst h0 h1 h2 h3 h4
      have e1 : IntKind.u64.min = 0 := rfl
      have e2 : IntKind.u64.max = 18446744073709551615 := rfl
      simp only [Lit.wf, Bool.and_eq_true, decide_eq_true_eq] at w4
      obtain ⟨u, rfl⟩ : ∃ u : Nat, z4 = u := ⟨z4.toNat, by omega⟩
      exact ⟨⟨z0, z1, z2, r, u⟩, rfl, hr, hl, by show u < _; omega⟩
theorem open_facts {a : Option Addr} {len cap : Nat} {d : DataW H} {p : List MemPlace} (h : DataW.Trod enc Tryd.prog W 0 (fun _ => true) true 22 (.slice a len cap) d p) :
    ∃ l : List Fc, l.length = len ∧ len ≤ cap ∧ cap ≤ maxLen ∧ Sees W W.heap.size a (l.map fcc).flatten ∧ ∀ x ∈ l, x.In W :=
  open_structs (C := 5) fcc (fun x => x.In W) Tryd.underlying22 (by kernel_rfl) (by decide) (fun _ => rfl) (fun n cs y h => fc_cells h) h
end
/-- a fact's cells in a row of facts -/
theorem facts_at {W : World} {B : Nat} {a : Option Addr} {l : List Fc} (h : Sees W B a (l.map fcc).flatten) (i : Nat) {x : Fc} (hx : l[i]? = some x) :
    ∃ b o, a = some ⟨b, o, none⟩ ∧ b < B ∧ W.cell? ⟨b, o + i * 5, none⟩ = some (.int .i64 x.pw) ∧ W.cell? ⟨b, o + i * 5 + 1, none⟩ = some (.int .i64 x.dr) ∧ W.cell? ⟨b, o + i * 5 + 2, none⟩ = some (.int .i64 x.cp) ∧
      W.cell? ⟨b, o + i * 5 + 3, none⟩ = some x.r.val ∧ W.cell? ⟨b, o + i * 5 + 4, none⟩ = some (.int .u64 (x.rs : Nat)) := by
  have hall : ∀ r ∈ l.map fcc, r.length = 5 := fun r hr => by
    obtain ⟨p, _, rfl⟩ := List.mem_map.1 hr; rfl
  have at_ : ∀ j v, j < 5 → (fcc x)[j]? = some v → (l.map fcc).flatten[i * 5 + j]? = some v := fun j v hj hv => by
    rw [flat_at (by omega) _ hall, show (i * 5 + j) / 5 = i by omega, show (i * 5 + j) % 5 = j by omega, List.getElem?_map, hx]
    exact hv
  rcases h with h | ⟨b, o, ha, hb, hc⟩
  · have := at_ 0 _ (by decide) rfl
    rw [h] at this; simp at this
  · refine ⟨b, o, ha, hb, ?_, ?_, ?_, ?_, ?_⟩
    · have := hc _ _ (at_ 0 _ (by decide) rfl); rwa [Nat.add_zero] at this
    · have := hc _ _ (at_ 1 _ (by decide) rfl); rwa [← Nat.add_assoc] at this
    · have := hc _ _ (at_ 2 _ (by decide) rfl); rwa [← Nat.add_assoc] at this
    · have := hc _ _ (at_ 3 _ (by decide) rfl); rwa [← Nat.add_assoc] at this
    · have := hc _ _ (at_ 4 _ (by decide) rfl); rwa [← Nat.add_assoc] at this
end Go.Proofs.YthgfjikhbgippaaDoor.Open
