/- How an argument of type conf.Conf is opened. -/
import Derived.Test.YtkicijgempccfaaOpenS
import Derived.Test.YtkicijgempccfaaConF
import Derived.Deep.Slices
namespace Go.Proofs.Ytkicijgempccfaa.Open
open Go.ChangeShapes Go.WideShapes Go.ChangeAt Go.RowKit Go.Deep Go.Proofs.Ytkicijgempccfaa.RatP Go.Proofs.Ytkicijgempccfaa.ConP Go.Proofs.Ytkicijgempccfaa.Con Go.Proofs.Ytkicijgempccfaa.Sees
set_option linter.unusedVariables false

section
variable {H : Type} {enc : TypeId × Value → H} {W : World}
theorem int_cell {n : Nat} {c : List Value} {y : DataW H × List MemPlace} (h : DataW.trod enc Try.prog W 0 (fun _ => true) true n 3 c = some y) : ∃ z : Int, c = [.int .i64 z] := by
  obtain ⟨z, hz, _⟩ := DataW.trod_int Try.underlying3 h
  exact ⟨z, hz⟩
theorem take1 {l : List Value} {i : Nat} {v : Value} (h : (l.drop i).take 1 = [v]) : l[i]? = some v := by
  have h0 : ((l.drop i).take 1)[0]? = some v := by rw [h]; rfl
  rw [List.getElem?_take_of_lt (by decide), List.getElem?_drop] at h0
  simpa using h0
set_option maxRecDepth 100000 in
theorem rates_cells {n : Nat} {cs : List Value} {y : DataW H × List MemPlace} (h : DataW.trod enc Try.prog W 0 (fun _ => true) true n 41 cs = some y) :
    ∃ r : R, cs = [.int .i64 r.idle, .int .i64 r.move, .int .i64 r.gain, .int .i64 r.pull, .int .i64 r.door, .int .i64 r.weight] := by
  obtain ⟨xs, m, _, _, hlen, hx, hg⟩ := DataW.trod_struct Try.underlying41 h
  have hl : cs.length = 6 := hlen.trans (by kernel_rfl)
  clear hlen
  match cs, hl with
  | [c0, c1, c2, c3, c4, c5], _ =>
    match xs, hx with
    | [x0, x1, x2, x3, x4, x5], _ =>
      obtain ⟨z0, h0⟩ := int_cell (c := [c0]) (y := x0) (hg 0 _ rfl)
      obtain ⟨z1, h1⟩ := int_cell (c := [c1]) (y := x1) (hg 1 _ rfl)
      obtain ⟨z2, h2⟩ := int_cell (c := [c2]) (y := x2) (hg 2 _ rfl)
      obtain ⟨z3, h3⟩ := int_cell (c := [c3]) (y := x3) (hg 3 _ rfl)
      obtain ⟨z4, h4⟩ := int_cell (c := [c4]) (y := x4) (hg 4 _ rfl)
      obtain ⟨z5, h5⟩ := int_cell (c := [c5]) (y := x5) (hg 5 _ rfl)
      injection h0 with h0; injection h1 with h1; injection h2 with h2; injection h3 with h3; injection h4 with h4; injection h5 with h5
      subst h0 h1 h2 h3 h4 h5
      exact ⟨⟨z0, z1, z2, z3, z4, z5⟩, rfl⟩
set_option maxRecDepth 100000 in
theorem bank_cells {n : Nat} {cs : List Value} {y : DataW H × List MemPlace} (h : DataW.trod enc Try.prog W 0 (fun _ => true) true n 43 cs = some y) : ∃ b : Bk, cs = bCells b := by
  obtain ⟨xs, m, _, _, hlen, hx, hg⟩ := DataW.trod_struct Try.underlying43 h
  have hl : cs.length = 7 := hlen.trans (by kernel_rfl)
  clear hlen
  match cs, hl with
  | [c0, c1, c2, c3, c4, c5, c6], _ =>
    match xs, hx with
    | [x0, x1], _ =>
      obtain ⟨z0, h0⟩ := int_cell (c := [c0]) (y := x0) (hg 0 _ rfl)
      obtain ⟨r, h1⟩ := rates_cells (cs := [c1, c2, c3, c4, c5, c6]) (y := x1) (hg 1 _ rfl)
      injection h0 with h0
      subst h0
      refine ⟨⟨z0, r⟩, ?_⟩
      rw [h1]
      rfl
set_option maxRecDepth 100000 in
theorem open_banks {n : Nat} {cs : List Value} {y : DataW H × List MemPlace} (h : DataW.trod enc Try.prog W 0 (fun _ => true) true n 22 cs = some y) :
    ∃ (A : Option Addr) (cb : Nat) (l : List Bk), cs = [.slice A l.length cb] ∧ l.length ≤ maxLen ∧ Sees.Sees W W.heap.size A (bRow l) := by
  rcases open_slice Try.underlying22 h with ⟨rfl, _⟩ | ⟨a, len, cap, m, n', D, Pl, rfl, _, hl, hm, hmm, _, hi⟩
  · exact ⟨none, 0, [], rfl, Nat.zero_le _, .inl rfl⟩
  · simp only [if_true] at hmm
    subst hmm
    have hC : Try.prog.cellsOf 43 = 7 := by kernel_rfl
    rw [hC] at hi
    have key : ∀ k, k ≤ len → ∃ l : List Bk, l.length = k ∧ ∀ j u, (bRow l)[j]? = some u → W.cell? (a.add j) = some u := by
      intro k
      induction k with
      | zero => intro _; exact ⟨[], rfl, fun j u hu => by simp [bRow] at hu⟩
      | succ k ih =>
        intro hk
        obtain ⟨l, hll, hc⟩ := ih (by omega)
        obtain ⟨cs', hcs, ht⟩ := hi k (by omega)
        obtain ⟨b, rfl⟩ := bank_cells ht
        obtain ⟨_, _, hat⟩ := World.cells?_some hcs
        refine ⟨l ++ [b], by simp [hll], fun j u hu => ?_⟩
        rw [bRow_append] at hu
        by_cases hj : j < (bRow l).length
        · rw [List.getElem?_append_left hj] at hu
          exact hc j u hu
        · rw [List.getElem?_append_right (by omega)] at hu
          have hbl := bRow_length l
          have e : bRow [b] = bCells b := by simp [bRow]
          rw [e] at hu
          have hj7 : j - (bRow l).length < 7 := (List.getElem?_eq_some_iff.1 hu).1
          have := hat (j - (bRow l).length) hj7
          rw [hu, Go.Deep.add_add] at this
          have hj2 : ¬ j < k * 7 := by rw [hbl, hll] at hj; exact hj
          have e2 : k * 7 + (j - (bRow l).length) = j := by rw [hbl, hll]; omega
          rw [e2] at this
          exact this
    obtain ⟨l, hll, hc⟩ := key len (Nat.le_refl _)
    subst hll
    exact ⟨some a, _, l, rfl, Nat.le_trans hl hm, sees_of hc⟩
set_option maxRecDepth 100000 in
theorem open_order {n : Nat} {cs : List Value} {y : DataW H × List MemPlace} (h : DataW.trod enc Try.prog W 0 (fun _ => true) true n 23 cs = some y) :
    ∃ (A : Option Addr) (cb : Nat) (l : List Int), cs = [.slice A l.length cb] ∧ l.length ≤ maxLen ∧ Sees.Sees W W.heap.size A (nums .i64 l) := by
  rcases open_slice Try.underlying23 h with ⟨rfl, _⟩ | ⟨a, len, cap, m, n', D, Pl, rfl, _, hl, hm, hmm, _, hi⟩
  · exact ⟨none, 0, [], rfl, Nat.zero_le _, .inl rfl⟩
  · obtain ⟨zs, h1, h2, h3, h4, _⟩ := open_nums (enc := enc) (W := W) Try.underlying23 Try.underlying3 (by kernel_rfl) (a := some a) (len := len) (cap := cap) ⟨n, h⟩
    subst h1
    exact ⟨some a, _, zs, rfl, Nat.le_trans hl hm, h4⟩
set_option maxRecDepth 100000 in
theorem open_conf {b0 : Nat} {v : Value} {d : DataW H} {p : List MemPlace} (hv : Value.okWide Try.prog W .any b0 25 v) (h : DataW.Trod enc Try.prog W 0 (fun _ => true) true 25 v d p) : ∃ u : V, v = u.val ∧ V.In W u := by
  obtain ⟨cs, rfl, hsz⟩ := okWide_struct Try.underlying25 hv
  obtain ⟨fuel, hf⟩ := h
  obtain ⟨xs, m, _, _, hlen, hx, hg⟩ := DataW.trod_struct Try.underlying25 hf
  obtain ⟨l⟩ := cs
  have hl : l.length = 13 := hlen.trans (by kernel_rfl)
  clear hlen
  match l, hl with
  | [c0, c1, c2, c3, c4, c5, c6, c7, c8, c9, c10, c11, c12], _ =>
    match xs, hx with
    | [x0, x1, x2, x3, x4, x5, x6, x7, x8, x9, x10, x11, x12], _ =>
      obtain ⟨A, cb, banks, h0, hbl, hbs⟩ := open_banks (cs := [c0]) (y := x0) (hg 0 _ rfl)
      obtain ⟨z1, h1⟩ := int_cell (c := [c1]) (y := x1) (hg 1 _ rfl)
      obtain ⟨z2, h2⟩ := int_cell (c := [c2]) (y := x2) (hg 2 _ rfl)
      obtain ⟨O, co, order, h3, hol, hos⟩ := open_order (cs := [c3]) (y := x3) (hg 3 _ rfl)
      obtain ⟨z4, h4⟩ := int_cell (c := [c4]) (y := x4) (hg 4 _ rfl)
      obtain ⟨z5, h5⟩ := int_cell (c := [c5]) (y := x5) (hg 5 _ rfl)
      obtain ⟨z6, h6⟩ := int_cell (c := [c6]) (y := x6) (hg 6 _ rfl)
      obtain ⟨z7, h7⟩ := int_cell (c := [c7]) (y := x7) (hg 7 _ rfl)
      obtain ⟨z8, h8⟩ := int_cell (c := [c8]) (y := x8) (hg 8 _ rfl)
      obtain ⟨z9, h9⟩ := int_cell (c := [c9]) (y := x9) (hg 9 _ rfl)
      obtain ⟨z10, h10⟩ := int_cell (c := [c10]) (y := x10) (hg 10 _ rfl)
      obtain ⟨z11, h11⟩ := int_cell (c := [c11]) (y := x11) (hg 11 _ rfl)
      obtain ⟨z12, h12⟩ := int_cell (c := [c12]) (y := x12) (hg 12 _ rfl)
      injection h0 with h0; injection h1 with h1; injection h2 with h2; injection h3 with h3; injection h4 with h4; injection h5 with h5; injection h6 with h6; injection h7 with h7; injection h8 with h8; injection h9 with h9; injection h10 with h10; injection h11 with h11; injection h12 with h12
      subst h0 h1 h2 h3 h4 h5 h6 h7 h8 h9 h10 h11 h12
      exact ⟨⟨A, cb, O, co, ⟨banks, z1, z2, order, z4, z5, z6, z7, z8, z9, z10, z11, z12⟩⟩, rfl, hbs, hos, hbl, hol⟩
end

end Go.Proofs.Ytkicijgempccfaa.Open
