/- How an argument of type ledger.Ledger is opened. -/
import Derived.Test.YtjedkkkhficmoaaDoorOpenS
import Derived.Test.YtjedkkkhficmoaaDoorLgrP
import Derived.Deep.Slices
namespace Go.Proofs.YtjedkkkhficmoaaDoor.Open
open Go.ChangeShapes Go.WideShapes Go.ChangeAt Go.RowKit Go.Deep Go.Proofs.YtjedkkkhficmoaaDoor.LgrP Go.Proofs.YtjedkkkhficmoaaDoor.Sees
set_option linter.unusedVariables false
set_option maxRecDepth 100000

section
variable {H : Type} {enc : TypeId × Value → H} {W : World}
theorem lg_int {n : Nat} {c : List Value} {y : DataW H × List MemPlace} (h : DataW.trod enc Tryd.prog W 0 (fun _ => true) true n 3 c = some y) : ∃ z : Int, c = [.int .i64 z] := by
  obtain ⟨z, hz, _⟩ := DataW.trod_int Tryd.underlying3 h
  exact ⟨z, hz⟩
theorem lg_row {n : Nat} {cs : List Value} {y : DataW H × List MemPlace} (h : DataW.trod enc Tryd.prog W 0 (fun _ => true) true n 30 cs = some y) :
    ∃ (A : Option Addr) (cb : Nat) (l : List Pm), cs = [.slice A l.length cb] ∧ l.length ≤ cb ∧ cb ≤ maxLen ∧ Sees W W.heap.size A (pms l) := by
  rcases open_slice Tryd.underlying30 h with ⟨rfl, _⟩ | ⟨a, len, cap, m, n', D, Pl, rfl, _, hl, hm, hmm, _, hi⟩
  · exact ⟨none, 0, [], rfl, Nat.le_refl _, Nat.zero_le _, .inl rfl⟩
  · obtain ⟨zs, h1, h2, h3, h4⟩ := open_pms (enc := enc) (W := W) (a := some a) (len := len) (cap := cap) ⟨n, h⟩
    subst h1
    exact ⟨some a, _, zs, rfl, h2, h3, h4⟩
set_option maxRecDepth 100000 in
theorem open_lg {b0 : Nat} {v : Value} {d : DataW H} {p : List MemPlace} (hv : Value.okWide Tryd.prog W .any b0 32 v) (h : DataW.Trod enc Tryd.prog W 0 (fun _ => true) true 32 v d p) : ∃ x : Lg, v = x.val ∧ x.In W := by
  obtain ⟨cs, rfl, hsz⟩ := okWide_struct Tryd.underlying32 hv
  obtain ⟨fuel, hf⟩ := h
  obtain ⟨xs, m, _, _, hlen, hx, hg⟩ := DataW.trod_struct Tryd.underlying32 hf
  obtain ⟨l⟩ := cs
  have hl : l.length = 4 := hlen.trans (by kernel_rfl)
  clear hlen
  match l, hl with
  | [c0, c1, c2, c3], _ =>
    match xs, hx with
    | [x0, x1, x2, x3], _ =>
      obtain ⟨z0, h0⟩ := lg_int (c := [c0]) (y := x0) (hg 0 _ rfl)
      obtain ⟨z1, h1⟩ := lg_int (c := [c1]) (y := x1) (hg 1 _ rfl)
      obtain ⟨z2, h2⟩ := lg_int (c := [c2]) (y := x2) (hg 2 _ rfl)
      obtain ⟨A, cb, r, h3, hc, hm, hs⟩ := lg_row (cs := [c3]) (y := x3) (hg 3 _ rfl)
      injection h0 with h0; injection h1 with h1; injection h2 with h2; injection h3 with h3
      subst h0 h1 h2 h3
      exact ⟨⟨z0, z1, z2, A, cb, r⟩, rfl, hc, hm, hs⟩
end

end Go.Proofs.YtjedkkkhficmoaaDoor.Open
