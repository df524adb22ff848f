/- How an argument of type group.In is opened. -/
import Derived.Test.YthpbcbbiampamaaGreatDoorScrEo
import Derived.Test.YthpbcbbiampamaaGreatDoorScrQ
import Derived.Deep.Slices
namespace Go.Proofs.YthpbcbbiampamaaGreatDoor.Open
open Go.ChangeShapes Go.WideShapes Go.ChangeAt Go.RowKit Go.Deep Go.Proofs.YthpbcbbiampamaaGreatDoor.Scr Go.Proofs.YthpbcbbiampamaaGreatDoor.ScrP Go.Proofs.YthpbcbbiampamaaGreatDoor.Sees
set_option linter.unusedVariables false
set_option maxRecDepth 100000

def Ev.e (p : Ev) : E := ⟨p.k, p.c, p.n⟩
theorem evs_evc (l : List Ev) : evs l = evc (l.map Ev.e) := by
  unfold evs evc
  induction l with
  | nil => rfl
  | cons p l ih =>
    rw [List.map_cons, List.flatten_cons, List.map_cons, List.flatMap_cons, ih]
    rfl
theorem in64 {z : Int} (h : (Lit.int .i64 z).wf = true) : In64 z := by
  have e1 : IntKind.i64.min = -9223372036854775808 := rfl
  have e2 : IntKind.i64.max = 9223372036854775807 := rfl
  simp only [Lit.wf, Bool.and_eq_true, decide_eq_true_eq] at h
  unfold In64
  omega
theorem inu {z : Int} (h : (Lit.int .u64 z).wf = true) : ∃ u : Nat, z = (u : Int) ∧ u < 18446744073709551616 := by
  have e1 : IntKind.u64.min = 0 := rfl
  have e2 : IntKind.u64.max = 18446744073709551615 := rfl
  simp only [Lit.wf, Bool.and_eq_true, decide_eq_true_eq] at h
  exact ⟨z.toNat, by omega, by omega⟩
section
variable {H : Type} {enc : TypeId × Value → H} {W : World}
theorem tk_row {n : Nat} {cs : List Value} {y : DataW H × List MemPlace} (h : DataW.trod enc Tryz.prog W 0 (fun _ => true) true n 23 cs = some y) :
    ∃ (A : Option Addr) (cb : Nat) (l : List E), cs = [.slice A l.length cb] ∧ (∀ e ∈ l, e.In) ∧ Sees W W.heap.size A (evc l) := by
  rcases open_slice Tryz.underlying23 h with ⟨rfl, _⟩ | ⟨a, len, cap, m, n', D, Pl, rfl, _, hl, hm, hmm, _, hi⟩
  · exact ⟨none, 0, [], rfl, (fun e he => by cases he), Or.inl rfl⟩
  · obtain ⟨zs, h1, h2, h3, h4, h5⟩ := open_evs (enc := enc) (W := W) (a := some a) (len := len) (cap := cap) ⟨n, h⟩
    subst h1
    refine ⟨some a, _, zs.map Ev.e, by rw [List.length_map], fun e he => ?_, by rw [← evs_evc]; exact h4⟩
    obtain ⟨p, hp, rfl⟩ := List.mem_map.1 he
    obtain ⟨_, w2, w3⟩ := h5 p hp
    exact ⟨in64 w2, in64 w3⟩
theorem open_tk {b0 : Nat} {v : Value} {d : DataW H} {p : List MemPlace} (hv : Value.okWide Tryz.prog W .any b0 25 v) (h : DataW.Trod enc Tryz.prog W 0 (fun _ => true) true 25 v d p) : ∃ x : Tk, v = x.val ∧ x.In W := by
  obtain ⟨cs, rfl, hsz⟩ := okWide_struct Tryz.underlying25 hv
  obtain ⟨fuel, hf⟩ := h
  obtain ⟨xs, m, _, _, hlen, hx, hg⟩ := DataW.trod_struct Tryz.underlying25 hf
  obtain ⟨l⟩ := cs
  have hl : l.length = 5 := hlen.trans (by kernel_rfl)
  clear hlen
  match l, hl with
  | [c0, c1, c2, c3, c4], _ =>
    match xs, hx with
    | [x0, x1, x2, x3, x4], _ =>
      have k0 := hg 0 _ rfl
      have k1 := hg 1 _ rfl
      have k2 := hg 2 _ rfl
      have k3 := hg 3 _ rfl
      have k4 := hg 4 _ rfl
      obtain ⟨z0, h0, _⟩ := DataW.trod_bool Tryz.underlying4 (cs := [c0]) k0
      obtain ⟨z1, h1, _⟩ := DataW.trod_bool Tryz.underlying4 (cs := [c1]) k1
      obtain ⟨z2, h2, _, w2⟩ := DataW.trod_int Tryz.underlying3 (cs := [c2]) k2
      obtain ⟨z3, h3, _, w3⟩ := DataW.trod_int Tryz.underlying22 (cs := [c3]) k3
      obtain ⟨A, cb, r, h4, hi, hs⟩ := tk_row (cs := [c4]) k4
      injection h0 with h0; injection h1 with h1; injection h2 with h2; injection h3 with h3; injection h4 with h4
      subst h0 h1 h2 h3 h4
      obtain ⟨u, rfl, hu⟩ := inu w3
      exact ⟨⟨⟨z0, z1, z2, u, r⟩, A, cb⟩, rfl, ⟨in64 w2, hu, hi⟩, hs⟩
end
end Go.Proofs.YthpbcbbiampamaaGreatDoor.Open
