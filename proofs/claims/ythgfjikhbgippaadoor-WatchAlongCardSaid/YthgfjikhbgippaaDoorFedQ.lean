/- What was told, and what is known of it: the numbers, and blocks of nine cells. -/
import Derived.Test.YthgfjikhbgippaaDoorFedC0
namespace Go.Proofs.YthgfjikhbgippaaDoor.Fed
open Go.RowKit Go.Proofs.YthgfjikhbgippaaDoor.FedP Go.Proofs.YthgfjikhbgippaaDoor.Box Go.Proofs.YthgfjikhbgippaaDoor.Held Go.Proofs.YthgfjikhbgippaaDoor.Sees
set_option linter.unusedVariables false

/-- a capacity as it counts -/
def cl (v : Int) : Int := bo v 0 1048576
/-- the first m told, the last one first -/
def hs (z : List Int) (m : Nat) : List Int := ((z.take m).map cl).reverse
theorem hs_succ (z : List Int) (i : Nat) {v : Int} (h : z[i]? = some v) : hs z (i + 1) = cl v :: hs z i := by
  unfold hs; rw [List.take_add_one, h]; simp
theorem hs_len (z : List Int) (m : Nat) (h : m ≤ z.length) : (hs z m).length = m := by unfold hs; simp; omega
theorem an_hs (n m : Nat) (z : List Int) (h : m ≤ z.length) : an n (hs z m) = kn n m z := by
  have hl := hs_len z m h
  unfold kn
  by_cases k : m ≤ n
  · rw [if_pos k, an_out n _ (by omega)]
  · rw [if_neg k, an_in n _ (by omega)]
    have hlt : m - 1 - n < z.length := by omega
    have e : z[m - 1 - n]?.getD 0 = z[m - 1 - n] := by rw [List.getElem?_eq_getElem hlt]; rfl
    rw [e]
    unfold hs
    rw [List.getElem_reverse]
    simp only [List.getElem_map, List.getElem_take, List.length_map, List.length_take]
    have e2 : min m z.length - 1 - n = m - 1 - n := by omega
    simp only [e2]
    rfl

/-- nine cells of a block set -/
theorem jfill9x {w W : World} {X : Nat} {bs : List (Nat × Array Value)} {a0 a1 a2 a3 a4 a5 a6 a7 a8 x0 x1 x2 x3 x4 x5 x6 x7 x8 : Value} (h : J w W ((X, #[a0, a1, a2, a3, a4, a5, a6, a7, a8]) :: bs)) (hX : w.heap.size ≤ X) (hne : ∀ x ∈ bs, x.1 ≠ X) :
    J w (((((((((W.setCell ⟨X, 0, none⟩ x0).setCell ⟨X, 1, none⟩ x1).setCell ⟨X, 2, none⟩ x2).setCell ⟨X, 3, none⟩ x3).setCell ⟨X, 4, none⟩ x4).setCell ⟨X, 5, none⟩ x5).setCell ⟨X, 6, none⟩ x6).setCell ⟨X, 7, none⟩ x7).setCell ⟨X, 8, none⟩ x8) ((X, #[x0, x1, x2, x3, x4, x5, x6, x7, x8]) :: bs) :=
  have h0 : J w _ ((X, #[x0, a1, a2, a3, a4, a5, a6, a7, a8]) :: bs) := h.put hX hne 0 x0
  have h1 : J w _ ((X, #[x0, x1, a2, a3, a4, a5, a6, a7, a8]) :: bs) := h0.put hX hne 1 x1
  have h2 : J w _ ((X, #[x0, x1, x2, a3, a4, a5, a6, a7, a8]) :: bs) := h1.put hX hne 2 x2
  have h3 : J w _ ((X, #[x0, x1, x2, x3, a4, a5, a6, a7, a8]) :: bs) := h2.put hX hne 3 x3
  have h4 : J w _ ((X, #[x0, x1, x2, x3, x4, a5, a6, a7, a8]) :: bs) := h3.put hX hne 4 x4
  have h5 : J w _ ((X, #[x0, x1, x2, x3, x4, x5, a6, a7, a8]) :: bs) := h4.put hX hne 5 x5
  have h6 : J w _ ((X, #[x0, x1, x2, x3, x4, x5, x6, a7, a8]) :: bs) := h5.put hX hne 6 x6
  have h7 : J w _ ((X, #[x0, x1, x2, x3, x4, x5, x6, x7, a8]) :: bs) := h6.put hX hne 7 x7
  have h8 : J w _ ((X, #[x0, x1, x2, x3, x4, x5, x6, x7, x8]) :: bs) := h7.put hX hne 8 x8
  h8
theorem jswap {w W : World} {a b : Nat × Array Value} (h : J w W [a, b]) : J w W [b, a] := h.less fun x hx => by
  simp only [List.mem_cons, List.not_mem_nil, or_false] at hx ⊢; exact hx.symm
theorem jhead {w W : World} {b : Nat × Array Value} {bs : List (Nat × Array Value)} (h : J w W (b :: bs)) : J w W [b] := h.less fun x hx => by rw [List.mem_singleton.1 hx]; exact List.mem_cons_self

end Go.Proofs.YthgfjikhbgippaaDoor.Fed
