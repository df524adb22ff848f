/- Rows that lie in blocks from one on. -/
import Derived.Test.YtjedkkkhficmoaaDoorLgrA0
namespace Go.Proofs.YtjedkkkhficmoaaDoor.Lgr
open Go.RowKit Go.Proofs.YtjedkkkhficmoaaDoor.LgrP Go.Proofs.YtjedkkkhficmoaaDoor.Open Go.Proofs.YtjedkkkhficmoaaDoor.Sees Go.Proofs.YtjedkkkhficmoaaDoor.Box Go.Proofs.YtjedkkkhficmoaaDoor.Held
set_option linter.unusedVariables false
set_option maxRecDepth 100000

/-- a row that lies in blocks from n₀ on -/
def Far (W : World) (n₀ : Nat) (A : Option Addr) (xs : List Value) : Prop :=
  xs = [] ∨ ∃ b o, A = some ⟨b, o, none⟩ ∧ n₀ ≤ b ∧ b < W.heap.size ∧ ∀ j u, xs[j]? = some u → W.cell? ⟨b, o + j, none⟩ = some u
theorem Far.own {W : World} {base n₀ : Nat} {e : TypeId} {size : Nat} {A : Option Addr} {n c : Nat} {xs : List Value} (h : W.ownsRow base e size (.slice A n c) n xs) (hn : n₀ ≤ base) : Far W n₀ A xs := by
  rcases h.2 with ⟨hv, h0⟩ | ⟨g, cap, cur, hv, hb, hg, _⟩
  · have : xs = [] := List.eq_nil_of_length_eq_zero (by rw [h.1, h0]; simp)
    exact .inl this
  · have hA : A = some ⟨g, 0, none⟩ := by injection hv
    subst hA
    refine .inr ⟨g, 0, rfl, Nat.le_trans hn hb, (Array.getElem?_eq_some_iff.1 hg).1, fun j u hu => ?_⟩
    have := h.cells (g := g) rfl j u hu
    rwa [Addr.add_lit] at this
theorem Far.set {W : World} {n₀ : Nat} {A : Option Addr} {xs : List Value} (h : Far W n₀ A xs) {X : Nat} (j : Nat) (u : Value) (hX : X < n₀) : Far (W.setCell ⟨X, j, none⟩ u) n₀ A xs := by
  rcases h with h | ⟨b, o, hA, hb, hlt, hc⟩
  · exact .inl h
  · exact .inr ⟨b, o, hA, hb, by simpa [World.setCell] using hlt, fun i v hi => (World.cell?_setCell_other _ _ _ _ (by intro e; injection e with e; omega)).trans (hc i v hi)⟩
theorem Far.next {W W' : World} {n₀ : Nat} {A : Option Addr} {xs : List Value} (h : Far W n₀ A xs) (hb : Below W.heap.size W W') : Far W' n₀ A xs := by
  rcases h with h | ⟨b, o, hA, hb', hlt, hc⟩
  · exact .inl h
  · exact .inr ⟨b, o, hA, hb', Nat.lt_of_lt_of_le hlt hb.size, fun i v hi => (hb.cell (p := ⟨b, o + i, none⟩) hlt).trans (hc i v hi)⟩
theorem Far.drew {W : World} {n₀ : Nat} {A : Option Addr} {xs : List Value} (h : Far W n₀ A xs) : Far W.drew n₀ A xs := h.next ((Below.refl _ _).drew)
theorem Far.sees {W : World} {n₀ : Nat} {A : Option Addr} {xs : List Value} (h : Far W n₀ A xs) : Sees W W.heap.size A xs := by
  rcases h with h | ⟨b, p, hA, _, hlt, hc⟩
  · exact .inl h
  · exact .inr ⟨b, p, hA, hlt, hc⟩

end Go.Proofs.YtjedkkkhficmoaaDoor.Lgr
