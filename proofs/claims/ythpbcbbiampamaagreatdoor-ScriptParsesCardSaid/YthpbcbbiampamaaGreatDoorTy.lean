/- Blocks of a type; rows that lie in such. -/
import Derived.Test.YthpbcbbiampamaaGreatDoorBox
import Derived.Test.YthpbcbbiampamaaGreatDoorSees
namespace Go.Proofs.YthpbcbbiampamaaGreatDoor.Jrn
open Go.RowKit Go.Proofs.YthpbcbbiampamaaGreatDoor.Sees Go.Proofs.YthpbcbbiampamaaGreatDoor.Box
set_option linter.unusedVariables false
set_option maxRecDepth 100000

/-- block X holds these cells, of this type, and may be written -/
def BxT (W : World) (X : Nat) (cs : Array Value) (t : TypeId) : Prop := W.heap[X]? = some (.cells cs t (0, 0))
theorem BxT.bx {W : World} {X : Nat} {cs : Array Value} {t : TypeId} (h : BxT W X cs t) : Bx W X cs := ⟨t, h⟩
theorem BxT.new (W : World) (cs : Array Value) (t : TypeId) : BxT (W.alloc (.cells cs t)) W.heap.size cs t := by show (W.heap.push _)[W.heap.size]? = _; simp
theorem BxT.next {W W' : World} {X : Nat} {cs : Array Value} {t : TypeId} (h : BxT W X cs t) (hb : Below W.heap.size W W') : BxT W' X cs t := (hb.block X h.bx.lt).trans h
theorem BxT.set {W : World} {X : Nat} {cs : Array Value} {t : TypeId} (h : BxT W X cs t) (j : Nat) (u : Value) : BxT (W.setCell ⟨X, j, none⟩ u) X (cs.setIfInBounds j u) t := by
  show (W.heap.modify X _)[X]? = _
  rw [heap_modify _ h]; simp

/-- what an address shows lies in a block of this type -/
def TS (W : World) (t : TypeId) (A : Option Addr) (xs : List Value) : Prop :=
  xs = [] ∨ ∃ (g o : Nat) (cur : Array Value), A = some ⟨g, o, none⟩ ∧ W.heap[g]? = some (.cells cur t (0, 0)) ∧ ∀ (j : Nat) (u : Value), xs[j]? = some u → cur[o + j]? = some u
theorem TS.nil (W : World) (t : TypeId) (A : Option Addr) : TS W t A [] := .inl rfl
theorem TS.sees {W : World} {t : TypeId} {A : Option Addr} {xs : List Value} (h : TS W t A xs) : Sees W W.heap.size A xs := by
  rcases h with h | ⟨g, o, cur, hA, hg, hc⟩
  · exact .inl h
  · exact .inr ⟨g, o, hA, (Array.getElem?_eq_some_iff.1 hg).1, fun j u hu => by simp [World.cell?, hg, hc j u hu]⟩
theorem TS.next {W W' : World} {t : TypeId} {A : Option Addr} {xs : List Value} (h : TS W t A xs) (hb : Below W.heap.size W W') : TS W' t A xs := by
  rcases h with h | ⟨g, o, cur, hA, hg, hc⟩
  · exact .inl h
  · exact .inr ⟨g, o, cur, hA, (hb.block g (Array.getElem?_eq_some_iff.1 hg).1).trans hg, hc⟩
theorem TS.set {W : World} {t t' : TypeId} {A : Option Addr} {xs : List Value} {X : Nat} {cs : Array Value} (h : TS W t A xs) (hX : BxT W X cs t') (ht : t' ≠ t) (j : Nat) (u : Value) : TS (W.setCell ⟨X, j, none⟩ u) t A xs := by
  rcases h with h | ⟨g, o, cur, hA, hg, hc⟩
  · exact .inl h
  · refine .inr ⟨g, o, cur, hA, (Below.heap_setCell W ⟨X, j, none⟩ u g (fun e => ?_)).trans hg, hc⟩
    have e : g = X := e
    subst e
    have h2 := hX.symm.trans hg
    injection h2 with h2
    injection h2 with h3 h4
    exact ht h4
theorem TS.own {W : World} {base : Nat} {e : TypeId} {size : Nat} {A : Option Addr} {n c : Nat} {xs : List Value} (h : W.ownsRow base e size (.slice A n c) n xs) : TS W e A xs := by
  rcases h.2 with ⟨hv, h0⟩ | ⟨g, cap, cur, hv, hb, hg, _, _, _, htk⟩
  · exact .inl (List.eq_nil_of_length_eq_zero (by rw [h.1, h0]; simp))
  · have hA : A = some ⟨g, 0, none⟩ := by injection hv
    refine .inr ⟨g, 0, cur, hA, hg, fun j u hu => ?_⟩
    rw [Nat.zero_add]
    rw [← htk] at hu
    have := List.getElem?_take (l := cur.toList) (i := n * size) (j := j)
    rw [this] at hu
    split at hu
    · simpa using hu
    · cases hu
/-- a row that lies in a block of this type, from n₀ on -/
def FarT (W : World) (n₀ : Nat) (t : TypeId) (A : Option Addr) (xs : List Value) : Prop :=
  xs = [] ∨ ∃ (g o : Nat) (cur : Array Value), A = some ⟨g, o, none⟩ ∧ n₀ ≤ g ∧ W.heap[g]? = some (.cells cur t (0, 0)) ∧ ∀ (j : Nat) (u : Value), xs[j]? = some u → cur[o + j]? = some u
theorem FarT.own {W : World} {base n₀ : Nat} {e : TypeId} {size : Nat} {A : Option Addr} {n c : Nat} {xs : List Value} (h : W.ownsRow base e size (.slice A n c) n xs) (hn : n₀ ≤ base) : FarT W n₀ e A xs := by
  rcases h.2 with ⟨hv, h0⟩ | ⟨g, cap, cur, hv, hb, hg, _, _, _, htk⟩
  · exact .inl (List.eq_nil_of_length_eq_zero (by rw [h.1, h0]; simp))
  · have hA : A = some ⟨g, 0, none⟩ := by injection hv
    refine .inr ⟨g, 0, cur, hA, Nat.le_trans hn hb, hg, fun j u hu => ?_⟩
    rw [Nat.zero_add]
    rw [← htk] at hu
    have := List.getElem?_take (l := cur.toList) (i := n * size) (j := j)
    rw [this] at hu
    split at hu
    · simpa using hu
    · cases hu
theorem FarT.set {W : World} {n₀ : Nat} {t : TypeId} {A : Option Addr} {xs : List Value} (h : FarT W n₀ t A xs) {X : Nat} (j : Nat) (u : Value) (hX : X < n₀) : FarT (W.setCell ⟨X, j, none⟩ u) n₀ t A xs := by
  rcases h with h | ⟨g, o, cur, hA, hb, hg, hc⟩
  · exact .inl h
  · exact .inr ⟨g, o, cur, hA, hb, (Below.heap_setCell W ⟨X, j, none⟩ u g (fun e => by have e : g = X := e; omega)).trans hg, hc⟩
theorem FarT.set4 {W : World} {n₀ : Nat} {t : TypeId} {A : Option Addr} {xs : List Value} (h : FarT W n₀ t A xs) {X : Nat} (x y z u : Value) (hX : X < n₀) : FarT ((((W.setCell ⟨X, 0, none⟩ x).setCell ⟨X, 1, none⟩ y).setCell ⟨X, 2, none⟩ z).setCell ⟨X, 3, none⟩ u) n₀ t A xs :=
  (((h.set 0 x hX).set 1 y hX).set 2 z hX).set 3 u hX
theorem FarT.ts {W : World} {n₀ : Nat} {t : TypeId} {A : Option Addr} {xs : List Value} (h : FarT W n₀ t A xs) : TS W t A xs := by
  rcases h with h | ⟨g, o, cur, hA, _, hg, hc⟩
  · exact .inl h
  · exact .inr ⟨g, o, cur, hA, hg, hc⟩

end Go.Proofs.YthpbcbbiampamaaGreatDoor.Jrn
