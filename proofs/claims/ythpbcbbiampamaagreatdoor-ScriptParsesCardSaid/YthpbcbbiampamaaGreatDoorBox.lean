/- Blocks of memory that hold a value's cells, whole; what a call that only makes memory answers. -/
import Derived.Test.YthpbcbbiampamaaGreatDoorRows
import Derived.WalkKit
import Derived.ProofKit
import Derived.Lib.Hide
import Derived.IntWalk
import Derived.Deep.RegionWith
import Derived.Deep.RegionHeld
import Derived.Deep.Draws
import Derived.BigQuiet
import Derived.Deep.QuietTactic
namespace Go.Proofs.YthpbcbbiampamaaGreatDoor.Box
open Go.RowKit
set_option linter.unusedVariables false

theorem ret_int {k : IntKind} {a b : Int} (h : a = b) : Ending.returned (.int k a) = .returned (.int k b) := by rw [h]
theorem ret_bool {a b : Bool} (h : a = b) : Ending.returned (.bool a) = .returned (.bool b) := by rw [h]
/-- what a call that only makes memory answers -/
def Says (w : World) (v : Value) (e : Ending) (w' : World) : Prop := e = .returned v ∧ Below w.heap.size w w'
theorem below_box {w : World} {o : Obj} : Below w.heap.size w (w.alloc o) := (Below.refl _ _).alloc (Nat.le_refl _) _
theorem below_two {w : World} {o o' : Obj} : Below w.heap.size w ((w.alloc o).alloc o') := below_box.alloc (by simp) _
theorem below_drewN {B : Nat} {a w : World} (h : Below B a w) (n : Nat) : Below B a (w.drewN n) := ⟨h.os, h.tape, h.output, h.size, h.block⟩
theorem below_more {a b c : World} {B : Nat} (h : Below B a b) (k : Below b.heap.size b c) (hB : B ≤ a.heap.size) : Below B a c := h.trans (k.mono (Nat.le_trans hB h.size))
theorem below_set {a w : World} {B X j : Nat} {u : Value} (hX : B ≤ X) (h : Below B a w) : Below B a (w.setCell ⟨X, j, none⟩ u) := h.setCell hX u
theorem says_of_same {P : Program} {f : FuncId} {args : Array Value} {w : World} {v : Value} (h : Calls P f args w fun e w' => e = .returned v ∧ w = w') : Calls P f args w (Says w v) :=
  h.mono fun e w' ⟨h1, h2⟩ => ⟨h1, h2 ▸ Below.refl _ _⟩

/-- block X holds these cells, and may be written -/
def Bx (W : World) (X : Nat) (cs : Array Value) : Prop := ∃ t, W.heap[X]? = some (.cells cs t (0, 0))
theorem Bx.cell {W : World} {X : Nat} {cs : Array Value} (h : Bx W X cs) {j : Nat} {v : Value} (hj : cs[j]? = some v) : W.cell? ⟨X, j, none⟩ = some v := by
  obtain ⟨t, h⟩ := h
  simp [World.cell?, h, hj]
theorem Bx.fr {W : World} {X : Nat} {cs : Array Value} (h : Bx W X cs) (j : Nat) : W.frozen? ⟨X, j, none⟩ = false := by
  obtain ⟨t, h⟩ := h
  simp [World.frozen?, h]
theorem Bx.lt {W : World} {X : Nat} {cs : Array Value} (h : Bx W X cs) : X < W.heap.size := by
  obtain ⟨t, h⟩ := h
  exact (Array.getElem?_eq_some_iff.1 h).1
theorem Bx.kept {W W' : World} {X : Nat} {cs : Array Value} (h : Bx W X cs) (hb : W'.heap[X]? = W.heap[X]?) : Bx W' X cs := by
  obtain ⟨t, h⟩ := h
  exact ⟨t, hb.trans h⟩
theorem Bx.below {W W' : World} {X B : Nat} {cs : Array Value} (h : Bx W X cs) (hb : Below B W W') (hX : X < B) : Bx W' X cs := h.kept (hb.block X hX)
theorem Bx.next {W W' : World} {X : Nat} {cs : Array Value} (h : Bx W X cs) (hb : Below W.heap.size W W') : Bx W' X cs := h.kept (hb.block X h.lt)
theorem Bx.drew {W : World} {X : Nat} {cs : Array Value} (h : Bx W X cs) : Bx W.drew X cs := h.kept rfl
theorem Bx.drewN {W : World} {X : Nat} {cs : Array Value} (h : Bx W X cs) (n : Nat) : Bx (W.drewN n) X cs := h.kept rfl
theorem Bx.alloc {W : World} {X : Nat} {cs : Array Value} (h : Bx W X cs) (o : Obj) : Bx (W.alloc o) X cs := h.next below_box
theorem Bx.new (W : World) (cs : Array Value) (t : TypeId) : Bx (W.alloc (.cells cs t)) W.heap.size cs := ⟨t, by show (W.heap.push _)[W.heap.size]? = _; simp⟩
theorem heap_modify {h : Array Obj} {X : Nat} {o : Obj} (f : Obj → Obj) (hX : h[X]? = some o) : (h.modify X f)[X]? = some (f o) := by
  simp [Array.getElem?_modify, hX]
/-- one of its cells is set -/
theorem Bx.set {W : World} {X : Nat} {cs : Array Value} (h : Bx W X cs) {j : Nat} (u : Value) : Bx (W.setCell ⟨X, j, none⟩ u) X (cs.setIfInBounds j u) := by
  obtain ⟨t, h⟩ := h
  refine ⟨t, ?_⟩
  show (W.heap.modify X _)[X]? = _
  rw [heap_modify _ h]; simp
/-- another block's cell is set -/
theorem Bx.off {W : World} {X : Nat} {cs : Array Value} (h : Bx W X cs) {a : Addr} (u : Value) (hne : X ≠ a.block) : Bx (W.setCell a u) X cs := h.kept (Below.heap_setCell W a u X hne)

theorem Bx.c1 {W : World} {X : Nat} {a : Value} (h : Bx W X #[a]) : W.cell? ⟨X, 0, none⟩ = some a := h.cell rfl
theorem Bx.f1 {W : World} {X : Nat} {a : Value} (h : Bx W X #[a]) : W.frozen? ⟨X, 0, none⟩ = false := h.fr 0
theorem Bx.c2 {W : World} {X : Nat} {a b : Value} (h : Bx W X #[a, b]) : W.cell? ⟨X, 0, none⟩ = some a ∧ W.cell? ⟨X, 1, none⟩ = some b := ⟨h.cell rfl, h.cell rfl⟩
theorem Bx.f2 {W : World} {X : Nat} {a b : Value} (h : Bx W X #[a, b]) : W.frozen? ⟨X, 0, none⟩ = false ∧ W.frozen? ⟨X, 1, none⟩ = false := ⟨h.fr 0, h.fr 1⟩
theorem Bx.c3 {W : World} {X : Nat} {a b c : Value} (h : Bx W X #[a, b, c]) : W.cell? ⟨X, 0, none⟩ = some a ∧ W.cell? ⟨X, 1, none⟩ = some b ∧ W.cell? ⟨X, 2, none⟩ = some c := ⟨h.cell rfl, h.cell rfl, h.cell rfl⟩
theorem Bx.f3 {W : World} {X : Nat} {a b c : Value} (h : Bx W X #[a, b, c]) : W.frozen? ⟨X, 0, none⟩ = false ∧ W.frozen? ⟨X, 1, none⟩ = false ∧ W.frozen? ⟨X, 2, none⟩ = false := ⟨h.fr 0, h.fr 1, h.fr 2⟩
theorem Bx.c4 {W : World} {X : Nat} {a b c d : Value} (h : Bx W X #[a, b, c, d]) : W.cell? ⟨X, 0, none⟩ = some a ∧ W.cell? ⟨X, 1, none⟩ = some b ∧ W.cell? ⟨X, 2, none⟩ = some c ∧ W.cell? ⟨X, 3, none⟩ = some d := ⟨h.cell rfl, h.cell rfl, h.cell rfl, h.cell rfl⟩
theorem Bx.f4 {W : World} {X : Nat} {a b c d : Value} (h : Bx W X #[a, b, c, d]) : W.frozen? ⟨X, 0, none⟩ = false ∧ W.frozen? ⟨X, 1, none⟩ = false ∧ W.frozen? ⟨X, 2, none⟩ = false ∧ W.frozen? ⟨X, 3, none⟩ = false := ⟨h.fr 0, h.fr 1, h.fr 2, h.fr 3⟩
theorem Bx.c5 {W : World} {X : Nat} {a b c d e : Value} (h : Bx W X #[a, b, c, d, e]) : W.cell? ⟨X, 0, none⟩ = some a ∧ W.cell? ⟨X, 1, none⟩ = some b ∧ W.cell? ⟨X, 2, none⟩ = some c ∧ W.cell? ⟨X, 3, none⟩ = some d ∧ W.cell? ⟨X, 4, none⟩ = some e := ⟨h.cell rfl, h.cell rfl, h.cell rfl, h.cell rfl, h.cell rfl⟩
theorem Bx.f5 {W : World} {X : Nat} {a b c d e : Value} (h : Bx W X #[a, b, c, d, e]) : W.frozen? ⟨X, 0, none⟩ = false ∧ W.frozen? ⟨X, 1, none⟩ = false ∧ W.frozen? ⟨X, 2, none⟩ = false ∧ W.frozen? ⟨X, 3, none⟩ = false ∧ W.frozen? ⟨X, 4, none⟩ = false := ⟨h.fr 0, h.fr 1, h.fr 2, h.fr 3, h.fr 4⟩
theorem Bx.c6 {W : World} {X : Nat} {a b c d e f : Value} (h : Bx W X #[a, b, c, d, e, f]) : W.cell? ⟨X, 0, none⟩ = some a ∧ W.cell? ⟨X, 1, none⟩ = some b ∧ W.cell? ⟨X, 2, none⟩ = some c ∧ W.cell? ⟨X, 3, none⟩ = some d ∧ W.cell? ⟨X, 4, none⟩ = some e ∧ W.cell? ⟨X, 5, none⟩ = some f := ⟨h.cell rfl, h.cell rfl, h.cell rfl, h.cell rfl, h.cell rfl, h.cell rfl⟩
theorem Bx.f6 {W : World} {X : Nat} {a b c d e f : Value} (h : Bx W X #[a, b, c, d, e, f]) : W.frozen? ⟨X, 0, none⟩ = false ∧ W.frozen? ⟨X, 1, none⟩ = false ∧ W.frozen? ⟨X, 2, none⟩ = false ∧ W.frozen? ⟨X, 3, none⟩ = false ∧ W.frozen? ⟨X, 4, none⟩ = false ∧ W.frozen? ⟨X, 5, none⟩ = false := ⟨h.fr 0, h.fr 1, h.fr 2, h.fr 3, h.fr 4, h.fr 5⟩
/-- while a call runs whose own blocks are these -/
structure J (w W : World) (bs : List (Nat × Array Value)) : Prop where
  below : Below w.heap.size w W
  at_ : ∀ x ∈ bs, Bx W x.1 x.2
theorem J.next {w W W' : World} {bs : List (Nat × Array Value)} (h : J w W bs) (hb : Below W.heap.size W W') : J w W' bs :=
  ⟨h.below.trans (hb.mono h.below.size), fun x hx => (h.at_ x hx).next hb⟩
theorem J.drew {w W : World} {bs : List (Nat × Array Value)} (h : J w W bs) : J w W.drew bs := ⟨h.below.drew, fun x hx => (h.at_ x hx).drew⟩
theorem J.alloc {w W : World} {bs : List (Nat × Array Value)} (h : J w W bs) (o : Obj) : J w (W.alloc o) bs := h.next below_box
theorem J.start (w : World) : J w w [] := ⟨Below.refl _ _, fun x hx => by cases hx⟩
theorem J.more {w W : World} {bs : List (Nat × Array Value)} (h : J w W bs) {X : Nat} {cs : Array Value} (hX : Bx W X cs) : J w W ((X, cs) :: bs) :=
  ⟨h.below, fun x hx => (List.mem_cons.1 hx).elim (fun e => e ▸ hX) (h.at_ x)⟩
theorem J.push {w W : World} {bs : List (Nat × Array Value)} (h : J w W bs) (cs : Array Value) (t : TypeId) : J w (W.alloc (.cells cs t)) ((W.heap.size, cs) :: bs) :=
  (h.alloc _).more (Bx.new W cs t)
theorem J.one (w : World) (cs : Array Value) (t : TypeId) : J w (w.alloc (.cells cs t)) [(w.heap.size, cs)] := (J.start w).push cs t
theorem J.less {w W : World} {bs bs' : List (Nat × Array Value)} (h : J w W bs) (hs : ∀ x ∈ bs', x ∈ bs) : J w W bs' := ⟨h.below, fun x hx => h.at_ x (hs x hx)⟩
/-- cell j of block X is set -/
theorem J.set {w W : World} {bs : List (Nat × Array Value)} (h : J w W bs) {X : Nat} (j : Nat) (u : Value) (hX : w.heap.size ≤ X) :
    J w (W.setCell ⟨X, j, none⟩ u) (bs.map fun x => if x.1 = X then (x.1, x.2.setIfInBounds j u) else x) := by
  refine ⟨h.below.setCell hX u, fun x hx => ?_⟩
  obtain ⟨y, hy, rfl⟩ := List.mem_map.1 hx
  by_cases e : y.1 = X
  · rw [if_pos e]
    subst e
    exact (h.at_ y hy).set u
  · rw [if_neg e]
    exact (h.at_ y hy).off u e
theorem map_off {bs : List (Nat × Array Value)} {X : Nat} (hne : ∀ x ∈ bs, x.1 ≠ X) (j : Nat) (u : Value) : (bs.map fun x => if x.1 = X then (x.1, x.2.setIfInBounds j u) else x) = bs := by
  have : (bs.map fun x => if x.1 = X then (x.1, x.2.setIfInBounds j u) else x) = bs.map id := List.map_congr_left fun x hx => by rw [if_neg (hne x hx)]; rfl
  rw [this, List.map_id]
/-- the first block's cell is set -/
theorem J.put {w W : World} {bs : List (Nat × Array Value)} {X : Nat} {cs : Array Value} (h : J w W ((X, cs) :: bs)) (hX : w.heap.size ≤ X) (hne : ∀ x ∈ bs, x.1 ≠ X) (j : Nat) (u : Value) : J w (W.setCell ⟨X, j, none⟩ u) ((X, cs.setIfInBounds j u) :: bs) := by
  have := h.set j u hX
  rw [List.map_cons, if_pos rfl, map_off hne] at this
  exact this
/-- .. all three -/
theorem J.fill3 {w W : World} {bs : List (Nat × Array Value)} {X : Nat} {a b c x y z : Value} (h : J w W ((X, #[a, b, c]) :: bs)) (hX : w.heap.size ≤ X) (hne : ∀ x ∈ bs, x.1 ≠ X) : J w (((W.setCell ⟨X, 0, none⟩ x).setCell ⟨X, 1, none⟩ y).setCell ⟨X, 2, none⟩ z) ((X, #[x, y, z]) :: bs) :=
  ((h.put hX hne 0 x).put hX hne 1 y).put hX hne 2 z
theorem J.put3 {w W : World} {X : Nat} {a b c x y z : Value} (h : J w W [(X, #[a, b, c])]) (hX : w.heap.size ≤ X) : J w (((W.setCell ⟨X, 0, none⟩ x).setCell ⟨X, 1, none⟩ y).setCell ⟨X, 2, none⟩ z) [(X, #[x, y, z])] := h.fill3 hX (fun x hx => by cases hx)
theorem J.bx {w W : World} {bs : List (Nat × Array Value)} (h : J w W bs) (i : Nat) {X : Nat} {cs : Array Value} (hi : bs[i]? = some (X, cs)) : Bx W X cs := h.at_ (X, cs) (List.mem_of_getElem? hi)
theorem J.two (w : World) (cs cs' : Array Value) (t t' : TypeId) : J w ((w.alloc (.cells cs t)).alloc (.cells cs' t')) [(w.heap.size + 1, cs'), (w.heap.size, cs)] := by
  have := (J.one w cs t).push cs' t'
  rwa [World.size_alloc] at this
theorem J.three (w : World) (cs cs' cs'' : Array Value) (t t' t'' : TypeId) : J w (((w.alloc (.cells cs t)).alloc (.cells cs' t')).alloc (.cells cs'' t'')) [(w.heap.size + 2, cs''), (w.heap.size + 1, cs'), (w.heap.size, cs)] := by
  have := (J.two w cs cs' t t').push cs'' t''
  rwa [World.size_alloc, World.size_alloc] at this
/-- cell j of block number i -/
theorem J.cell {w W : World} {bs : List (Nat × Array Value)} (h : J w W bs) (i j : Nat) {X : Nat} {cs : Array Value} {v : Value} (hi : bs[i]? = some (X, cs)) (hj : cs[j]? = some v) : W.cell? ⟨X, j, none⟩ = some v := (h.bx i hi).cell hj
theorem J.fr {w W : World} {bs : List (Nat × Array Value)} (h : J w W bs) (i j : Nat) {X : Nat} {cs : Array Value} (hi : bs[i]? = some (X, cs)) : W.frozen? ⟨X, j, none⟩ = false := (h.bx i hi).fr j
/-- a contract that only makes memory, at such a world -/
theorem j_of {P : Program} {w W : World} {bs : List (Nat × Array Value)} {f : FuncId} {args : Array Value} {r : Value} (h : Hid (J w W bs)) (hc : Calls P f args W (Says W r)) : Calls P f args W fun e W' => e = .returned r ∧ Hid (J w W' bs) :=
  hc.mono fun e W' ⟨h1, h2⟩ => ⟨h1, Lib.hid (h.out.next h2)⟩
theorem j_same {P : Program} {w W : World} {bs : List (Nat × Array Value)} {f : FuncId} {args : Array Value} {r : Value} (h : Hid (J w W bs)) (hc : Calls P f args W fun e w' => e = .returned r ∧ W = w') : Calls P f args W fun e W' => e = .returned r ∧ Hid (J w W' bs) :=
  hc.mono fun e W' ⟨h1, h2⟩ => ⟨h1, h2 ▸ h⟩

end Go.Proofs.YthpbcbbiampamaaGreatDoor.Box
