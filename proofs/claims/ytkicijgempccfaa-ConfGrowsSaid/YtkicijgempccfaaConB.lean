/- A group as a value, and as it lies in memory; sums of a few numbers; contracts of conf.Run, Doors, Saves. -/
import Derived.Test.YtkicijgempccfaaConA
import Derived.Test.YtkicijgempccfaaRatK
namespace Go.Proofs.Ytkicijgempccfaa.Con
open Go.RowKit Go.Proofs.Ytkicijgempccfaa.RatP Go.Proofs.Ytkicijgempccfaa.SatP Go.Proofs.Ytkicijgempccfaa.ConP Go.Proofs.Ytkicijgempccfaa.Rat
set_option linter.unusedVariables false

/-- the cells of a bank -/
def bCells (b : Bk) : List Value := [.int .i64 b.cars, .int .i64 b.r.idle, .int .i64 b.r.move, .int .i64 b.r.gain, .int .i64 b.r.pull, .int .i64 b.r.door, .int .i64 b.r.weight]
def bRow : List Bk → List Value
  | [] => []
  | b :: l => bCells b ++ bRow l
theorem bRow_length (l : List Bk) : (bRow l).length = l.length * 7 := by
  induction l with
  | nil => rfl
  | cons b l ih => simp only [bRow, List.length_append, ih, List.length_cons, bCells, List.length_nil]; omega
theorem bRow_at (l : List Bk) : ∀ (k : Nat) (b : Bk) (j : Nat) (u : Value), l[k]? = some b → (bCells b)[j]? = some u → (bRow l)[k * 7 + j]? = some u := by
  induction l with
  | nil => intro k b j u h; simp at h
  | cons a l ih =>
    intro k b j u hk hj
    have hj7 : j < 7 := (List.getElem?_eq_some_iff.1 hj).1
    simp only [bRow]
    cases k with
    | zero =>
      simp at hk
      subst hk
      rw [List.getElem?_append_left (by show _ < 7; omega), Nat.zero_mul, Nat.zero_add]
      exact hj
    | succ k =>
      rw [List.getElem?_append_right (by show 7 ≤ _; omega)]
      have e : (k + 1) * 7 + j - (bCells a).length = k * 7 + j := by show (k + 1) * 7 + j - 7 = _; omega
      rw [e]
      exact ih k b j u (by simpa using hk) hj
theorem bRow_append (l m : List Bk) : bRow (l ++ m) = bRow l ++ bRow m := by
  induction l with
  | nil => rfl
  | cons b l ih => simp only [List.cons_append, bRow, ih, List.append_assoc]
theorem bRow_one (l : List Bk) : ∀ u ∈ bRow l, u.oneCell' = true := by
  induction l with
  | nil => intro u h; simp [bRow] at h
  | cons b l ih =>
    intro u h
    simp only [bRow, List.mem_append] at h
    rcases h with h | h
    · simp only [bCells, List.mem_cons, List.not_mem_nil, or_false] at h
      rcases h with rfl | rfl | rfl | rfl | rfl | rfl | rfl <;> rfl
    · exact ih u h

/-- a group with its two slices -/
structure V where
  A : Option Addr
  cb : Nat
  O : Option Addr
  co : Nat
  c : C
def V.val (v : V) : Value := .agg #[.slice v.A v.c.banks.length v.cb, .int .i64 v.c.floors, .int .i64 v.c.home, .slice v.O v.c.order.length v.co, .int .i64 v.c.speed, .int .i64 v.c.width, .int .i64 v.c.dwell, .int .i64 v.c.good, .int .i64 v.c.dead, .int .i64 v.c.lag, .int .i64 v.c.turn, .int .i64 v.c.cost, .int .i64 v.c.full]
/-- what its slices show -/
structure V.In (W : World) (v : V) : Prop where
  bs : Sees.Sees W W.heap.size v.A (bRow v.c.banks)
  os : Sees.Sees W W.heap.size v.O (Sees.nums .i64 v.c.order)
  bl : v.c.banks.length ≤ maxLen
  ol : v.c.order.length ≤ maxLen
theorem V.In.next {W W' : World} {v : V} (h : V.In W v) (hb : Below W.heap.size W W') : V.In W' v :=
  ⟨(h.bs.below hb (Nat.le_refl _)).more hb.size, (h.os.below hb (Nat.le_refl _)).more hb.size, h.bl, h.ol⟩
theorem V.In.box {W : World} {v : V} (h : V.In W v) (o : Obj) : V.In (W.alloc o) v := h.next ((Below.refl _ _).alloc (Nat.le_refl _) o)
theorem V.In.drew {W : World} {v : V} (h : V.In W v) : V.In W.drew v := h.next ⟨rfl, rfl, rfl, Nat.le_refl _, fun _ _ => rfl⟩

theorem says_box {w : World} {o : Obj} : Below w.heap.size w (w.alloc o) := (Below.refl _ _).alloc (Nat.le_refl _) o

/-- cells of a bank behind a slice -/
structure BkAt (W : World) (b o : Nat) (x : Bk) : Prop where
  c0 : W.cell? ⟨b, o, none⟩ = some (.int .i64 x.cars)
  c1 : W.cell? ⟨b, o + 1, none⟩ = some (.int .i64 x.r.idle)
  c2 : W.cell? ⟨b, o + 2, none⟩ = some (.int .i64 x.r.move)
  c3 : W.cell? ⟨b, o + 3, none⟩ = some (.int .i64 x.r.gain)
  c4 : W.cell? ⟨b, o + 4, none⟩ = some (.int .i64 x.r.pull)
  c5 : W.cell? ⟨b, o + 5, none⟩ = some (.int .i64 x.r.door)
  c6 : W.cell? ⟨b, o + 6, none⟩ = some (.int .i64 x.r.weight)
theorem sees_bank {W : World} {B : Nat} {A : Option Addr} {l : List Bk} (h : Sees.Sees W B A (bRow l)) {k : Nat} {x : Bk} (hk : l[k]? = some x) : ∃ b o, A = some ⟨b, o, none⟩ ∧ b < B ∧ BkAt W b (o + k * 7) x := by
  rcases h with h | ⟨b, o, ha, hb, hc⟩
  · exfalso
    have := bRow_at l k x 0 _ hk rfl
    rw [h] at this
    simp at this
  · refine ⟨b, o, ha, hb, ?_⟩
    have e : ∀ j u, (bCells x)[j]? = some u → W.cell? ⟨b, o + k * 7 + j, none⟩ = some u := fun j u hj => by
      have := hc _ u (bRow_at l k x j u hk hj)
      rwa [← Nat.add_assoc] at this
    exact ⟨e 0 _ rfl, e 1 _ rfl, e 2 _ rfl, e 3 _ rfl, e 4 _ rfl, e 5 _ rfl, e 6 _ rfl⟩

/-- a few numbers, written out -/
theorem sees_cells {W : World} {B : Nat} {l : List Int} (hB : B < W.heap.size) (h : ∀ j u, (Sees.nums .i64 l)[j]? = some u → W.cell? ⟨B, j, none⟩ = some u) : Sees.Sees W W.heap.size (some ⟨B, 0, none⟩) (Sees.nums .i64 l) :=
  .inr ⟨B, 0, rfl, hB, fun j u hu => by rw [Nat.zero_add]; exact h j u hu⟩
def Sm (x : Int) : Prop := -16777216 ≤ x ∧ x ≤ 16777216
theorem sum2_any {x y z : Int} (hx : Sm x) (hy : Sm y) (e : x + y = z) (B : Nat) (W : World) (c0 : W.cell? ⟨B, 0, none⟩ = some (.int .i64 x)) (c1 : W.cell? ⟨B, 1, none⟩ = some (.int .i64 y)) :
    Calls Try.prog 31 #[.slice (some ⟨B, 0, none⟩) 2 2] W (Says W (.int .i64 z)) := by
  have h := sum_any [x, y] (some ⟨B, 0, none⟩) 2 2 W rfl ⟨by simp, by intro a ha; simp at ha; rcases ha with rfl | rfl; exact hx; exact hy⟩
    (sees_cells (World.block_lt_of_cell? W _ c0) (fun j u hu => by
      match j, hu with
      | 0, hu => simp [Sees.nums] at hu; subst hu; exact c0
      | 1, hu => simp [Sees.nums] at hu; subst hu; exact c1))
  have : tot [x, y] = z := by simp [tot]; omega
  rwa [this] at h
theorem sum4_any {a b c d z : Int} (ha : Sm a) (hb : Sm b) (hc : Sm c) (hd : Sm d) (e : a + b + c + d = z) (B : Nat) (W : World) (c0 : W.cell? ⟨B, 0, none⟩ = some (.int .i64 a)) (c1 : W.cell? ⟨B, 1, none⟩ = some (.int .i64 b)) (c2 : W.cell? ⟨B, 2, none⟩ = some (.int .i64 c)) (c3 : W.cell? ⟨B, 3, none⟩ = some (.int .i64 d)) :
    Calls Try.prog 31 #[.slice (some ⟨B, 0, none⟩) 4 4] W (Says W (.int .i64 z)) := by
  have h := sum_any [a, b, c, d] (some ⟨B, 0, none⟩) 4 4 W rfl ⟨by simp, by intro x hx; simp at hx; rcases hx with rfl | rfl | rfl | rfl; exact ha; exact hb; exact hc; exact hd⟩
    (sees_cells (World.block_lt_of_cell? W _ c0) (fun j u hu => by
      match j, hu with
      | 0, hu => simp [Sees.nums] at hu; subst hu; exact c0
      | 1, hu => simp [Sees.nums] at hu; subst hu; exact c1
      | 2, hu => simp [Sees.nums] at hu; subst hu; exact c2
      | 3, hu => simp [Sees.nums] at hu; subst hu; exact c3))
  have : tot [a, b, c, d] = z := by simp [tot]; omega
  rwa [this] at h
theorem sum6_any {x0 x1 x2 x3 x4 x5 z : Int} (h0 : Sm x0) (h1 : Sm x1) (h2 : Sm x2) (h3 : Sm x3) (h4 : Sm x4) (h5 : Sm x5) (e : x0 + x1 + x2 + x3 + x4 + x5 = z) (B : Nat) (W : World) (c0 : W.cell? ⟨B, 0, none⟩ = some (.int .i64 x0)) (c1 : W.cell? ⟨B, 1, none⟩ = some (.int .i64 x1)) (c2 : W.cell? ⟨B, 2, none⟩ = some (.int .i64 x2)) (c3 : W.cell? ⟨B, 3, none⟩ = some (.int .i64 x3)) (c4 : W.cell? ⟨B, 4, none⟩ = some (.int .i64 x4)) (c5 : W.cell? ⟨B, 5, none⟩ = some (.int .i64 x5)) :
    Calls Try.prog 31 #[.slice (some ⟨B, 0, none⟩) 6 6] W (Says W (.int .i64 z)) := by
  have h := sum_any [x0, x1, x2, x3, x4, x5] (some ⟨B, 0, none⟩) 6 6 W rfl ⟨by simp, by intro x hx; simp at hx; rcases hx with rfl | rfl | rfl | rfl | rfl | rfl; exact h0; exact h1; exact h2; exact h3; exact h4; exact h5⟩
    (sees_cells (World.block_lt_of_cell? W _ c0) (fun j u hu => by
      match j, hu with
      | 0, hu => simp [Sees.nums] at hu; subst hu; exact c0
      | 1, hu => simp [Sees.nums] at hu; subst hu; exact c1
      | 2, hu => simp [Sees.nums] at hu; subst hu; exact c2
      | 3, hu => simp [Sees.nums] at hu; subst hu; exact c3
      | 4, hu => simp [Sees.nums] at hu; subst hu; exact c4
      | 5, hu => simp [Sees.nums] at hu; subst hu; exact c5))
  have : tot [x0, x1, x2, x3, x4, x5] = z := by simp [tot]; omega
  rwa [this] at h
theorem sum10_any {x0 x1 x2 x3 x4 x5 x6 x7 x8 x9 z : Int} (h0 : Sm x0) (h1 : Sm x1) (h2 : Sm x2) (h3 : Sm x3) (h4 : Sm x4) (h5 : Sm x5) (h6 : Sm x6) (h7 : Sm x7) (h8 : Sm x8) (h9 : Sm x9) (e : x0 + x1 + x2 + x3 + x4 + x5 + x6 + x7 + x8 + x9 = z) (B : Nat) (W : World)
    (c0 : W.cell? ⟨B, 0, none⟩ = some (.int .i64 x0)) (c1 : W.cell? ⟨B, 1, none⟩ = some (.int .i64 x1)) (c2 : W.cell? ⟨B, 2, none⟩ = some (.int .i64 x2)) (c3 : W.cell? ⟨B, 3, none⟩ = some (.int .i64 x3)) (c4 : W.cell? ⟨B, 4, none⟩ = some (.int .i64 x4)) (c5 : W.cell? ⟨B, 5, none⟩ = some (.int .i64 x5)) (c6 : W.cell? ⟨B, 6, none⟩ = some (.int .i64 x6)) (c7 : W.cell? ⟨B, 7, none⟩ = some (.int .i64 x7)) (c8 : W.cell? ⟨B, 8, none⟩ = some (.int .i64 x8)) (c9 : W.cell? ⟨B, 9, none⟩ = some (.int .i64 x9)) :
    Calls Try.prog 31 #[.slice (some ⟨B, 0, none⟩) 10 10] W (Says W (.int .i64 z)) := by
  have h := sum_any [x0, x1, x2, x3, x4, x5, x6, x7, x8, x9] (some ⟨B, 0, none⟩) 10 10 W rfl ⟨by simp, by intro x hx; simp at hx; rcases hx with rfl | rfl | rfl | rfl | rfl | rfl | rfl | rfl | rfl | rfl; exact h0; exact h1; exact h2; exact h3; exact h4; exact h5; exact h6; exact h7; exact h8; exact h9⟩
    (sees_cells (World.block_lt_of_cell? W _ c0) (fun j u hu => by
      match j, hu with
      | 0, hu => simp [Sees.nums] at hu; subst hu; exact c0
      | 1, hu => simp [Sees.nums] at hu; subst hu; exact c1
      | 2, hu => simp [Sees.nums] at hu; subst hu; exact c2
      | 3, hu => simp [Sees.nums] at hu; subst hu; exact c3
      | 4, hu => simp [Sees.nums] at hu; subst hu; exact c4
      | 5, hu => simp [Sees.nums] at hu; subst hu; exact c5
      | 6, hu => simp [Sees.nums] at hu; subst hu; exact c6
      | 7, hu => simp [Sees.nums] at hu; subst hu; exact c7
      | 8, hu => simp [Sees.nums] at hu; subst hu; exact c8
      | 9, hu => simp [Sees.nums] at hu; subst hu; exact c9))
  have : tot [x0, x1, x2, x3, x4, x5, x6, x7, x8, x9] = z := by simp [tot]; omega
  rwa [this] at h
theorem box2_at0 (w : World) (x y : Value) (t : TypeId) : (w.alloc (.cells #[x, y] t)).cell? ⟨w.heap.size, 0, none⟩ = some x := by simp
theorem box2_at1 (w : World) (x y : Value) (t : TypeId) : (w.alloc (.cells #[x, y] t)).cell? ⟨w.heap.size, 1, none⟩ = some y := by simp

set_option maxHeartbeats 1600000 in
theorem Run_any (v : V) (h0 : 0 ≤ v.c.floors) (h1 : v.c.floors ≤ 100) (w : World) : Calls Try.prog 20 #[v.val] w (Says w (.int .i64 (run v.c))) := by
  obtain ⟨A, cb, O, co, ⟨banks, floors, home, order, speed, width, dwell, good, dead, lag, turn, cost, full⟩⟩ := v
  simp only [V.val, run] at *
  generalize banks.length = nb
  generalize order.length = no
  have S1 := Lib.hid (fun (B : Nat) (W : World) => sum2_any (x := floors) (y := -1) (z := floors - 1) (by unfold Sm; omega) (by unfold Sm; omega) (by omega) B W)
  have T := Lib.hid (fun W => times_any (floors - 1) 8 (by omega) (by omega) (by omega) (by omega) W)
  have S2 := Lib.hid (fun (B : Nat) (W : World) => sum2_any (x := (floors - 1) * 8) (y := 1) (z := 8 * floors - 7) (by unfold Sm; omega) (by unfold Sm; omega) (by omega) B W)
  generalize (floors - 1) * 8 = p at *
  generalize 8 * floors - 7 = q at *
  generalize floors - 1 = r at *
  clear h0 h1
  go_enter Try.func20, Try.ntmps20
  go_wp2_with (first
    | (go_at_call 31; (with_reducible refine (S1.out _ _ ?_ ?_).mono ?_); (simp); (simp); rintro e w1 ⟨rfl, b1⟩)
    | (go_at_call 35; refine (T.out _).mono ?_; rintro e w2 ⟨rfl, b2⟩)
    | (go_at_call 31; (with_reducible refine (S2.out _ _ ?_ ?_).mono ?_); (simp); (simp); rintro e w3 ⟨rfl, b3⟩))
  go_ret
  exact ⟨rfl, (((says_box.trans (says_box.mono (by simp))).trans (b1.mono (by simp; omega))).trans (b2.mono (by have := b1.size; simp at this; omega))).trans ((says_box.trans (b3.mono (by simp))).mono (by have := b1.size; have := b2.size; simp at *; omega))⟩

end Go.Proofs.Ytkicijgempccfaa.Con
