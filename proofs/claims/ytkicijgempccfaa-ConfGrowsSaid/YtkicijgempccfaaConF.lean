/- Contracts of conf.demands and of what must hold, one by one. -/
import Derived.Test.YtkicijgempccfaaConE
namespace Go.Proofs.Ytkicijgempccfaa.Con
open Go.RowKit Go.Proofs.Ytkicijgempccfaa.RatP Go.Proofs.Ytkicijgempccfaa.SatP Go.Proofs.Ytkicijgempccfaa.ConP Go.Proofs.Ytkicijgempccfaa.Rat
set_option linter.unusedVariables false

/-- a group's cells in a block X -/
structure CBox (W : World) (X : Nat) (v : V) : Prop where
  c0 : W.cell? ⟨X, 0, none⟩ = some (.slice v.A v.c.banks.length v.cb)
  c1 : W.cell? ⟨X, 1, none⟩ = some (.int .i64 v.c.floors)
  c2 : W.cell? ⟨X, 2, none⟩ = some (.int .i64 v.c.home)
  c3 : W.cell? ⟨X, 3, none⟩ = some (.slice v.O v.c.order.length v.co)
  c4 : W.cell? ⟨X, 4, none⟩ = some (.int .i64 v.c.speed)
  c5 : W.cell? ⟨X, 5, none⟩ = some (.int .i64 v.c.width)
  c6 : W.cell? ⟨X, 6, none⟩ = some (.int .i64 v.c.dwell)
  c7 : W.cell? ⟨X, 7, none⟩ = some (.int .i64 v.c.good)
  c8 : W.cell? ⟨X, 8, none⟩ = some (.int .i64 v.c.dead)
  c9 : W.cell? ⟨X, 9, none⟩ = some (.int .i64 v.c.lag)
  c10 : W.cell? ⟨X, 10, none⟩ = some (.int .i64 v.c.turn)
  c11 : W.cell? ⟨X, 11, none⟩ = some (.int .i64 v.c.cost)
  c12 : W.cell? ⟨X, 12, none⟩ = some (.int .i64 v.c.full)
theorem CBox.lt {W : World} {X : Nat} {v : V} (h : CBox W X v) : X < W.heap.size := World.block_lt_of_cell? W _ h.c0
theorem CBox.kept {W W' : World} {X : Nat} {v : V} (h : CBox W X v) (hb : W'.heap[X]? = W.heap[X]?) : CBox W' X v := by
  have c : ∀ o, W'.cell? ⟨X, o, none⟩ = W.cell? ⟨X, o, none⟩ := fun o => World.cell?_of_block hb
  exact ⟨(c _).trans h.c0, (c _).trans h.c1, (c _).trans h.c2, (c _).trans h.c3, (c _).trans h.c4, (c _).trans h.c5, (c _).trans h.c6, (c _).trans h.c7, (c _).trans h.c8, (c _).trans h.c9, (c _).trans h.c10, (c _).trans h.c11, (c _).trans h.c12⟩
theorem CBox.below {W W' : World} {X : Nat} {v : V} (h : CBox W X v) {B : Nat} (hb : Below B W W') (hB : X < B) : CBox W' X v := h.kept (hb.block X hB)
theorem CBox.next {W W' : World} {X : Nat} {v : V} (h : CBox W X v) (hb : Below W.heap.size W W') : CBox W' X v := h.below hb h.lt
theorem CBox.drew {W : World} {X : Nat} {v : V} (h : CBox W X v) : CBox W.drew X v := ⟨h.c0, h.c1, h.c2, h.c3, h.c4, h.c5, h.c6, h.c7, h.c8, h.c9, h.c10, h.c11, h.c12⟩
def V.arr (v : V) : Array Value := #[.slice v.A v.c.banks.length v.cb, .int .i64 v.c.floors, .int .i64 v.c.home, .slice v.O v.c.order.length v.co, .int .i64 v.c.speed, .int .i64 v.c.width, .int .i64 v.c.dwell, .int .i64 v.c.good, .int .i64 v.c.dead, .int .i64 v.c.lag, .int .i64 v.c.turn, .int .i64 v.c.cost, .int .i64 v.c.full]
theorem CBox.new (w : World) (v : V) (t : TypeId) : CBox (w.alloc (.cells v.arr t)) w.heap.size v := by
  unfold V.arr
  constructor <;> simp
theorem CBox.all {W : World} {X : Nat} {v : V} (h : CBox W X v) : W.cell? ⟨X, 0, none⟩ = some (.slice v.A v.c.banks.length v.cb) ∧ W.cell? ⟨X, 1, none⟩ = some (.int .i64 v.c.floors) ∧ W.cell? ⟨X, 2, none⟩ = some (.int .i64 v.c.home) ∧ W.cell? ⟨X, 3, none⟩ = some (.slice v.O v.c.order.length v.co) ∧ W.cell? ⟨X, 4, none⟩ = some (.int .i64 v.c.speed) ∧ W.cell? ⟨X, 5, none⟩ = some (.int .i64 v.c.width) ∧ W.cell? ⟨X, 6, none⟩ = some (.int .i64 v.c.dwell) ∧ W.cell? ⟨X, 7, none⟩ = some (.int .i64 v.c.good) ∧ W.cell? ⟨X, 8, none⟩ = some (.int .i64 v.c.dead) ∧ W.cell? ⟨X, 9, none⟩ = some (.int .i64 v.c.lag) ∧ W.cell? ⟨X, 10, none⟩ = some (.int .i64 v.c.turn) ∧ W.cell? ⟨X, 11, none⟩ = some (.int .i64 v.c.cost) ∧ W.cell? ⟨X, 12, none⟩ = some (.int .i64 v.c.full) :=
  ⟨h.c0, h.c1, h.c2, h.c3, h.c4, h.c5, h.c6, h.c7, h.c8, h.c9, h.c10, h.c11, h.c12⟩

/-- the number of what must hold -/
def fnOf : Nat → FuncId
  | 0 => 38
  | 1 => 40
  | 2 => 42
  | 3 => 43
  | 4 => 44
  | 5 => 46
  | 6 => 47
  | 7 => 48
  | 8 => 49
  | 9 => 50
  | 10 => 51
  | 11 => 52
  | 12 => 53
  | _ => 54

theorem d1_any (v : V) (w : World) : Calls Try.prog 38 #[v.val] w (Says w (.bool (dm v.c 0))) := by
  have HW := Lib.hid (fun W => within_any v.c.banks.length 1 8 W)
  obtain ⟨A, cb, O, co, ⟨banks, floors, home, order, speed, width, dwell, good, dead, lag, turn, cost, full⟩⟩ := v
  simp only [V.val, dm] at *
  generalize wi banks.length 1 8 = p at *
  go_enter Try.func38, Try.ntmps38
  go_wp2_with (go_at_call 39; refine (HW.out _).mono ?_; rintro e w' ⟨rfl, rfl⟩)
  go_ret
  exact ⟨rfl, says_box⟩
theorem d2_any (v : V) (hn : v.c.banks.length ≤ 1000) (w : World) (hin : V.In w v) : Calls Try.prog 40 #[v.val] w (Says w (.bool (dm v.c 1))) := by
  have HW := Lib.hid (fun (o : Obj) => banksMay_any v.c.banks v.A v.c.banks.length v.cb rfl hn (w.alloc o) (hin.box o).bs)
  clear hin hn
  obtain ⟨A, cb, O, co, ⟨banks, floors, home, order, speed, width, dwell, good, dead, lag, turn, cost, full⟩⟩ := v
  simp only [V.val, dm] at *
  generalize banks.all bOk = p at *
  go_enter Try.func40, Try.ntmps40
  go_wp2_with (go_at_call 41; refine (HW.out _).mono ?_; rintro e w1 ⟨rfl, b1⟩)
  go_ret
  exact ⟨rfl, below_mono says_box b1⟩
theorem d4_any (v : V) (h0 : 2 ≤ v.c.floors) (h1 : v.c.floors ≤ 32) (w : World) : Calls Try.prog 43 #[v.val] w (Says w (.bool (dm v.c 3))) := by
  have HW := Lib.hid (fun W => within_any v.c.home 0 (v.c.floors - 1) W)
  obtain ⟨A, cb, O, co, ⟨banks, floors, home, order, speed, width, dwell, good, dead, lag, turn, cost, full⟩⟩ := v
  simp only [V.val, dm] at *
  generalize wi home 0 (floors - 1) = p at *
  go_enter Try.func43, Try.ntmps43
  go_wp2_with (go_at_call 39; refine (HW.out _).mono ?_; rintro e w' ⟨rfl, rfl⟩)
  go_ret
  exact ⟨rfl, says_box⟩
theorem in_later {w : World} {v : V} (h : V.In w v) {W : World} {o : Obj} (hb : Below (w.alloc o).heap.size (w.alloc o) W) : V.In W v := (h.box o).next hb

set_option maxHeartbeats 1600000 in
theorem d5_any (v : V) (hb : ∀ b ∈ v.c.banks, bOk b = true) (hn : v.c.banks.length ≤ 8) (hno : v.c.order.length ≤ 1000) (w : World) (hin : V.In w v) : Calls Try.prog 44 #[v.val] w (Says w (.bool (dm v.c 4))) := by
  have HC := Lib.hid (fun W (h : V.In W v) => Cars_any v hb (by omega) W h)
  have hcb := cars_bd _ hb
  have HE := Lib.hid (fun W (h : V.In W v) => eachOnce_any v.c.order v.O v.c.order.length v.co rfl hno (cars v.c.banks) (by omega) (by omega) W h.os)
  have HI : Hid (V.In (w.alloc (.cells v.arr 25)).drew v) := Lib.hid (hin.box _).drew
  have HX : Hid (CBox (w.alloc (.cells v.arr 25)).drew w.heap.size v) := Lib.hid (CBox.new w v _).drew
  have HB0 : Hid (Below w.heap.size w (w.alloc (.cells v.arr 25)).drew) := Lib.hid says_box.drew
  have HN : Hid (∀ W W', V.In W v → Below W.heap.size W W' → V.In W' v) := Lib.hid fun W W' h k => h.next k
  have HNX : Hid (∀ W W', CBox W w.heap.size v → Below W.heap.size W W' → CBox W' w.heap.size v) := Lib.hid fun W W' h k => h.next k
  have HA := Lib.hid (fun W (h : CBox W w.heap.size v) => h.all)
  clear hin hn hno hcb hb
  obtain ⟨A, cb, O, co, ⟨banks, floors, home, order, speed, width, dwell, good, dead, lag, turn, cost, full⟩⟩ := v
  simp only [V.val, V.arr, dm] at *
  generalize decide (once order (cars banks)) = p at *
  generalize cars banks = n at *
  go_enter Try.func44, Try.ntmps44
  go_wp2
  obtain ⟨a0, a1, a2, a3, a4, a5, a6, a7, a8, a9, a10, a11, a12⟩ := HA.out _ HX.out
  go_region_with (first
    | (go_at_call 16; refine (HC.out _ HI.out).mono ?_; rintro e w1 ⟨rfl, b1⟩; obtain ⟨d0, d1, d2, d3, d4, d5, d6, d7, d8, d9, d10, d11, d12⟩ := HA.out _ (HNX.out _ _ HX.out b1); have HI1 := Lib.hid (HN.out _ _ HI.out b1); have HB1 := Lib.hid b1; clear b1)
    | (go_at_call 45; refine (HE.out _ HI1.out).mono ?_; rintro e w2 ⟨rfl, b2⟩))
  all_goals
    go_wp2
    go_ret
    exact ⟨rfl, below_mono HB0.out (below_mono HB1.out b2)⟩

end Go.Proofs.Ytkicijgempccfaa.Con
