/- While a law of layer 5 runs: its box; the contracts of small and awake. -/
import Derived.Test.YtkicijgempccfaaConG
import Derived.Test.YtkicijgempccfaaConH
namespace Go.Proofs.Ytkicijgempccfaa.Con
open Go.RowKit Go.Proofs.Ytkicijgempccfaa.RatP Go.Proofs.Ytkicijgempccfaa.SatP Go.Proofs.Ytkicijgempccfaa.ConP Go.Proofs.Ytkicijgempccfaa.Rat
set_option linter.unusedVariables false

/-- the law's box in block X, and what its slices show -/
structure LJ (w W : World) (X : Nat) (v : V) : Prop where
  below : Below w.heap.size w W
  box : CBox W X v
  inn : V.In W v
theorem LJ.next {w W W' : World} {X : Nat} {v : V} (h : LJ w W X v) (hb : Below W.heap.size W W') : LJ w W' X v := ⟨h.below.trans (hb.mono h.below.size), h.box.next hb, h.inn.next hb⟩
theorem LJ.drew {w W : World} {X : Nat} {v : V} (h : LJ w W X v) : LJ w W.drew X v := ⟨h.below.drew, h.box.drew, h.inn.drew⟩
theorem LJ.new {w : World} {v : V} (h : V.In w v) (t : TypeId) : LJ w (w.alloc (.cells v.arr t)) w.heap.size v := ⟨says_box, CBox.new w v t, h.box _⟩
/-- a contract at a box -/
theorem lj_of {w W : World} {X : Nat} {v : V} {f : FuncId} {args : Array Value} {r : Value} (h : Hid (LJ w W X v)) (hc : Calls Try.prog f args W (Says W r)) : Calls Try.prog f args W fun e W' => e = .returned r ∧ Hid (LJ w W' X v) :=
  hc.mono fun e W' ⟨h1, h2⟩ => ⟨h1, Lib.hid (h.out.next h2)⟩
theorem lj_all {w W : World} {X : Nat} {v : V} (h : Hid (LJ w W X v)) : W.cell? ⟨X, 0, none⟩ = some (.slice v.A v.c.banks.length v.cb) ∧ W.cell? ⟨X, 1, none⟩ = some (.int .i64 v.c.floors) ∧ W.cell? ⟨X, 2, none⟩ = some (.int .i64 v.c.home) ∧ W.cell? ⟨X, 3, none⟩ = some (.slice v.O v.c.order.length v.co) ∧ W.cell? ⟨X, 4, none⟩ = some (.int .i64 v.c.speed) ∧ W.cell? ⟨X, 5, none⟩ = some (.int .i64 v.c.width) ∧ W.cell? ⟨X, 6, none⟩ = some (.int .i64 v.c.dwell) ∧ W.cell? ⟨X, 7, none⟩ = some (.int .i64 v.c.good) ∧ W.cell? ⟨X, 8, none⟩ = some (.int .i64 v.c.dead) ∧ W.cell? ⟨X, 9, none⟩ = some (.int .i64 v.c.lag) ∧ W.cell? ⟨X, 10, none⟩ = some (.int .i64 v.c.turn) ∧ W.cell? ⟨X, 11, none⟩ = some (.int .i64 v.c.cost) ∧ W.cell? ⟨X, 12, none⟩ = some (.int .i64 v.c.full) := h.out.box.all

def smB (v : V) : Bool := decide (v.c.banks.length ≤ 12) && decide (v.c.order.length ≤ 100)
theorem smB_iff (v : V) : smB v = true ↔ v.c.banks.length ≤ 12 ∧ v.c.order.length ≤ 100 := by simp [smB]
theorem small_any (v : V) (w : World) : Calls Try.prog 10 #[v.val] w (Says w (.bool (smB v))) := by
  unfold smB V.val
  obtain ⟨A, cb, O, co, ⟨banks, floors, home, order, speed, width, dwell, good, dead, lag, turn, cost, full⟩⟩ := v
  simp only
  generalize banks.length = nb
  generalize order.length = no
  by_cases h1 : nb ≤ 12
  · by_cases h2 : no ≤ 100
    · have d1 : decide ((nb : Int) ≤ 12) = true := by simp; omega
      have d2 : decide ((no : Int) ≤ 100) = true := by simp; omega
      have E : Hid ((decide (nb ≤ 12) && decide (no ≤ 100)) = true) := Lib.hid (by simp; omega)
      go_enter Try.func10, Try.ntmps10
      go_wp2
      go_ret
      exact ⟨by rw [E.out]; rfl, says_box⟩
    · have d1 : decide ((nb : Int) ≤ 12) = true := by simp; omega
      have d2 : decide ((no : Int) ≤ 100) = false := by simp; omega
      have E : Hid ((decide (nb ≤ 12) && decide (no ≤ 100)) = false) := Lib.hid (by simp; omega)
      clear h1 h2
      go_enter Try.func10, Try.ntmps10
      go_wp2
      go_ret
      exact ⟨by rw [E.out]; rfl, says_box⟩
  · have d1 : decide ((nb : Int) ≤ 12) = false := by simp; omega
    have E : Hid ((decide (nb ≤ 12) && decide (no ≤ 100)) = false) := Lib.hid (by simp; omega)
    clear h1
    go_enter Try.func10, Try.ntmps10
    go_wp2
    go_ret
    exact ⟨by rw [E.out]; rfl, says_box⟩

/-- the document's example -/
def exC : C := ⟨[⟨2, ⟨0, 0, 0, 0, 0, 0⟩⟩], 3, 0, [1, 0], 2, 2, 1, 5, 1, 0, 9, 0, 0⟩
theorem exC_may : exC.May := by
  constructor <;> simp [exC, bOk, rOk, wi, once, cars]
def ex (n : Nat) : V := ⟨some ⟨n, 0, none⟩, 1, some ⟨n + 1, 0, none⟩, 2, exC⟩
theorem ex_in (w : World) (t1 t2 : TypeId) : V.In ((w.alloc (.cells #[.int .i64 2, .int .i64 0, .int .i64 0, .int .i64 0, .int .i64 0, .int .i64 0, .int .i64 0] t1)).alloc (.cells #[.int .i64 1, .int .i64 0] t2)) (ex w.heap.size) := by
  refine ⟨.inr ⟨w.heap.size, 0, rfl, by simp; omega, fun j u hj => ?_⟩, .inr ⟨w.heap.size + 1, 0, rfl, by simp, fun j u hj => ?_⟩, by unfold maxLen; simp [ex, exC], by unfold maxLen; simp [ex, exC]⟩
  · rw [Nat.zero_add, World.cell?_alloc_past _ _ _ (by simp)]
    match j, hj with
    | 0, hj => simp [ex, exC, bRow, bCells] at hj; subst hj; simp
    | 1, hj => simp [ex, exC, bRow, bCells] at hj; subst hj; simp
    | 2, hj => simp [ex, exC, bRow, bCells] at hj; subst hj; simp
    | 3, hj => simp [ex, exC, bRow, bCells] at hj; subst hj; simp
    | 4, hj => simp [ex, exC, bRow, bCells] at hj; subst hj; simp
    | 5, hj => simp [ex, exC, bRow, bCells] at hj; subst hj; simp
    | 6, hj => simp [ex, exC, bRow, bCells] at hj; subst hj; simp
    | n + 7, hj => simp [ex, exC, bRow, bCells] at hj
  · match j, hj with
    | 0, hj => simp [ex, exC, Sees.nums] at hj; subst hj; simp
    | 1, hj => simp [ex, exC, Sees.nums] at hj; subst hj; simp
    | n + 2, hj => simp [ex, exC, Sees.nums] at hj
theorem ex_all {w W : World} {X n : Nat} (h : Hid (LJ w W X (ex n))) : W.cell? ⟨X, 0, none⟩ = some (.slice (some ⟨n, 0, none⟩) 1 1) ∧ W.cell? ⟨X, 1, none⟩ = some (.int .i64 3) ∧ W.cell? ⟨X, 2, none⟩ = some (.int .i64 0) ∧ W.cell? ⟨X, 3, none⟩ = some (.slice (some ⟨n + 1, 0, none⟩) 2 2) ∧ W.cell? ⟨X, 4, none⟩ = some (.int .i64 2) ∧ W.cell? ⟨X, 5, none⟩ = some (.int .i64 2) ∧ W.cell? ⟨X, 6, none⟩ = some (.int .i64 1) ∧ W.cell? ⟨X, 7, none⟩ = some (.int .i64 5) ∧ W.cell? ⟨X, 8, none⟩ = some (.int .i64 1) ∧ W.cell? ⟨X, 9, none⟩ = some (.int .i64 0) ∧ W.cell? ⟨X, 10, none⟩ = some (.int .i64 9) ∧ W.cell? ⟨X, 11, none⟩ = some (.int .i64 0) ∧ W.cell? ⟨X, 12, none⟩ = some (.int .i64 0) := h.out.box.all

set_option maxRecDepth 100000 in
set_option maxHeartbeats 3200000 in
theorem awake5_any (w : World) : Calls Try.prog 9 #[] w (Says w (.bool true)) := by
  have HJ : Hid (LJ w (((w.alloc (.cells #[.int .i64 2, .int .i64 0, .int .i64 0, .int .i64 0, .int .i64 0, .int .i64 0, .int .i64 0] 43)).alloc (.cells #[.int .i64 1, .int .i64 0] 3)).alloc (.cells (ex w.heap.size).arr 25)) (w.heap.size + 2) (ex w.heap.size)) := Lib.hid (by
    have hi := ex_in w 43 3
    have := LJ.new hi 25
    refine ⟨below_mono says_box (below_mono says_box says_box), ?_, this.inn⟩
    have hb := this.box
    rwa [World.size_alloc, World.size_alloc] at hb)
  have hmc : mayC (ex w.heap.size).c = true := (mayC_iff _).2 exC_may
  have hC : ∀ W, Hid (LJ w W (w.heap.size + 2) (ex w.heap.size)) → Calls Try.prog 11 #[.agg #[.slice (some ⟨w.heap.size, 0, none⟩) 1 1, .int .i64 3, .int .i64 0, .slice (some ⟨w.heap.size + 1, 0, none⟩) 2 2, .int .i64 2, .int .i64 2, .int .i64 1, .int .i64 5, .int .i64 1, .int .i64 0, .int .i64 9, .int .i64 0, .int .i64 0]] W fun e W' => e = .returned (.bool true) ∧ Hid (LJ w W' (w.heap.size + 2) (ex w.heap.size)) :=
    fun W h => by have := lj_of h (Check_conf (ex w.heap.size) (by simp [ex, exC]) (by simp [ex, exC]) W h.out.inn); rw [hmc] at this; exact this
  have hR : ∀ W, Hid (LJ w W (w.heap.size + 2) (ex w.heap.size)) → Calls Try.prog 20 #[.agg #[.slice (some ⟨w.heap.size, 0, none⟩) 1 1, .int .i64 3, .int .i64 0, .slice (some ⟨w.heap.size + 1, 0, none⟩) 2 2, .int .i64 2, .int .i64 2, .int .i64 1, .int .i64 5, .int .i64 1, .int .i64 0, .int .i64 9, .int .i64 0, .int .i64 0]] W fun e W' => e = .returned (.int .i64 17) ∧ Hid (LJ w W' (w.heap.size + 2) (ex w.heap.size)) :=
    fun W h => lj_of h (Run_any (ex w.heap.size) (by simp [ex, exC]) (by simp [ex, exC]) W)
  have hD : ∀ W, Hid (LJ w W (w.heap.size + 2) (ex w.heap.size)) → Calls Try.prog 22 #[.agg #[.slice (some ⟨w.heap.size, 0, none⟩) 1 1, .int .i64 3, .int .i64 0, .slice (some ⟨w.heap.size + 1, 0, none⟩) 2 2, .int .i64 2, .int .i64 2, .int .i64 1, .int .i64 5, .int .i64 1, .int .i64 0, .int .i64 9, .int .i64 0, .int .i64 0]] W fun e W' => e = .returned (.int .i64 3) ∧ Hid (LJ w W' (w.heap.size + 2) (ex w.heap.size)) :=
    fun W h => lj_of h (Doors_any (ex w.heap.size) (by simp [ex, exC]) (by simp [ex, exC]) W)
  have hL : ∀ W, Hid (LJ w W (w.heap.size + 2) (ex w.heap.size)) → Calls Try.prog 24 #[.agg #[.slice (some ⟨w.heap.size, 0, none⟩) 1 1, .int .i64 3, .int .i64 0, .slice (some ⟨w.heap.size + 1, 0, none⟩) 2 2, .int .i64 2, .int .i64 2, .int .i64 1, .int .i64 5, .int .i64 1, .int .i64 0, .int .i64 9, .int .i64 0, .int .i64 0], .int .i64 0] W fun e W' => e = .returned (.int .i64 70) ∧ Hid (LJ w W' (w.heap.size + 2) (ex w.heap.size)) :=
    fun W h => lj_of h (Limit_any (ex w.heap.size) exC_may 0 W h.out.inn)
  have hK : ∀ W, Hid (LJ w W (w.heap.size + 2) (ex w.heap.size)) → Calls Try.prog 16 #[.agg #[.slice (some ⟨w.heap.size, 0, none⟩) 1 1, .int .i64 3, .int .i64 0, .slice (some ⟨w.heap.size + 1, 0, none⟩) 2 2, .int .i64 2, .int .i64 2, .int .i64 1, .int .i64 5, .int .i64 1, .int .i64 0, .int .i64 9, .int .i64 0, .int .i64 0]] W fun e W' => e = .returned (.int .i64 2) ∧ Hid (LJ w W' (w.heap.size + 2) (ex w.heap.size)) :=
    fun W h => lj_of h (Cars_any (ex w.heap.size) exC_may.bs (by simp [ex, exC]) W h.out.inn)
  have hB1 : ∀ W, Hid (LJ w W (w.heap.size + 2) (ex w.heap.size)) → Calls Try.prog 14 #[.agg #[.slice (some ⟨w.heap.size, 0, none⟩) 1 1, .int .i64 3, .int .i64 0, .slice (some ⟨w.heap.size + 1, 0, none⟩) 2 2, .int .i64 2, .int .i64 2, .int .i64 1, .int .i64 5, .int .i64 1, .int .i64 0, .int .i64 9, .int .i64 0, .int .i64 0], .int .i64 1] W fun e W' => e = .returned (.int .i64 0) ∧ Hid (LJ w W' (w.heap.size + 2) (ex w.heap.size)) :=
    fun W h => lj_of h (Bank_any (ex w.heap.size) exC_may.bs (by simp [ex, exC]) 1 (by decide) W h.out.inn)
  have hB2 : ∀ W, Hid (LJ w W (w.heap.size + 2) (ex w.heap.size)) → Calls Try.prog 14 #[.agg #[.slice (some ⟨w.heap.size, 0, none⟩) 1 1, .int .i64 3, .int .i64 0, .slice (some ⟨w.heap.size + 1, 0, none⟩) 2 2, .int .i64 2, .int .i64 2, .int .i64 1, .int .i64 5, .int .i64 1, .int .i64 0, .int .i64 9, .int .i64 0, .int .i64 0], .int .i64 2] W fun e W' => e = .returned (.int .i64 (-1)) ∧ Hid (LJ w W' (w.heap.size + 2) (ex w.heap.size)) :=
    fun W h => lj_of h (Bank_any (ex w.heap.size) exC_may.bs (by simp [ex, exC]) 2 (by decide) W h.out.inn)
  have C := Lib.hid hC
  have R := Lib.hid hR
  have D := Lib.hid hD
  have L := Lib.hid hL
  have K := Lib.hid hK
  have B1 := Lib.hid hB1
  have B2 := Lib.hid hB2
  clear hC hR hD hL hK hB1 hB2 hmc
  go_enter Try.func9, Try.ntmps9
  go_wp2_with (first
    | (go_at_call 11; refine (C.out _ HJ).mono ?_; rintro e w1 ⟨rfl, h1⟩; obtain ⟨a0, a1, a2, a3, a4, a5, a6, a7, a8, a9, a10, a11, a12⟩ := ex_all h1)
    | (go_at_call 20; refine (R.out _ h1).mono ?_; clear h1 a0 a1 a2 a3 a4 a5 a6 a7 a8 a9 a10 a11 a12; rintro e w2 ⟨rfl, h2⟩; obtain ⟨b0, b1, b2, b3, b4, b5, b6, b7, b8, b9, b10, b11, b12⟩ := ex_all h2)
    | (go_at_call 22; refine (D.out _ h2).mono ?_; clear h2 b0 b1 b2 b3 b4 b5 b6 b7 b8 b9 b10 b11 b12; rintro e w3 ⟨rfl, h3⟩; obtain ⟨a0, a1, a2, a3, a4, a5, a6, a7, a8, a9, a10, a11, a12⟩ := ex_all h3)
    | (go_at_call 24; refine (L.out _ h3).mono ?_; clear h3 a0 a1 a2 a3 a4 a5 a6 a7 a8 a9 a10 a11 a12; rintro e w4 ⟨rfl, h4⟩; obtain ⟨b0, b1, b2, b3, b4, b5, b6, b7, b8, b9, b10, b11, b12⟩ := ex_all h4)
    | (go_at_call 16; refine (K.out _ h4).mono ?_; clear h4 b0 b1 b2 b3 b4 b5 b6 b7 b8 b9 b10 b11 b12; rintro e w5 ⟨rfl, h5⟩; obtain ⟨a0, a1, a2, a3, a4, a5, a6, a7, a8, a9, a10, a11, a12⟩ := ex_all h5)
    | (go_at_call 14; (with_reducible refine (B1.out _ h5).mono ?_); clear h5 a0 a1 a2 a3 a4 a5 a6 a7 a8 a9 a10 a11 a12; rintro e w6 ⟨rfl, h6⟩; obtain ⟨b0, b1, b2, b3, b4, b5, b6, b7, b8, b9, b10, b11, b12⟩ := ex_all h6)
    | (go_at_call 14; (with_reducible refine (B2.out _ h6).mono ?_); rintro e w7 ⟨rfl, h7⟩))
  go_ret
  exact ⟨rfl, h7.out.below⟩

end Go.Proofs.Ytkicijgempccfaa.Con
