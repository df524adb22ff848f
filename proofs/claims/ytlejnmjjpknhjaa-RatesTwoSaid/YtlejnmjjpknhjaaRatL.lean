/- While a law of layer 4 runs: its box, and its table; and the contract of awake. -/
import Derived.Test.YtlejnmjjpknhjaaRatK
import Derived.Test.YtlejnmjjpknhjaaRatF
namespace Go.Proofs.Ytlejnmjjpknhjaa.Rat
open Go.RowKit Go.Proofs.Ytlejnmjjpknhjaa.RatP Go.Proofs.Ytlejnmjjpknhjaa.Once
set_option linter.unusedVariables false

theorem Box.kept {W W' : World} {X : Nat} {r : R} (h : Box W X r) (hb : W'.heap[X]? = W.heap[X]?) : Box W' X r := by
  have c : ∀ o, W'.cell? ⟨X, o, none⟩ = W.cell? ⟨X, o, none⟩ := fun o => World.cell?_of_block hb
  exact ⟨(c _).trans h.c0, (c _).trans h.c1, (c _).trans h.c2, (c _).trans h.c3, (c _).trans h.c4, (c _).trans h.c5⟩
theorem Box.lt {W : World} {X : Nat} {r : R} (h : Box W X r) : X < W.heap.size := World.block_lt_of_cell? W _ h.c0
theorem Fresh.next {W W' : World} {B : Nat} {r : R} (h : Fresh W B r) (hb : Below W.heap.size W W') : Fresh W' B r := Tbl.next h hb
theorem Laid.next {W W' : World} {B : Nat} {r : R} (h : Laid W B r) (hb : Below W.heap.size W W') : Laid W' B r := Tbl.next h hb
theorem Ok.next {W W' : World} {B : Nat} {r : R} (h : Ok W B r) (hb : Below W.heap.size W W') : Ok W' B r := h.imp (·.next hb) (·.next hb)

/-- the law's box in block X, its table in block B -/
structure J (w W : World) (X B : Nat) (r : R) : Prop where
  below : Below w.heap.size w W
  box : Box W X r
  ok : Ok W B r
  base : w.heap.size ≤ B
  ne : X ≠ B
theorem J.next {w W W' : World} {X B : Nat} {r : R} (h : J w W X B r) (hb : Below W.heap.size W W') : J w W' X B r :=
  ⟨h.below.trans (hb.mono h.below.size), h.box.below hb, h.ok.next hb, h.base, h.ne⟩
theorem J.lays {w W W' : World} {X B : Nat} {r : R} (h : J w W X B r) (hl : Laid W' B r) (hg : W.grownBy W' (some B)) : J w W' X B r :=
  ⟨h.below.grown hg h.below.size (fun k hk => by injection hk with hk; subst hk; exact h.base), h.box.kept (hg.block X h.box.lt (by intro e; injection e with e; exact h.ne e)), .inr hl, h.base, h.ne⟩

theorem jDraw {r : R} (hr : Hid r.May) {w W : World} {X B : Nat} (what l d : Int) (h : Hid (J w W X B r)) :
    Calls Try.prog 17 #[val r, .int .i64 what, .int .i64 l, .int .i64 d] W fun e W' => e = .returned (.int .i64 (dr r what l d)) ∧ Hid (J w W' X B r) :=
  (Draw_any r hr.out what l d W).mono fun e W' ⟨h1, h2⟩ => ⟨h1, Lib.hid (h.out.next h2)⟩
theorem jGives {r : R} (hr : Hid r.May) {w W : World} {X B : Nat} (what l d : Int) (h : Hid (J w W X B r)) :
    Calls Try.prog 20 #[val r, .int .i64 what, .int .i64 l, .int .i64 d] W fun e W' => e = .returned (.int .i64 (gv r what l d)) ∧ Hid (J w W' X B r) :=
  (Gives_any r hr.out what l d W).mono fun e W' ⟨h1, h2⟩ => ⟨h1, Lib.hid (h.out.next h2)⟩
theorem jOf {r : R} {w W : World} {X B : Nat} (h : Hid (J w W X B r)) : Calls Try.prog 19 #[val r] W fun e W' => e = .returned (val r) ∧ Hid (J w W' X B r) :=
  (of_any r W).mono fun e W' ⟨h1, h2⟩ => ⟨h1, Lib.hid (h.out.next h2)⟩
theorem jPeak {r : R} (hr : Hid r.May) {w W : World} {X B : Nat} (l d : Int) (h : Hid (J w W X B r)) :
    Calls Try.prog 14 #[.pointer (some ⟨B, 0, none⟩), .int .i64 l, .int .i64 d] W fun e W' => e = .returned (.int .i64 (pk r l d)) ∧ Hid (J w W' X B r) ∧ Hid (Laid W' B r) :=
  (Peak_any r hr.out B l d W h.out.ok).mono fun e W' ⟨h1, h2, h3⟩ => ⟨h1, Lib.hid (h.out.lays h2 h3), Lib.hid h2⟩
theorem jMost {r : R} (hr : Hid r.May) {w W : World} {X B : Nat} (h : Hid (J w W X B r)) :
    Calls Try.prog 15 #[.pointer (some ⟨B, 0, none⟩)] W fun e W' => e = .returned (.int .i64 (most r)) ∧ Hid (J w W' X B r) ∧ Hid (Laid W' B r) :=
  (Most_any r hr.out B W h.out.ok).mono fun e W' ⟨h1, h2, h3⟩ => ⟨h1, Lib.hid (h.out.lays h2 h3), Lib.hid h2⟩
theorem jRefPeak {r : R} (hr : Hid r.May) {w W : World} {X B : Nat} (l d : Int) (h : Hid (J w W X B r)) :
    Calls Try.prog 22 #[val r, .int .i64 l, .int .i64 d] W fun e W' => e = .returned (.int .i64 (pk r l d)) ∧ Hid (J w W' X B r) :=
  (refPeak_any r hr.out l d W).mono fun e W' ⟨h1, h2⟩ => ⟨h1, Lib.hid (h.out.next h2)⟩
theorem jRefMost {r : R} (hr : Hid r.May) {w W : World} {X B : Nat} (h : Hid (J w W X B r)) :
    Calls Try.prog 23 #[val r] W fun e W' => e = .returned (.int .i64 (most r)) ∧ Hid (J w W' X B r) :=
  (refMost_any r hr.out W).mono fun e W' ⟨h1, h2⟩ => ⟨h1, Lib.hid (h.out.next h2)⟩

/-- the document's example -/
def ex : R := ⟨1, 2, 0, 3, 0, 4⟩
theorem ex_may : ex.May := by constructor <;> decide
theorem ex_d1 : dr ex 2 6 1 = 9 := by decide
theorem ex_d2 : dr ex 2 6 (-1) = 3 := by decide
theorem ex_g : gv ex 2 6 (-1) = 6 := by decide
theorem ex_p : pk ex 6 1 = 9 := by decide

theorem ex_cells {w W : World} {X B : Nat} (h : Hid (J w W X B ex)) : W.cell? ⟨X, 0, none⟩ = some (.int .i64 1) ∧ W.cell? ⟨X, 1, none⟩ = some (.int .i64 2) ∧ W.cell? ⟨X, 2, none⟩ = some (.int .i64 0) ∧ W.cell? ⟨X, 3, none⟩ = some (.int .i64 3) ∧ W.cell? ⟨X, 4, none⟩ = some (.int .i64 0) ∧ W.cell? ⟨X, 5, none⟩ = some (.int .i64 4) :=
  ⟨h.out.box.c0, h.out.box.c1, h.out.box.c2, h.out.box.c3, h.out.box.c4, h.out.box.c5⟩

set_option maxRecDepth 100000 in
set_option maxHeartbeats 1600000 in
theorem awake_any (w : World) : Calls Try.prog 11 #[] w (Says w (.bool true)) := by
  have HR : Hid ex.May := Lib.hid ex_may
  have hD1 : ∀ W B, Hid (J w W w.heap.size B ex) → Calls Try.prog 17 #[.agg #[.int .i64 1, .int .i64 2, .int .i64 0, .int .i64 3, .int .i64 0, .int .i64 4], .int .i64 2, .int .i64 6, .int .i64 1] W fun e W' => e = .returned (.int .i64 9) ∧ Hid (J w W' w.heap.size B ex) := fun W B h => by rw [← ex_d1]; exact jDraw HR 2 6 1 h
  have hD2 : ∀ W B, Hid (J w W w.heap.size B ex) → Calls Try.prog 17 #[.agg #[.int .i64 1, .int .i64 2, .int .i64 0, .int .i64 3, .int .i64 0, .int .i64 4], .int .i64 2, .int .i64 6, .int .i64 (-1)] W fun e W' => e = .returned (.int .i64 3) ∧ Hid (J w W' w.heap.size B ex) := fun W B h => by rw [← ex_d2]; exact jDraw HR 2 6 (-1) h
  have hG : ∀ W B, Hid (J w W w.heap.size B ex) → Calls Try.prog 20 #[.agg #[.int .i64 1, .int .i64 2, .int .i64 0, .int .i64 3, .int .i64 0, .int .i64 4], .int .i64 2, .int .i64 6, .int .i64 (-1)] W fun e W' => e = .returned (.int .i64 6) ∧ Hid (J w W' w.heap.size B ex) := fun W B h => by rw [← ex_g]; exact jGives HR 2 6 (-1) h
  have hN : ∀ W, Calls Try.prog 12 #[.agg #[.int .i64 1, .int .i64 2, .int .i64 0, .int .i64 3, .int .i64 0, .int .i64 4]] W (Makes W ex) := fun W => New_yes ex ex_may W
  have hP : ∀ W B, Hid (J w W w.heap.size B ex) → Calls Try.prog 14 #[.pointer (some ⟨B, 0, none⟩), .int .i64 6, .int .i64 1] W fun e W' => e = .returned (.int .i64 9) ∧ Hid (J w W' w.heap.size B ex) ∧ Hid (Laid W' B ex) := fun W B h => by rw [← ex_p]; exact jPeak HR 6 1 h
  have D1 := Lib.hid hD1
  have D2 := Lib.hid hD2
  have G := Lib.hid hG
  have N := Lib.hid hN
  have P := Lib.hid hP
  have BX : Hid (Box (w.alloc (.cells #[.int .i64 1, .int .i64 2, .int .i64 0, .int .i64 3, .int .i64 0, .int .i64 4] 23)) w.heap.size ex) := Lib.hid (Box.new w ex)
  clear hD1 hD2 hG hN hP
  go_enter Try.func11, Try.ntmps11
  go_wp2_with (first
    | (go_at_call 12; refine (N.out _).mono ?_; rintro e w1 ⟨B, rfl, hB, hb1, hF⟩
       have hj1 : Hid (J w w1 w.heap.size B ex) := Lib.hid ⟨says_more hb1, BX.out.below hb1, .inl hF, Nat.le_trans (by simp) hB, fun e => by simp at hB; omega⟩
       have c9 := Tbl.cl hF; clear hF hb1 hB)
    | (go_at_call 16; (with_reducible refine (Laid_any B _ _ c9).mono ?_); rintro e w' ⟨rfl, rfl⟩)
    | (go_at_call 14; (with_reducible refine (P.out _ B hj1).mono ?_); rintro e w2 ⟨rfl, hj2, hL⟩; obtain ⟨d0, d1, d2, d3, d4, d5⟩ := ex_cells hj2; have d9 := Tbl.cl hL.out; clear hL)
    | (go_at_call 16; (with_reducible refine (Laid_any B _ _ d9).mono ?_); rintro e w' ⟨rfl, rfl⟩)
    | (go_at_call 17; (with_reducible refine (D1.out _ B hj2).mono ?_); rintro e w3 ⟨rfl, hj3⟩; obtain ⟨e0, e1, e2, e3, e4, e5⟩ := ex_cells hj3)
    | (go_at_call 17; (with_reducible refine (D2.out _ B hj3).mono ?_); rintro e w4 ⟨rfl, hj4⟩; obtain ⟨g0, g1, g2, g3, g4, g5⟩ := ex_cells hj4)
    | (go_at_call 20; (with_reducible refine (G.out _ B hj4).mono ?_); rintro e w5 ⟨rfl, hj5⟩))
  go_ret
  exact ⟨rfl, hj5.out.below⟩

end Go.Proofs.Ytlejnmjjpknhjaa.Rat
