/- A table of rates as it lies in memory; the contracts of New and of Laid. -/
import Derived.Test.YtkicijgempccfaaRatG
import Derived.Laws.Tables
namespace Go.Proofs.Ytkicijgempccfaa.Rat
open Go.RowKit Go.Proofs.Ytkicijgempccfaa.RatP
set_option linter.unusedVariables false

/-- the cells of a new table -/
def tabArr (r : R) : Array Value := #[.int .i64 r.idle, .int .i64 r.move, .int .i64 r.gain, .int .i64 r.pull, .int .i64 r.door, .int .i64 r.weight, .int .u32 0, .int .i32 0, .int .u32 0, .int .i64 0] ++ (Array.replicate 195 (.int .i64 0) ++ #[.int .i64 0])
/-- A table in block B: its rates, how far the Once is (d: done; m: the lock), how often it was laid (l), how many peaks are laid (n), the greatest of them (q). -/
structure Tbl (W : World) (B : Nat) (r : R) (d m l : Int) (n : Nat) (q : Int) : Prop where
  c0 : W.cell? ⟨B, 0, none⟩ = some (.int .i64 r.idle)
  c1 : W.cell? ⟨B, 1, none⟩ = some (.int .i64 r.move)
  c2 : W.cell? ⟨B, 2, none⟩ = some (.int .i64 r.gain)
  c3 : W.cell? ⟨B, 3, none⟩ = some (.int .i64 r.pull)
  c4 : W.cell? ⟨B, 4, none⟩ = some (.int .i64 r.door)
  c5 : W.cell? ⟨B, 5, none⟩ = some (.int .i64 r.weight)
  cd : W.cell? ⟨B, 6, none⟩ = some (.int .u32 d)
  cm : W.cell? ⟨B, 7, none⟩ = some (.int .i32 m)
  cl : W.cell? ⟨B, 9, none⟩ = some (.int .i64 l)
  cp : ∀ k, k < 195 → W.cell? ⟨B, 10 + k, none⟩ = some (.int .i64 (if k < n then tp r k else 0))
  cq : W.cell? ⟨B, 205, none⟩ = some (.int .i64 q)
  fr : ∀ o, W.frozen? ⟨B, o, none⟩ = false
theorem Tbl.lt {W : World} {B : Nat} {r : R} {d m l : Int} {n : Nat} {q : Int} (h : Tbl W B r d m l n q) : B < W.heap.size := World.block_lt_of_cell? W _ h.c0
theorem Tbl.kept {W W' : World} {B : Nat} {r : R} {d m l : Int} {n : Nat} {q : Int} (h : Tbl W B r d m l n q) (hb : W'.heap[B]? = W.heap[B]?) : Tbl W' B r d m l n q := by
  have c : ∀ o, W'.cell? ⟨B, o, none⟩ = W.cell? ⟨B, o, none⟩ := fun o => World.cell?_of_block hb
  have f : ∀ o, W'.frozen? ⟨B, o, none⟩ = W.frozen? ⟨B, o, none⟩ := fun o => World.frozen?_of_block hb
  exact ⟨(c _).trans h.c0, (c _).trans h.c1, (c _).trans h.c2, (c _).trans h.c3, (c _).trans h.c4, (c _).trans h.c5, (c _).trans h.cd, (c _).trans h.cm, (c _).trans h.cl, fun k hk => (c _).trans (h.cp k hk), (c _).trans h.cq, fun o => (f o).trans (h.fr o)⟩
theorem set_free (W : World) (B o o' : Nat) (v : Value) : (W.setCell ⟨B, o, none⟩ v).frozen? ⟨B, o', none⟩ = W.frozen? ⟨B, o', none⟩ := by simp
theorem set_far (W : World) (B o o' : Nat) (v : Value) (h : o ≠ o') : (W.setCell ⟨B, o, none⟩ v).cell? ⟨B, o', none⟩ = W.cell? ⟨B, o', none⟩ :=
  World.cell?_setCell_other _ _ _ _ (by intro e; injection e with _ e; exact h e)
theorem Tbl.set_d {W : World} {B : Nat} {r : R} {d m l : Int} {n : Nat} {q : Int} (h : Tbl W B r d m l n q) (d' : Int) : Tbl (W.setCell ⟨B, 6, none⟩ (.int .u32 d')) B r d' m l n q :=
  ⟨(set_far _ _ _ _ _ (by decide)).trans h.c0, (set_far _ _ _ _ _ (by decide)).trans h.c1, (set_far _ _ _ _ _ (by decide)).trans h.c2, (set_far _ _ _ _ _ (by decide)).trans h.c3, (set_far _ _ _ _ _ (by decide)).trans h.c4, (set_far _ _ _ _ _ (by decide)).trans h.c5,
    World.cell?_setCell_same _ _ _ h.cd, (set_far _ _ _ _ _ (by decide)).trans h.cm, (set_far _ _ _ _ _ (by decide)).trans h.cl, fun k hk => (set_far _ _ _ _ _ (by omega)).trans (h.cp k hk), (set_far _ _ _ _ _ (by decide)).trans h.cq, fun o => (set_free _ _ _ _ _).trans (h.fr o)⟩
theorem Tbl.set_m {W : World} {B : Nat} {r : R} {d m l : Int} {n : Nat} {q : Int} (h : Tbl W B r d m l n q) (m' : Int) : Tbl (W.setCell ⟨B, 7, none⟩ (.int .i32 m')) B r d m' l n q :=
  ⟨(set_far _ _ _ _ _ (by decide)).trans h.c0, (set_far _ _ _ _ _ (by decide)).trans h.c1, (set_far _ _ _ _ _ (by decide)).trans h.c2, (set_far _ _ _ _ _ (by decide)).trans h.c3, (set_far _ _ _ _ _ (by decide)).trans h.c4, (set_far _ _ _ _ _ (by decide)).trans h.c5,
    (set_far _ _ _ _ _ (by decide)).trans h.cd, World.cell?_setCell_same _ _ _ h.cm, (set_far _ _ _ _ _ (by decide)).trans h.cl, fun k hk => (set_far _ _ _ _ _ (by omega)).trans (h.cp k hk), (set_far _ _ _ _ _ (by decide)).trans h.cq, fun o => (set_free _ _ _ _ _).trans (h.fr o)⟩
theorem Tbl.set_l {W : World} {B : Nat} {r : R} {d m l : Int} {n : Nat} {q : Int} (h : Tbl W B r d m l n q) (l' : Int) : Tbl (W.setCell ⟨B, 9, none⟩ (.int .i64 l')) B r d m l' n q :=
  ⟨(set_far _ _ _ _ _ (by decide)).trans h.c0, (set_far _ _ _ _ _ (by decide)).trans h.c1, (set_far _ _ _ _ _ (by decide)).trans h.c2, (set_far _ _ _ _ _ (by decide)).trans h.c3, (set_far _ _ _ _ _ (by decide)).trans h.c4, (set_far _ _ _ _ _ (by decide)).trans h.c5,
    (set_far _ _ _ _ _ (by decide)).trans h.cd, (set_far _ _ _ _ _ (by decide)).trans h.cm, World.cell?_setCell_same _ _ _ h.cl, fun k hk => (set_far _ _ _ _ _ (by omega)).trans (h.cp k hk), (set_far _ _ _ _ _ (by decide)).trans h.cq, fun o => (set_free _ _ _ _ _).trans (h.fr o)⟩
theorem Tbl.set_q {W : World} {B : Nat} {r : R} {d m l : Int} {n : Nat} {q : Int} (h : Tbl W B r d m l n q) (q' : Int) : Tbl (W.setCell ⟨B, 205, none⟩ (.int .i64 q')) B r d m l n q' :=
  ⟨(set_far _ _ _ _ _ (by decide)).trans h.c0, (set_far _ _ _ _ _ (by decide)).trans h.c1, (set_far _ _ _ _ _ (by decide)).trans h.c2, (set_far _ _ _ _ _ (by decide)).trans h.c3, (set_far _ _ _ _ _ (by decide)).trans h.c4, (set_far _ _ _ _ _ (by decide)).trans h.c5,
    (set_far _ _ _ _ _ (by decide)).trans h.cd, (set_far _ _ _ _ _ (by decide)).trans h.cm, (set_far _ _ _ _ _ (by decide)).trans h.cl, fun k hk => (set_far _ _ _ _ _ (by omega)).trans (h.cp k hk), World.cell?_setCell_same _ _ _ h.cq, fun o => (set_free _ _ _ _ _).trans (h.fr o)⟩
theorem Tbl.set_p {W : World} {B : Nat} {r : R} {d m l : Int} {n : Nat} {q : Int} (h : Tbl W B r d m l n q) (hn : n < 195) : Tbl (W.setCell ⟨B, 10 + n, none⟩ (.int .i64 (tp r n))) B r d m l (n + 1) q :=
  ⟨(set_far _ _ _ _ _ (by omega)).trans h.c0, (set_far _ _ _ _ _ (by omega)).trans h.c1, (set_far _ _ _ _ _ (by omega)).trans h.c2, (set_far _ _ _ _ _ (by omega)).trans h.c3, (set_far _ _ _ _ _ (by omega)).trans h.c4, (set_far _ _ _ _ _ (by omega)).trans h.c5,
    (set_far _ _ _ _ _ (by omega)).trans h.cd, (set_far _ _ _ _ _ (by omega)).trans h.cm, (set_far _ _ _ _ _ (by omega)).trans h.cl, fun k hk => by
      by_cases hkn : k = n
      · subst hkn
        rw [if_pos (by omega)]
        exact World.cell?_setCell_same _ _ _ (h.cp k hk)
      · rw [set_far _ _ _ _ _ (by omega), h.cp k hk]
        by_cases hlt : k < n
        · rw [if_pos hlt, if_pos (by omega)]
        · rw [if_neg hlt, if_neg (by omega)], (set_far _ _ _ _ _ (by omega)).trans h.cq, fun o => (set_free _ _ _ _ _).trans (h.fr o)⟩
theorem Tbl.new (w : World) (r : R) : Tbl (w.alloc (.cells (tabArr r) 86)) w.heap.size r 0 0 0 0 0 := by
  have hc : ∀ o, (w.alloc (.cells (tabArr r) 86)).cell? ⟨w.heap.size, o, none⟩ = (tabArr r)[o]? := fun o => by simp
  constructor
  case cp =>
    intro k hk
    rw [hc, if_neg (by omega)]
    unfold tabArr
    rw [Array.getElem?_append_right (by simp), Array.getElem?_append_left (by simp; omega)]
    simp [hk]
  case fr => intro o; simp
  case cq =>
    rw [hc]
    unfold tabArr
    rw [Array.getElem?_append_right (by simp), Array.getElem?_append_right (by simp)]
    simp
  all_goals
    rw [hc]
    unfold tabArr
    rw [Array.getElem?_append_left (by simp)]
    rfl

/-- the table, fresh or laid -/
def Fresh (W : World) (B : Nat) (r : R) : Prop := Tbl W B r 0 0 0 0 0
def Laid (W : World) (B : Nat) (r : R) : Prop := Tbl W B r 1 0 1 195 (most r)

theorem built (r : R) : Try.prog.built 86 [(0, .agg #[.int .i64 r.idle, .int .i64 r.move, .int .i64 r.gain, .int .i64 r.pull, .int .i64 r.door, .int .i64 r.weight])] = some (tabArr r) := by kernel_rfl
theorem wpList_build1 {P : Program} {ops : Array Oper} {rest : List Oper} {o : Oper} {a : Act} {w : World} {Q : Exit → Act → World → Prop} (hg : o.guard = none) (t : TypeId) (i : Nat) (x : Operand) (ho : o.op = .build t #[(i, x)]) (v : Value) (hx : a.eval x = v) (cells : Array Value)
    (hf : P.built t [(i, v)] = some cells)
    (h : wpList P ops Q rest (a.put o.dst (.agg cells)) w) : wpList P ops Q (o :: rest) a w := by
  have e : (#[(i, x)].map fun (p : Nat × Operand) => (p.1, a.eval p.2)).toList = [(i, v)] := by simp [hx]
  have hb : P.built t (#[(i, x)].map fun (p : Nat × Operand) => (p.1, a.eval p.2)).toList = some cells := by rw [e]; exact hf
  exact wpList_build hg t #[(i, x)] ho (by rw [hb]; rfl) (by rw [hb]; exact h)

/-- what New answers: a table in a block of its own -/
def Makes (w : World) (r : R) (e : Ending) (w' : World) : Prop := ∃ B, e = .returned (.pointer (some ⟨B, 0, none⟩)) ∧ w.heap.size ≤ B ∧ Below w.heap.size w w' ∧ Fresh w' B r

set_option maxRecDepth 100000 in
set_option maxHeartbeats 1600000 in
theorem New_yes (r : R) (hr : r.May) (w : World) : Calls Try.prog 32 #[val r] w (Makes w r) := by
  have HC := Lib.hid (fun W => Check_any r W)
  rw [(mayB_iff r).2 hr] at HC
  have HB := Lib.hid (built r)
  unfold val at HC ⊢
  go_enter Try.func32, Try.ntmps32
  go_wp2_with (first
    | (go_at_call 56; refine (HC.out _).mono ?_; rintro e w' ⟨rfl, hb⟩; obtain ⟨hc, hf⟩ := bcellF hb)
    | (refine wpList_build1 rfl 86 0 (.tmp 6) rfl (.agg #[.int .i64 r.idle, .int .i64 r.move, .int .i64 r.gain, .int .i64 r.pull, .int .i64 r.door, .int .i64 r.weight]) rfl (tabArr r) HB.out ?_))
  go_ret
  exact ⟨w'.heap.size, rfl, (says_more hb).size, (says_more hb).alloc (says_more hb).size _, Tbl.new w' r⟩

set_option maxHeartbeats 1600000 in
theorem New_no (r : R) (hr : mayB r = false) (w : World) : Calls Try.prog 32 #[val r] w (Says w (.pointer none)) := by
  have HC := Lib.hid (fun W => Check_any r W)
  rw [hr] at HC
  unfold val at HC ⊢
  go_enter Try.func32, Try.ntmps32
  go_wp2_with (go_at_call 56; refine (HC.out _).mono ?_; rintro e w' ⟨rfl, hb⟩; obtain ⟨hc, hf⟩ := bcellF hb)
  go_ret
  exact ⟨rfl, says_more hb⟩

theorem Most_nil (w : World) : Calls Try.prog 33 #[.pointer none] w fun e w' => e = .returned (.int .i64 0) ∧ w = w' := by
  go_enter Try.func33, Try.ntmps33
  go_wp2
  go_ret
  exact ⟨rfl, rfl⟩

end Go.Proofs.Ytkicijgempccfaa.Rat
