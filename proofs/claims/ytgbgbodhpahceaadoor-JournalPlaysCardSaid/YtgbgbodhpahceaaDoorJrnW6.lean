/- The walk of JournalPlays. -/
import Derived.Test.YtgbgbodhpahceaaDoorJrnW5
import Derived.Test.YtgbgbodhpahceaaDoorJrnY
import Derived.Test.YtgbgbodhpahceaaDoorSlotX
import Derived.Test.YtgbgbodhpahceaaDoorLgrY
import Derived.OpenShut
import Derived.LoopN
namespace Go.Proofs.YtgbgbodhpahceaaDoor.Walk
open Go.RowKit Go.ChangeShapes Go.Proofs.YtgbgbodhpahceaaDoor.Plain Go.Proofs.YtgbgbodhpahceaaDoor.Sees Go.Proofs.YtgbgbodhpahceaaDoor.Oct Go.Proofs.YtgbgbodhpahceaaDoor.Crc Go.Proofs.YtgbgbodhpahceaaDoor.Box Go.Proofs.YtgbgbodhpahceaaDoor.Held Go.Proofs.YtgbgbodhpahceaaDoor.JrnP Go.Proofs.YtgbgbodhpahceaaDoor.Open Go.Proofs.YtgbgbodhpahceaaDoor.LgrP Go.Proofs.YtgbgbodhpahceaaDoor.Jrn
set_option linter.unusedVariables false
set_option linter.unusedSimpArgs false
set_option maxRecDepth 100000

/-- an act, as it lies -/
structure C6 (W : World) (b o : Nat) (t : Bool) (nn : Int) (v0 v1 v2 v3 : Value) : Prop where
  lt : b < W.heap.size
  t : W.cell? ⟨b, o, none⟩ = some (.bool t)
  n : W.cell? ⟨b, o + 1, none⟩ = some (.int .i64 nn)
  h0 : W.cell? ⟨b, o + 2, none⟩ = some v0
  h1 : W.cell? ⟨b, o + 2 + 1, none⟩ = some v1
  h2 : W.cell? ⟨b, o + 2 + 2, none⟩ = some v2
  h3 : W.cell? ⟨b, o + 2 + 3, none⟩ = some v3
theorem C6.next {W W' : World} {b o : Nat} {t : Bool} {nn : Int} {v0 v1 v2 v3 : Value} (h : C6 W b o t nn v0 v1 v2 v3) (hb : Below W.heap.size W W') : C6 W' b o t nn v0 v1 v2 v3 :=
  ⟨Nat.lt_of_lt_of_le h.lt hb.size, (hb.cell (p := ⟨b, o, none⟩) h.lt).trans h.t, (hb.cell (p := ⟨b, o + 1, none⟩) h.lt).trans h.n, (hb.cell (p := ⟨b, o + 2, none⟩) h.lt).trans h.h0, (hb.cell (p := ⟨b, o + 2 + 1, none⟩) h.lt).trans h.h1, (hb.cell (p := ⟨b, o + 2 + 2, none⟩) h.lt).trans h.h2, (hb.cell (p := ⟨b, o + 2 + 3, none⟩) h.lt).trans h.h3⟩
theorem act_row {W : World} {a : Option Addr} {l : List Ac} (h : Sees W W.heap.size a (l.map acc).flatten) (i : Nat) (x : Ac) (hx : l[i]? = some x) :
    ∃ b o, a = some ⟨b, o, none⟩ ∧ C6 W b (o + i * 6) x.t x.n (.int .i64 x.g.b) (.int .i64 x.g.m) (.int .i64 x.g.k) (.slice x.g.A x.g.l.length x.g.cap) := by
  have hall : ∀ r ∈ l.map acc, r.length = 6 := fun r hr => by
    obtain ⟨p, _, rfl⟩ := List.mem_map.1 hr; rfl
  have hi : ∀ k, k < 6 → (l.map acc).flatten[i * 6 + k]? = (acc x)[k]? := fun k hk => by
    rw [flat_at (by omega) _ hall, show (i * 6 + k) / 6 = i by omega, show (i * 6 + k) % 6 = k by omega, List.getElem?_map, hx]
    rfl
  rcases h with h | ⟨b, o, ha, hb, hc⟩
  · have := hi 0 (by omega)
    rw [h] at this; simp [acc] at this
  · exact ⟨b, o, ha, hb, hc _ _ (hi 0 (by omega)), hc _ _ (hi 1 (by omega)), hc _ _ (hi 2 (by omega)), hc _ _ (hi 3 (by omega)), hc _ _ (hi 4 (by omega)), hc _ _ (hi 5 (by omega))⟩
theorem best_few {p : Int} {x y : G} {N : Nat} (hx : x.l.length ≤ N) (hy : y.l.length ≤ N) : (best p x y).l.length ≤ N := by
  unfold best
  split
  · exact hy
  · exact hx
theorem load_few {z0 z1 : List Int} (h0 : By z0) (h1 : By z1) (l0 : z0.length ≤ 800) (l1 : z1.length ≤ 800) : (JrnP.load z0 z1).l.length ≤ 100 := by
  have g0 := get_few h0
  have g1 := get_few h1
  exact best_few (best_few (Nat.zero_le _) (by omega)) (by omega)

/-- what lies at the beginning of a round -/
structure PJ (w W : World) (B : Nat) (j : Jr) (z0 z1 : List Int) (la : Int) (y : List Int) : Prop where
  bel : Below w.heap.size w W
  tab : Tab W
  jb : JB W B j
  wb : BxT W (B + 1) #[.string (strOfNums z0), .string (strOfNums z1), .int .i64 la, .string (strOfNums y)] 48
theorem PJ.next {w W W' : World} {B : Nat} {j : Jr} {z0 z1 : List Int} {la : Int} {y : List Int} (h : PJ w W B j z0 z1 la y) (hb : Below W.heap.size W W') : PJ w W' B j z0 z1 la y :=
  ⟨h.bel.trans (hb.mono h.bel.size), h.tab.next hb, h.jb.next hb, h.wb.next hb⟩
/-- how both fit -/
structure PR (z0 z1 y0 y1 : List Int) (la : Int) (y : List Int) : Prop where
  b0 : By z0
  b1 : By z1
  c0 : By y0
  c1 : By y1
  l0 : z0.length ≤ 800
  l1 : z1.length ≤ 800
  m0 : y0.length ≤ 800
  m1 : y1.length ≤ 800
  ly : y.length ≤ 800
  rel : (la = -1 ∧ y0 = z0 ∧ y1 = z1) ∨ (la = 0 ∧ y0 = y ∧ y1 = z1) ∨ (la = 1 ∧ y1 = y ∧ y0 = z0)
theorem PR.tear {z0 z1 y0 y1 : List Int} {la : Int} {y : List Int} (h : PR z0 z1 y0 y1 la y) (k : Nat) : PR (torn z0 y0 k) (torn z1 y1 k) y0 y1 la y := by
  have t0 := torn_len z0 y0 k
  have t1 := torn_len z1 y1 k
  have := h.l0; have := h.l1; have := h.m0; have := h.m1
  refine ⟨torn_in h.b0 h.c0, torn_in h.b1 h.c1, h.c0, h.c1, by omega, by omega, h.m0, h.m1, h.ly, ?_⟩
  rcases h.rel with ⟨h1, rfl, rfl⟩ | ⟨h1, h2, rfl⟩ | ⟨h1, h2, rfl⟩
  · exact .inl ⟨h1, (torn_self _ _).symm, (torn_self _ _).symm⟩
  · exact .inr (.inl ⟨h1, h2, (torn_self _ _).symm⟩)
  · exact .inr (.inr ⟨h1, h2, (torn_self _ _).symm⟩)
theorem rtear {z0 z1 y0 y1 : List Int} {la : Int} {y : List Int} (h : PR z0 z1 y0 y1 la y) (n : Int) (w : World) :
    Calls Tryd.prog 22 #[rjv z0 z1 la y, .int .i64 n] w fun e w' => e = .returned (rjv (torn z0 y0 n.toNat) (torn z1 y1 n.toNat) la y) ∧ Below w.heap.size w w' := by
  have := h.l0; have := h.l1; have := h.ly
  rcases h.rel with ⟨rfl, rfl, rfl⟩ | ⟨rfl, rfl, rfl⟩ | ⟨rfl, rfl, rfl⟩
  · rw [torn_self, torn_self]; exact rjTear_none _ _ _ n w
  · rw [torn_self y1]; exact rjTear_0 _ _ _ n w (by omega) (by omega) (by omega)
  · rw [torn_self y0]; exact rjTear_1 _ _ _ n w (by omega) (by omega) (by omega)
/-- a write: which place, and what it was -/
def nla (z0 z1 : List Int) : Int := if nxt z0 z1 % 2 = 0 then 0 else 1
def nwas (z0 z1 : List Int) : List Int := if nxt z0 z1 % 2 = 0 then z0 else z1
theorem PR.write {z0 z1 y0 y1 : List Int} {la : Int} {y : List Int} (h : PR z0 z1 y0 y1 la y) (b m : Int) (l : List Pm) (hl : l.length ≤ 80) : PR (wr0 z0 z1 b m l) (wr1 z0 z1 b m l) z0 z1 (nla z0 z1) (nwas z0 z1) := by
  have hb := wr_by h.b0 h.b1 b m l
  have hp := put_len b m l (nxt z0 z1)
  have := h.l0; have := h.l1
  refine ⟨hb.1, hb.2, h.b0, h.b1, ?_, ?_, h.l0, h.l1, ?_, ?_⟩
  · unfold wr0; split <;> omega
  · unfold wr1; split <;> omega
  · unfold nwas; split <;> omega
  · unfold nla nwas wr0 wr1
    split
    · exact .inr (.inl ⟨rfl, rfl, rfl⟩)
    · exact .inr (.inr ⟨rfl, rfl, rfl⟩)
theorem rwrite {z0 z1 y0 y1 : List Int} {la : Int} {y : List Int} (h : PR z0 z1 y0 y1 la y) {A : Option Addr} {c n : Nat} {l : List Pm} {w : World} (hi : LI w A c n l) (hn : n ≤ 100) (b m k : Int) :
    Calls Tryd.prog 24 #[rjv z0 z1 la y, .agg #[.int .i64 b, .int .i64 m, .int .i64 k, .slice A n c]] w fun e w' => e = .returned (rjv (wr0 z0 z1 b m l) (wr1 z0 z1 b m l) (nla z0 z1) (nwas z0 z1)) ∧ Below w.heap.size w w' := by
  have := h.l0; have := h.l1
  refine (rjWrite_any z0 z1 la y A c n l w (by omega) (by omega) h.b0 h.b1 hi.see hi.len hn b m k).mono ?_
  rintro e w' ⟨rfl, hb⟩
  refine ⟨?_, hb⟩
  unfold wr0 wr1 nla nwas
  split <;> rfl

structure BoxT (W : World) (X : Nat) (cs : Array Value) (t : TypeId) : Prop where
  box : BxT W X cs t
theorem BoxT.next {W W' : World} {X : Nat} {cs : Array Value} {t : TypeId} (h : BoxT W X cs t) (hb : Below W.heap.size W W') : BoxT W' X cs t := ⟨h.box.next hb⟩
theorem box_off4 {W : World} {X Y : Nat} {cs : Array Value} {t : TypeId} (h : BxT W Y cs t) (hne : Y ≠ X) (x y z u : Value) : BxT ((((W.setCell ⟨X, 0, none⟩ x).setCell ⟨X, 1, none⟩ y).setCell ⟨X, 2, none⟩ z).setCell ⟨X, 3, none⟩ u) Y cs t :=
  (Below.heap_setCell _ ⟨X, 3, none⟩ u Y hne).trans ((Below.heap_setCell _ ⟨X, 2, none⟩ z Y hne).trans ((Below.heap_setCell _ ⟨X, 1, none⟩ y Y hne).trans ((Below.heap_setCell _ ⟨X, 0, none⟩ x Y hne).trans h)))

def PlyF (bk11 bk14 bk9 gs cs nl : Nat) (gb gm gn la : Int) (bv : Bool) (gl : List Pm) (A20 A30 A63 A64 : Option Addr) (c20 c30 c63 c64 : Nat) (q63 q64 z0 z1 y : List Int) : Nat → Value → World → Prop := Slot.row [
fun vv _ => vv = .agg #[.int .i64 gb, .int .i64 gm, .int .i64 0, .slice A20 nl c20],
  fun vv w' => GV vv w' gb gm 0 nl gl,
  fun vv _ => vv = .agg #[.int .i64 gb, .int .i64 gm, .int .i64 0, .slice A30 nl c30],
  fun vv _ => vv = .bool true,
  fun vv _ => vv = .bool false,
  fun vv _ => vv = .bool false,
  fun vv _ => vv = .int .u64 gn,
  fun vv _ => vv = .int .u64 gn,
  fun vv _ => vv = .bool false,
  fun vv _ => vv = .bool false,
  fun vv _ => vv = .bool false,
  fun vv _ => vv = .bool bv,
  fun vv _ => vv = .bool bv,
  fun vv _ => vv = .bool false,
  fun vv _ => vv = .bool false,
  fun vv _ => vv = .bool false,
  fun vv _ => vv = .slice (some ⟨gs, 0, none⟩) 2 cs,
  fun vv _ => vv = .int .i64 2,
  fun vv _ => vv = .bool false,
  fun vv _ => vv = .bool false,
  fun vv _ => vv = .bool false,
  fun vv _ => vv = .slice (some ⟨gs, 0, none⟩) 2 cs,
  fun vv _ => vv = .pointer (some ⟨gs, 0, none⟩),
  fun vv _ => vv = .slice A63 q63.length c63,
  fun vv _ => vv = .string (strOfNums z0),
  fun vv _ => vv = .pointer (some ⟨bk9, 0, none⟩),
  fun vv _ => vv = .string (strOfNums z0),
  fun vv _ => vv = .bool false,
  fun vv _ => vv = .bool false,
  fun vv _ => vv = .bool false,
  fun vv _ => vv = .slice (some ⟨gs, 0, none⟩) 2 cs,
  fun vv _ => vv = .pointer (some ⟨gs, 1, none⟩),
  fun vv _ => vv = .slice A64 q64.length c64,
  fun vv _ => vv = .string (strOfNums z1),
  fun vv _ => vv = .pointer (some ⟨bk9, 1, none⟩),
  fun vv _ => vv = .string (strOfNums z1),
  fun vv _ => vv = .bool false,
  fun vv _ => vv = .bool false]
theorem PlyF_next (bk11 bk14 bk9 gs cs nl : Nat) (gb gm gn la : Int) (bv : Bool) (gl : List Pm) (A20 A30 A63 A64 : Option Addr) (c20 c30 c63 c64 : Nat) (q63 q64 z0 z1 y : List Int) : ∀ kk vv W W', PlyF bk11 bk14 bk9 gs cs nl gb gm gn la bv gl A20 A30 A63 A64 c20 c30 c63 c64 q63 q64 z0 z1 y kk vv W → Below W.heap.size W W' → PlyF bk11 bk14 bk9 gs cs nl gb gm gn la bv gl A20 A30 A63 A64 c20 c30 c63 c64 q63 q64 z0 z1 y kk vv W' := Slot.row_next ⟨fun _ _ _ h hb => h, fun _ _ _ h hb => GV.next h hb, fun _ _ _ h hb => h, fun _ _ _ h hb => h, fun _ _ _ h hb => h, fun _ _ _ h hb => h, fun _ _ _ h hb => h, fun _ _ _ h hb => h, fun _ _ _ h hb => h, fun _ _ _ h hb => h, fun _ _ _ h hb => h, fun _ _ _ h hb => h, fun _ _ _ h hb => h, fun _ _ _ h hb => h, fun _ _ _ h hb => h, fun _ _ _ h hb => h, fun _ _ _ h hb => h, fun _ _ _ h hb => h, fun _ _ _ h hb => h, fun _ _ _ h hb => h, fun _ _ _ h hb => h, fun _ _ _ h hb => h, fun _ _ _ h hb => h, fun _ _ _ h hb => h, fun _ _ _ h hb => h, fun _ _ _ h hb => h, fun _ _ _ h hb => h, fun _ _ _ h hb => h, fun _ _ _ h hb => h, fun _ _ _ h hb => h, fun _ _ _ h hb => h, fun _ _ _ h hb => h, fun _ _ _ h hb => h, fun _ _ _ h hb => h, fun _ _ _ h hb => h, fun _ _ _ h hb => h, fun _ _ _ h hb => h, fun _ _ _ h hb => h, trivial⟩
theorem PlyF_r0 (ρ : Operand → Value) (o : Oper) (W : World) (bk11 bk14 bk9 gs cs nl : Nat) (gb gm gn la : Int) (bv : Bool) (gl : List Pm) (A20 A30 A63 A64 : Option Addr) (c20 c30 c63 c64 : Nat) (q63 q64 z0 z1 y : List Int)  (ho : o.op = Op.load 24 (Operand.tmp 11)) (h0 : ρ (Operand.tmp 11) = .pointer (some ⟨bk11, 0, none⟩)) (g0 : W.cell? ⟨bk11, 0, none⟩ = some (.int .i64 gb)) (g1 : W.cell? ⟨bk11, 1, none⟩ = some (.int .i64 gm)) (g2 : W.cell? ⟨bk11, 2, none⟩ = some (.int .i64 0)) (g3 : W.cell? ⟨bk11, 3, none⟩ = some (.slice A20 nl c20)) : (execOp ρ o).run Tryd.prog W = .ok (.value (.agg #[.int .i64 gb, .int .i64 gm, .int .i64 0, .slice A20 nl c20])) W := by
  unfold execOp
  rw [ho]
  go_simp
theorem PlyF_r2 (ρ : Operand → Value) (o : Oper) (W : World) (bk11 bk14 bk9 gs cs nl : Nat) (gb gm gn la : Int) (bv : Bool) (gl : List Pm) (A20 A30 A63 A64 : Option Addr) (c20 c30 c63 c64 : Nat) (q63 q64 z0 z1 y : List Int)  (ho : o.op = Op.load 34 (Operand.tmp 14)) (h0 : ρ (Operand.tmp 14) = .pointer (some ⟨bk14, 0, none⟩)) (g0 : W.cell? ⟨bk14, 0, none⟩ = some (.int .i64 gb)) (g1 : W.cell? ⟨bk14, 1, none⟩ = some (.int .i64 gm)) (g2 : W.cell? ⟨bk14, 2, none⟩ = some (.int .i64 0)) (g3 : W.cell? ⟨bk14, 3, none⟩ = some (.slice A30 nl c30)) : (execOp ρ o).run Tryd.prog W = .ok (.value (.agg #[.int .i64 gb, .int .i64 gm, .int .i64 0, .slice A30 nl c30])) W := by
  unfold execOp
  rw [ho]
  go_simp
theorem PlyF_r4 (ρ : Operand → Value) (o : Oper) (W : World) (bk11 bk14 bk9 gs cs nl : Nat) (gb gm gn la : Int) (bv : Bool) (gl : List Pm) (A20 A30 A63 A64 : Option Addr) (c20 c30 c63 c64 : Nat) (q63 q64 z0 z1 y : List Int)  (ho : o.op = Op.unOp UnOp.not 4 (Operand.tmp 66)) (h0 : ρ (Operand.tmp 66) = .bool true) : (execOp ρ o).run Tryd.prog W = .ok (.value (.bool false)) W := by
  unfold execOp
  rw [ho]
  go_simp
theorem PlyF_r8 (ρ : Operand → Value) (o : Oper) (W : World) (bk11 bk14 bk9 gs cs nl : Nat) (gb gm gn la : Int) (bv : Bool) (gl : List Pm) (A20 A30 A63 A64 : Option Addr) (c20 c30 c63 c64 : Nat) (q63 q64 z0 z1 y : List Int)  (ho : o.op = Op.binOp BinOp.neq 25 (Operand.tmp 69) (Operand.tmp 70) 25) (h0 : ρ (Operand.tmp 69) = .int .u64 gn) (h1 : ρ (Operand.tmp 70) = .int .u64 gn) : (execOp ρ o).run Tryd.prog W = .ok (.value (.bool false)) W := by
  unfold execOp
  rw [ho]
  go_simp
theorem PlyF_r13 (ρ : Operand → Value) (o : Oper) (W : World) (bk11 bk14 bk9 gs cs nl : Nat) (gb gm gn la : Int) (bv : Bool) (gl : List Pm) (A20 A30 A63 A64 : Option Addr) (c20 c30 c63 c64 : Nat) (q63 q64 z0 z1 y : List Int)  (ho : o.op = Op.binOp BinOp.neq 4 (Operand.tmp 74) (Operand.tmp 75) 4) (h0 : ρ (Operand.tmp 74) = .bool bv) (h1 : ρ (Operand.tmp 75) = .bool bv) : (execOp ρ o).run Tryd.prog W = .ok (.value (.bool false)) W := by
  unfold execOp
  rw [ho]
  go_simp
theorem PlyF_r17 (ρ : Operand → Value) (o : Oper) (W : World) (bk11 bk14 bk9 gs cs nl : Nat) (gb gm gn la : Int) (bv : Bool) (gl : List Pm) (A20 A30 A63 A64 : Option Addr) (c20 c30 c63 c64 : Nat) (q63 q64 z0 z1 y : List Int)  (ho : o.op = Op.call { callee := Callee.builtin Builtin.len, args := #[Operand.tmp 79], argTypes := #[53] }) (h0 : ρ (Operand.tmp 79) = .slice (some ⟨gs, 0, none⟩) 2 cs) : (execOp ρ o).run Tryd.prog W = .ok (.value (.int .i64 2)) W := by
  unfold execOp
  rw [ho]
  go_simp
theorem PlyF_r18 (ρ : Operand → Value) (o : Oper) (W : World) (bk11 bk14 bk9 gs cs nl : Nat) (gb gm gn la : Int) (bv : Bool) (gl : List Pm) (A20 A30 A63 A64 : Option Addr) (c20 c30 c63 c64 : Nat) (q63 q64 z0 z1 y : List Int)  (ho : o.op = Op.binOp BinOp.neq 3 (Operand.tmp 80) (Operand.const (Value.int IntKind.i64 2)) 3) (h0 : ρ (Operand.tmp 80) = .int .i64 2) (h1 : ρ (Operand.const (Value.int IntKind.i64 2)) = .int .i64 2) : (execOp ρ o).run Tryd.prog W = .ok (.value (.bool false)) W := by
  unfold execOp
  rw [ho]
  go_simp
theorem PlyF_r22 (ρ : Operand → Value) (o : Oper) (W : World) (bk11 bk14 bk9 gs cs nl : Nat) (gb gm gn la : Int) (bv : Bool) (gl : List Pm) (A20 A30 A63 A64 : Option Addr) (c20 c30 c63 c64 : Nat) (q63 q64 z0 z1 y : List Int)  (ho : o.op = Op.indexAddr 53 (Operand.tmp 84) (Operand.const (Value.int IntKind.i64 0))) (h0 : ρ (Operand.tmp 84) = .slice (some ⟨gs, 0, none⟩) 2 cs) (h1 : ρ (Operand.const (Value.int IntKind.i64 0)) = .int .i64 0) : (execOp ρ o).run Tryd.prog W = .ok (.value (.pointer (some ⟨gs, 0, none⟩))) W := by
  unfold execOp
  rw [ho]
  go_simp
theorem PlyF_r23 (ρ : Operand → Value) (o : Oper) (W : World) (bk11 bk14 bk9 gs cs nl : Nat) (gb gm gn la : Int) (bv : Bool) (gl : List Pm) (A20 A30 A63 A64 : Option Addr) (c20 c30 c63 c64 : Nat) (q63 q64 z0 z1 y : List Int)  (ho : o.op = Op.load 26 (Operand.tmp 85)) (h0 : ρ (Operand.tmp 85) = .pointer (some ⟨gs, 0, none⟩)) (g0 : W.cell? ⟨gs, 0, none⟩ = some (.slice A63 q63.length c63)) : (execOp ρ o).run Tryd.prog W = .ok (.value (.slice A63 q63.length c63)) W := by
  unfold execOp
  rw [ho]
  go_simp
theorem PlyF_r25 (ρ : Operand → Value) (o : Oper) (W : World) (bk11 bk14 bk9 gs cs nl : Nat) (gb gm gn la : Int) (bv : Bool) (gl : List Pm) (A20 A30 A63 A64 : Option Addr) (c20 c30 c63 c64 : Nat) (q63 q64 z0 z1 y : List Int)  (ho : o.op = Op.fieldAddr 48 (Operand.tmp 9) 0) (h0 : ρ (Operand.tmp 9) = .pointer (some ⟨bk9, 0, none⟩)) : (execOp ρ o).run Tryd.prog W = .ok (.value (.pointer (some ⟨bk9, 0, none⟩))) W := by
  unfold execOp
  rw [ho]
  go_simp
theorem PlyF_r26 (ρ : Operand → Value) (o : Oper) (W : World) (bk11 bk14 bk9 gs cs nl : Nat) (gb gm gn la : Int) (bv : Bool) (gl : List Pm) (A20 A30 A63 A64 : Option Addr) (c20 c30 c63 c64 : Nat) (q63 q64 z0 z1 y : List Int)  (ho : o.op = Op.load 9 (Operand.tmp 88)) (h0 : ρ (Operand.tmp 88) = .pointer (some ⟨bk9, 0, none⟩)) (g0 : W.cell? ⟨bk9, 0, none⟩ = some (.string (strOfNums z0))) : (execOp ρ o).run Tryd.prog W = .ok (.value (.string (strOfNums z0))) W := by
  unfold execOp
  rw [ho]
  go_simp
theorem PlyF_r27 (ρ : Operand → Value) (o : Oper) (W : World) (bk11 bk14 bk9 gs cs nl : Nat) (gb gm gn la : Int) (bv : Bool) (gl : List Pm) (A20 A30 A63 A64 : Option Addr) (c20 c30 c63 c64 : Nat) (q63 q64 z0 z1 y : List Int)  (ho : o.op = Op.binOp BinOp.neq 9 (Operand.tmp 87) (Operand.tmp 89) 9) (h0 : ρ (Operand.tmp 87) = .string (strOfNums z0)) (h1 : ρ (Operand.tmp 89) = .string (strOfNums z0)) : (execOp ρ o).run Tryd.prog W = .ok (.value (.bool false)) W := by
  unfold execOp
  rw [ho]
  go_simp
theorem PlyF_r31 (ρ : Operand → Value) (o : Oper) (W : World) (bk11 bk14 bk9 gs cs nl : Nat) (gb gm gn la : Int) (bv : Bool) (gl : List Pm) (A20 A30 A63 A64 : Option Addr) (c20 c30 c63 c64 : Nat) (q63 q64 z0 z1 y : List Int)  (ho : o.op = Op.indexAddr 53 (Operand.tmp 93) (Operand.const (Value.int IntKind.i64 1))) (h0 : ρ (Operand.tmp 93) = .slice (some ⟨gs, 0, none⟩) 2 cs) (h1 : ρ (Operand.const (Value.int IntKind.i64 1)) = .int .i64 1) : (execOp ρ o).run Tryd.prog W = .ok (.value (.pointer (some ⟨gs, 1, none⟩))) W := by
  unfold execOp
  rw [ho]
  go_simp
theorem PlyF_r32 (ρ : Operand → Value) (o : Oper) (W : World) (bk11 bk14 bk9 gs cs nl : Nat) (gb gm gn la : Int) (bv : Bool) (gl : List Pm) (A20 A30 A63 A64 : Option Addr) (c20 c30 c63 c64 : Nat) (q63 q64 z0 z1 y : List Int)  (ho : o.op = Op.load 26 (Operand.tmp 94)) (h0 : ρ (Operand.tmp 94) = .pointer (some ⟨gs, 1, none⟩)) (g1 : W.cell? ⟨gs, 1, none⟩ = some (.slice A64 q64.length c64)) : (execOp ρ o).run Tryd.prog W = .ok (.value (.slice A64 q64.length c64)) W := by
  unfold execOp
  rw [ho]
  go_simp
theorem PlyF_r34 (ρ : Operand → Value) (o : Oper) (W : World) (bk11 bk14 bk9 gs cs nl : Nat) (gb gm gn la : Int) (bv : Bool) (gl : List Pm) (A20 A30 A63 A64 : Option Addr) (c20 c30 c63 c64 : Nat) (q63 q64 z0 z1 y : List Int)  (ho : o.op = Op.fieldAddr 48 (Operand.tmp 9) 1) (h0 : ρ (Operand.tmp 9) = .pointer (some ⟨bk9, 0, none⟩)) : (execOp ρ o).run Tryd.prog W = .ok (.value (.pointer (some ⟨bk9, 1, none⟩))) W := by
  unfold execOp
  rw [ho]
  go_simp
theorem PlyF_r35 (ρ : Operand → Value) (o : Oper) (W : World) (bk11 bk14 bk9 gs cs nl : Nat) (gb gm gn la : Int) (bv : Bool) (gl : List Pm) (A20 A30 A63 A64 : Option Addr) (c20 c30 c63 c64 : Nat) (q63 q64 z0 z1 y : List Int)  (ho : o.op = Op.load 9 (Operand.tmp 97)) (h0 : ρ (Operand.tmp 97) = .pointer (some ⟨bk9, 1, none⟩)) (g1 : W.cell? ⟨bk9, 1, none⟩ = some (.string (strOfNums z1))) : (execOp ρ o).run Tryd.prog W = .ok (.value (.string (strOfNums z1))) W := by
  unfold execOp
  rw [ho]
  go_simp
theorem PlyF_r36 (ρ : Operand → Value) (o : Oper) (W : World) (bk11 bk14 bk9 gs cs nl : Nat) (gb gm gn la : Int) (bv : Bool) (gl : List Pm) (A20 A30 A63 A64 : Option Addr) (c20 c30 c63 c64 : Nat) (q63 q64 z0 z1 y : List Int)  (ho : o.op = Op.binOp BinOp.neq 9 (Operand.tmp 96) (Operand.tmp 98) 9) (h0 : ρ (Operand.tmp 96) = .string (strOfNums z1)) (h1 : ρ (Operand.tmp 98) = .string (strOfNums z1)) : (execOp ρ o).run Tryd.prog W = .ok (.value (.bool false)) W := by
  unfold execOp
  rw [ho]
  go_simp
def PlyG1 (bk8 b1 p1 i len cap n : Nat) (b m k nn la lb : Int) (l : List Pm) (A A0 A1 A2 A3 : Option Addr) (c c0 c1 c2 c3 : Nat) (q0 q1 q2 q3 z0 z1 y0 y1 v0 v1 y vy : List Int) : Nat → Value → World → Prop := Slot.row [
fun vv _ => vv = .agg #[.slice A0 q0.length c0, .slice A1 q1.length c1, .slice A2 q2.length c2, .slice A3 q3.length c3],
  fun vv _ => vv = .slice (some ⟨b1, p1, none⟩) len cap,
  fun vv _ => vv = .int .i64 ↑i,
  fun vv _ => vv = .pointer (some ⟨b1, p1 + i * 6, none⟩),
  fun vv _ => vv = .pointer (some ⟨b1, p1 + i * 6 + 2, none⟩),
  fun vv _ => vv = .agg #[.int .i64 b, .int .i64 m, .int .i64 k, .slice A n c],
  fun vv w' => JV vv w' v0 v1 z0 z1]
theorem PlyG1_next (bk8 b1 p1 i len cap n : Nat) (b m k nn la lb : Int) (l : List Pm) (A A0 A1 A2 A3 : Option Addr) (c c0 c1 c2 c3 : Nat) (q0 q1 q2 q3 z0 z1 y0 y1 v0 v1 y vy : List Int) : ∀ kk vv W W', PlyG1 bk8 b1 p1 i len cap n b m k nn la lb l A A0 A1 A2 A3 c c0 c1 c2 c3 q0 q1 q2 q3 z0 z1 y0 y1 v0 v1 y vy kk vv W → Below W.heap.size W W' → PlyG1 bk8 b1 p1 i len cap n b m k nn la lb l A A0 A1 A2 A3 c c0 c1 c2 c3 q0 q1 q2 q3 z0 z1 y0 y1 v0 v1 y vy kk vv W' := Slot.row_next ⟨fun _ _ _ h hb => h, fun _ _ _ h hb => h, fun _ _ _ h hb => h, fun _ _ _ h hb => h, fun _ _ _ h hb => h, fun _ _ _ h hb => h, fun _ _ _ h hb => JV.next h hb, trivial⟩
theorem PlyG1_r0 (ρ : Operand → Value) (o : Oper) (W : World) (bk8 b1 p1 i len cap n : Nat) (b m k nn la lb : Int) (l : List Pm) (A A0 A1 A2 A3 : Option Addr) (c c0 c1 c2 c3 : Nat) (q0 q1 q2 q3 z0 z1 y0 y1 v0 v1 y vy : List Int)  (ho : o.op = Op.load 45 (Operand.tmp 8)) (h0 : ρ (Operand.tmp 8) = .pointer (some ⟨bk8, 0, none⟩)) (g0 : W.cell? ⟨bk8, 0, none⟩ = some (.slice A0 q0.length c0)) (g1 : W.cell? ⟨bk8, 1, none⟩ = some (.slice A1 q1.length c1)) (g2 : W.cell? ⟨bk8, 2, none⟩ = some (.slice A2 q2.length c2)) (g3 : W.cell? ⟨bk8, 3, none⟩ = some (.slice A3 q3.length c3)) : (execOp ρ o).run Tryd.prog W = .ok (.value (.agg #[.slice A0 q0.length c0, .slice A1 q1.length c1, .slice A2 q2.length c2, .slice A3 q3.length c3])) W := by
  unfold execOp
  rw [ho]
  go_simp
theorem PlyG1_r3 (ρ : Operand → Value) (o : Oper) (W : World) (bk8 b1 p1 i len cap n : Nat) (b m k nn la lb : Int) (l : List Pm) (A A0 A1 A2 A3 : Option Addr) (c c0 c1 c2 c3 : Nat) (q0 q1 q2 q3 z0 z1 y0 y1 v0 v1 y vy : List Int)  (ho : o.op = Op.indexAddr 42 (Operand.tmp 133) (Operand.tmp 134)) (h0 : ρ (Operand.tmp 133) = .slice (some ⟨b1, p1, none⟩) len cap) (h1 : ρ (Operand.tmp 134) = .int .i64 ↑i) (i1 : (i : Int) < (len : Int)) : (execOp ρ o).run Tryd.prog W = .ok (.value (.pointer (some ⟨b1, p1 + i * 6, none⟩))) W := by
  unfold execOp
  rw [ho]
  go_simp
theorem PlyG1_r4 (ρ : Operand → Value) (o : Oper) (W : World) (bk8 b1 p1 i len cap n : Nat) (b m k nn la lb : Int) (l : List Pm) (A A0 A1 A2 A3 : Option Addr) (c c0 c1 c2 c3 : Nat) (q0 q1 q2 q3 z0 z1 y0 y1 v0 v1 y vy : List Int)  (ho : o.op = Op.fieldAddr 56 (Operand.tmp 135) 2) (h0 : ρ (Operand.tmp 135) = .pointer (some ⟨b1, p1 + i * 6, none⟩)) : (execOp ρ o).run Tryd.prog W = .ok (.value (.pointer (some ⟨b1, p1 + i * 6 + 2, none⟩))) W := by
  unfold execOp
  rw [ho]
  go_simp
theorem PlyG1_r5 (ρ : Operand → Value) (o : Oper) (W : World) (bk8 b1 p1 i len cap n : Nat) (b m k nn la lb : Int) (l : List Pm) (A A0 A1 A2 A3 : Option Addr) (c c0 c1 c2 c3 : Nat) (q0 q1 q2 q3 z0 z1 y0 y1 v0 v1 y vy : List Int)  (ho : o.op = Op.load 24 (Operand.tmp 136)) (h0 : ρ (Operand.tmp 136) = .pointer (some ⟨b1, p1 + i * 6 + 2, none⟩)) (g0 : W.cell? ⟨b1, p1 + i * 6 + 2, none⟩ = some (.int .i64 b)) (g1 : W.cell? ⟨b1, p1 + i * 6 + 2 + 1, none⟩ = some (.int .i64 m)) (g2 : W.cell? ⟨b1, p1 + i * 6 + 2 + 2, none⟩ = some (.int .i64 k)) (g3 : W.cell? ⟨b1, p1 + i * 6 + 2 + 3, none⟩ = some (.slice A n c)) : (execOp ρ o).run Tryd.prog W = .ok (.value (.agg #[.int .i64 b, .int .i64 m, .int .i64 k, .slice A n c])) W := by
  unfold execOp
  rw [ho]
  go_simp
def PlyH1 (bk8 b1 p1 i len cap n : Nat) (b m k nn la lb : Int) (l : List Pm) (A A0 A1 A2 A3 : Option Addr) (c c0 c1 c2 c3 : Nat) (q0 q1 q2 q3 z0 z1 y0 y1 v0 v1 y vy : List Int) : Nat → Value → World → Prop := Slot.row [
fun vv _ => vv = .agg #[.string (strOfNums z0), .string (strOfNums z1), .int .i64 la, .string (strOfNums y)],
  fun vv _ => vv = .slice (some ⟨b1, p1, none⟩) len cap,
  fun vv _ => vv = .int .i64 ↑i,
  fun vv _ => vv = .pointer (some ⟨b1, p1 + i * 6, none⟩),
  fun vv _ => vv = .pointer (some ⟨b1, p1 + i * 6 + 2, none⟩),
  fun vv _ => vv = .agg #[.int .i64 b, .int .i64 m, .int .i64 k, .slice A n c],
  fun vv w' => GV vv w' b m k n l,
  fun vv _ => vv = .agg #[.string (strOfNums v0), .string (strOfNums v1), .int .i64 lb, .string (strOfNums vy)]]
theorem PlyH1_next (bk8 b1 p1 i len cap n : Nat) (b m k nn la lb : Int) (l : List Pm) (A A0 A1 A2 A3 : Option Addr) (c c0 c1 c2 c3 : Nat) (q0 q1 q2 q3 z0 z1 y0 y1 v0 v1 y vy : List Int) : ∀ kk vv W W', PlyH1 bk8 b1 p1 i len cap n b m k nn la lb l A A0 A1 A2 A3 c c0 c1 c2 c3 q0 q1 q2 q3 z0 z1 y0 y1 v0 v1 y vy kk vv W → Below W.heap.size W W' → PlyH1 bk8 b1 p1 i len cap n b m k nn la lb l A A0 A1 A2 A3 c c0 c1 c2 c3 q0 q1 q2 q3 z0 z1 y0 y1 v0 v1 y vy kk vv W' := Slot.row_next ⟨fun _ _ _ h hb => h, fun _ _ _ h hb => h, fun _ _ _ h hb => h, fun _ _ _ h hb => h, fun _ _ _ h hb => h, fun _ _ _ h hb => h, fun _ _ _ h hb => GV.next h hb, fun _ _ _ h hb => h, trivial⟩
theorem PlyH1_r0 (ρ : Operand → Value) (o : Oper) (W : World) (bk8 b1 p1 i len cap n : Nat) (b m k nn la lb : Int) (l : List Pm) (A A0 A1 A2 A3 : Option Addr) (c c0 c1 c2 c3 : Nat) (q0 q1 q2 q3 z0 z1 y0 y1 v0 v1 y vy : List Int)  (ho : o.op = Op.load 48 (Operand.tmp 9)) (h0 : ρ (Operand.tmp 9) = .pointer (some ⟨bk8, 0, none⟩)) (g0 : W.cell? ⟨bk8, 0, none⟩ = some (.string (strOfNums z0))) (g1 : W.cell? ⟨bk8, 1, none⟩ = some (.string (strOfNums z1))) (g2 : W.cell? ⟨bk8, 2, none⟩ = some (.int .i64 la)) (g3 : W.cell? ⟨bk8, 3, none⟩ = some (.string (strOfNums y))) : (execOp ρ o).run Tryd.prog W = .ok (.value (.agg #[.string (strOfNums z0), .string (strOfNums z1), .int .i64 la, .string (strOfNums y)])) W := by
  unfold execOp
  rw [ho]
  go_simp
theorem PlyH1_r3 (ρ : Operand → Value) (o : Oper) (W : World) (bk8 b1 p1 i len cap n : Nat) (b m k nn la lb : Int) (l : List Pm) (A A0 A1 A2 A3 : Option Addr) (c c0 c1 c2 c3 : Nat) (q0 q1 q2 q3 z0 z1 y0 y1 v0 v1 y vy : List Int)  (ho : o.op = Op.indexAddr 42 (Operand.tmp 140) (Operand.tmp 141)) (h0 : ρ (Operand.tmp 140) = .slice (some ⟨b1, p1, none⟩) len cap) (h1 : ρ (Operand.tmp 141) = .int .i64 ↑i) (i1 : (i : Int) < (len : Int)) : (execOp ρ o).run Tryd.prog W = .ok (.value (.pointer (some ⟨b1, p1 + i * 6, none⟩))) W := by
  unfold execOp
  rw [ho]
  go_simp
theorem PlyH1_r4 (ρ : Operand → Value) (o : Oper) (W : World) (bk8 b1 p1 i len cap n : Nat) (b m k nn la lb : Int) (l : List Pm) (A A0 A1 A2 A3 : Option Addr) (c c0 c1 c2 c3 : Nat) (q0 q1 q2 q3 z0 z1 y0 y1 v0 v1 y vy : List Int)  (ho : o.op = Op.fieldAddr 56 (Operand.tmp 142) 2) (h0 : ρ (Operand.tmp 142) = .pointer (some ⟨b1, p1 + i * 6, none⟩)) : (execOp ρ o).run Tryd.prog W = .ok (.value (.pointer (some ⟨b1, p1 + i * 6 + 2, none⟩))) W := by
  unfold execOp
  rw [ho]
  go_simp
theorem PlyH1_r5 (ρ : Operand → Value) (o : Oper) (W : World) (bk8 b1 p1 i len cap n : Nat) (b m k nn la lb : Int) (l : List Pm) (A A0 A1 A2 A3 : Option Addr) (c c0 c1 c2 c3 : Nat) (q0 q1 q2 q3 z0 z1 y0 y1 v0 v1 y vy : List Int)  (ho : o.op = Op.load 24 (Operand.tmp 143)) (h0 : ρ (Operand.tmp 143) = .pointer (some ⟨b1, p1 + i * 6 + 2, none⟩)) (g0 : W.cell? ⟨b1, p1 + i * 6 + 2, none⟩ = some (.int .i64 b)) (g1 : W.cell? ⟨b1, p1 + i * 6 + 2 + 1, none⟩ = some (.int .i64 m)) (g2 : W.cell? ⟨b1, p1 + i * 6 + 2 + 2, none⟩ = some (.int .i64 k)) (g3 : W.cell? ⟨b1, p1 + i * 6 + 2 + 3, none⟩ = some (.slice A n c)) : (execOp ρ o).run Tryd.prog W = .ok (.value (.agg #[.int .i64 b, .int .i64 m, .int .i64 k, .slice A n c])) W := by
  unfold execOp
  rw [ho]
  go_simp
def PlyG0 (bk8 b1 p1 i len cap n : Nat) (b m k nn la lb : Int) (l : List Pm) (A A0 A1 A2 A3 : Option Addr) (c c0 c1 c2 c3 : Nat) (q0 q1 q2 q3 z0 z1 y0 y1 v0 v1 y vy : List Int) : Nat → Value → World → Prop := Slot.row [
fun vv _ => vv = .agg #[.slice A0 q0.length c0, .slice A1 q1.length c1, .slice A2 q2.length c2, .slice A3 q3.length c3],
  fun vv _ => vv = .slice (some ⟨b1, p1, none⟩) len cap,
  fun vv _ => vv = .int .i64 ↑i,
  fun vv _ => vv = .pointer (some ⟨b1, p1 + i * 6, none⟩),
  fun vv _ => vv = .pointer (some ⟨b1, p1 + i * 6 + 1, none⟩),
  fun vv _ => vv = .int .i64 nn,
  fun vv w' => JV vv w' v0 v1 y0 y1]
theorem PlyG0_next (bk8 b1 p1 i len cap n : Nat) (b m k nn la lb : Int) (l : List Pm) (A A0 A1 A2 A3 : Option Addr) (c c0 c1 c2 c3 : Nat) (q0 q1 q2 q3 z0 z1 y0 y1 v0 v1 y vy : List Int) : ∀ kk vv W W', PlyG0 bk8 b1 p1 i len cap n b m k nn la lb l A A0 A1 A2 A3 c c0 c1 c2 c3 q0 q1 q2 q3 z0 z1 y0 y1 v0 v1 y vy kk vv W → Below W.heap.size W W' → PlyG0 bk8 b1 p1 i len cap n b m k nn la lb l A A0 A1 A2 A3 c c0 c1 c2 c3 q0 q1 q2 q3 z0 z1 y0 y1 v0 v1 y vy kk vv W' := Slot.row_next ⟨fun _ _ _ h hb => h, fun _ _ _ h hb => h, fun _ _ _ h hb => h, fun _ _ _ h hb => h, fun _ _ _ h hb => h, fun _ _ _ h hb => h, fun _ _ _ h hb => JV.next h hb, trivial⟩
theorem PlyG0_r0 (ρ : Operand → Value) (o : Oper) (W : World) (bk8 b1 p1 i len cap n : Nat) (b m k nn la lb : Int) (l : List Pm) (A A0 A1 A2 A3 : Option Addr) (c c0 c1 c2 c3 : Nat) (q0 q1 q2 q3 z0 z1 y0 y1 v0 v1 y vy : List Int)  (ho : o.op = Op.load 45 (Operand.tmp 8)) (h0 : ρ (Operand.tmp 8) = .pointer (some ⟨bk8, 0, none⟩)) (g0 : W.cell? ⟨bk8, 0, none⟩ = some (.slice A0 q0.length c0)) (g1 : W.cell? ⟨bk8, 1, none⟩ = some (.slice A1 q1.length c1)) (g2 : W.cell? ⟨bk8, 2, none⟩ = some (.slice A2 q2.length c2)) (g3 : W.cell? ⟨bk8, 3, none⟩ = some (.slice A3 q3.length c3)) : (execOp ρ o).run Tryd.prog W = .ok (.value (.agg #[.slice A0 q0.length c0, .slice A1 q1.length c1, .slice A2 q2.length c2, .slice A3 q3.length c3])) W := by
  unfold execOp
  rw [ho]
  go_simp
theorem PlyG0_r3 (ρ : Operand → Value) (o : Oper) (W : World) (bk8 b1 p1 i len cap n : Nat) (b m k nn la lb : Int) (l : List Pm) (A A0 A1 A2 A3 : Option Addr) (c c0 c1 c2 c3 : Nat) (q0 q1 q2 q3 z0 z1 y0 y1 v0 v1 y vy : List Int)  (ho : o.op = Op.indexAddr 42 (Operand.tmp 119) (Operand.tmp 120)) (h0 : ρ (Operand.tmp 119) = .slice (some ⟨b1, p1, none⟩) len cap) (h1 : ρ (Operand.tmp 120) = .int .i64 ↑i) (i1 : (i : Int) < (len : Int)) : (execOp ρ o).run Tryd.prog W = .ok (.value (.pointer (some ⟨b1, p1 + i * 6, none⟩))) W := by
  unfold execOp
  rw [ho]
  go_simp
theorem PlyG0_r4 (ρ : Operand → Value) (o : Oper) (W : World) (bk8 b1 p1 i len cap n : Nat) (b m k nn la lb : Int) (l : List Pm) (A A0 A1 A2 A3 : Option Addr) (c c0 c1 c2 c3 : Nat) (q0 q1 q2 q3 z0 z1 y0 y1 v0 v1 y vy : List Int)  (ho : o.op = Op.fieldAddr 56 (Operand.tmp 121) 1) (h0 : ρ (Operand.tmp 121) = .pointer (some ⟨b1, p1 + i * 6, none⟩)) : (execOp ρ o).run Tryd.prog W = .ok (.value (.pointer (some ⟨b1, p1 + i * 6 + 1, none⟩))) W := by
  unfold execOp
  rw [ho]
  go_simp
theorem PlyG0_r5 (ρ : Operand → Value) (o : Oper) (W : World) (bk8 b1 p1 i len cap n : Nat) (b m k nn la lb : Int) (l : List Pm) (A A0 A1 A2 A3 : Option Addr) (c c0 c1 c2 c3 : Nat) (q0 q1 q2 q3 z0 z1 y0 y1 v0 v1 y vy : List Int)  (ho : o.op = Op.load 3 (Operand.tmp 122)) (h0 : ρ (Operand.tmp 122) = .pointer (some ⟨b1, p1 + i * 6 + 1, none⟩)) (g : W.cell? ⟨b1, p1 + i * 6 + 1, none⟩ = some (.int .i64 nn)) : (execOp ρ o).run Tryd.prog W = .ok (.value (.int .i64 nn)) W := by
  unfold execOp
  rw [ho]
  go_simp
def PlyH0 (bk8 b1 p1 i len cap n : Nat) (b m k nn la lb : Int) (l : List Pm) (A A0 A1 A2 A3 : Option Addr) (c c0 c1 c2 c3 : Nat) (q0 q1 q2 q3 z0 z1 y0 y1 v0 v1 y vy : List Int) : Nat → Value → World → Prop := Slot.row [
fun vv _ => vv = .agg #[.string (strOfNums z0), .string (strOfNums z1), .int .i64 la, .string (strOfNums y)],
  fun vv _ => vv = .slice (some ⟨b1, p1, none⟩) len cap,
  fun vv _ => vv = .int .i64 ↑i,
  fun vv _ => vv = .pointer (some ⟨b1, p1 + i * 6, none⟩),
  fun vv _ => vv = .pointer (some ⟨b1, p1 + i * 6 + 1, none⟩),
  fun vv _ => vv = .int .i64 nn,
  fun vv _ => vv = .agg #[.string (strOfNums v0), .string (strOfNums v1), .int .i64 la, .string (strOfNums y)]]
theorem PlyH0_next (bk8 b1 p1 i len cap n : Nat) (b m k nn la lb : Int) (l : List Pm) (A A0 A1 A2 A3 : Option Addr) (c c0 c1 c2 c3 : Nat) (q0 q1 q2 q3 z0 z1 y0 y1 v0 v1 y vy : List Int) : ∀ kk vv W W', PlyH0 bk8 b1 p1 i len cap n b m k nn la lb l A A0 A1 A2 A3 c c0 c1 c2 c3 q0 q1 q2 q3 z0 z1 y0 y1 v0 v1 y vy kk vv W → Below W.heap.size W W' → PlyH0 bk8 b1 p1 i len cap n b m k nn la lb l A A0 A1 A2 A3 c c0 c1 c2 c3 q0 q1 q2 q3 z0 z1 y0 y1 v0 v1 y vy kk vv W' := Slot.row_next ⟨fun _ _ _ h hb => h, fun _ _ _ h hb => h, fun _ _ _ h hb => h, fun _ _ _ h hb => h, fun _ _ _ h hb => h, fun _ _ _ h hb => h, fun _ _ _ h hb => h, trivial⟩
theorem PlyH0_r0 (ρ : Operand → Value) (o : Oper) (W : World) (bk8 b1 p1 i len cap n : Nat) (b m k nn la lb : Int) (l : List Pm) (A A0 A1 A2 A3 : Option Addr) (c c0 c1 c2 c3 : Nat) (q0 q1 q2 q3 z0 z1 y0 y1 v0 v1 y vy : List Int)  (ho : o.op = Op.load 48 (Operand.tmp 9)) (h0 : ρ (Operand.tmp 9) = .pointer (some ⟨bk8, 0, none⟩)) (g0 : W.cell? ⟨bk8, 0, none⟩ = some (.string (strOfNums z0))) (g1 : W.cell? ⟨bk8, 1, none⟩ = some (.string (strOfNums z1))) (g2 : W.cell? ⟨bk8, 2, none⟩ = some (.int .i64 la)) (g3 : W.cell? ⟨bk8, 3, none⟩ = some (.string (strOfNums y))) : (execOp ρ o).run Tryd.prog W = .ok (.value (.agg #[.string (strOfNums z0), .string (strOfNums z1), .int .i64 la, .string (strOfNums y)])) W := by
  unfold execOp
  rw [ho]
  go_simp
theorem PlyH0_r3 (ρ : Operand → Value) (o : Oper) (W : World) (bk8 b1 p1 i len cap n : Nat) (b m k nn la lb : Int) (l : List Pm) (A A0 A1 A2 A3 : Option Addr) (c c0 c1 c2 c3 : Nat) (q0 q1 q2 q3 z0 z1 y0 y1 v0 v1 y vy : List Int)  (ho : o.op = Op.indexAddr 42 (Operand.tmp 126) (Operand.tmp 127)) (h0 : ρ (Operand.tmp 126) = .slice (some ⟨b1, p1, none⟩) len cap) (h1 : ρ (Operand.tmp 127) = .int .i64 ↑i) (i1 : (i : Int) < (len : Int)) : (execOp ρ o).run Tryd.prog W = .ok (.value (.pointer (some ⟨b1, p1 + i * 6, none⟩))) W := by
  unfold execOp
  rw [ho]
  go_simp
theorem PlyH0_r4 (ρ : Operand → Value) (o : Oper) (W : World) (bk8 b1 p1 i len cap n : Nat) (b m k nn la lb : Int) (l : List Pm) (A A0 A1 A2 A3 : Option Addr) (c c0 c1 c2 c3 : Nat) (q0 q1 q2 q3 z0 z1 y0 y1 v0 v1 y vy : List Int)  (ho : o.op = Op.fieldAddr 56 (Operand.tmp 128) 1) (h0 : ρ (Operand.tmp 128) = .pointer (some ⟨b1, p1 + i * 6, none⟩)) : (execOp ρ o).run Tryd.prog W = .ok (.value (.pointer (some ⟨b1, p1 + i * 6 + 1, none⟩))) W := by
  unfold execOp
  rw [ho]
  go_simp
theorem PlyH0_r5 (ρ : Operand → Value) (o : Oper) (W : World) (bk8 b1 p1 i len cap n : Nat) (b m k nn la lb : Int) (l : List Pm) (A A0 A1 A2 A3 : Option Addr) (c c0 c1 c2 c3 : Nat) (q0 q1 q2 q3 z0 z1 y0 y1 v0 v1 y vy : List Int)  (ho : o.op = Op.load 3 (Operand.tmp 129)) (h0 : ρ (Operand.tmp 129) = .pointer (some ⟨b1, p1 + i * 6 + 1, none⟩)) (g : W.cell? ⟨b1, p1 + i * 6 + 1, none⟩ = some (.int .i64 nn)) : (execOp ρ o).run Tryd.prog W = .ok (.value (.int .i64 nn)) W := by
  unfold execOp
  rw [ho]
  go_simp

set_option maxHeartbeats 51200000 in
theorem journalPlays_walk (w : World) (ht : Tab w) (a0 : Option Addr) (len0 cap0 : Nat) (z0 : List Int) (a1 : Option Addr) (len1 cap1 : Nat) (z1 : List Int) (a : Option Addr) (len cap : Nat) (ls : List Ac)
    (hl0 : z0.length = len0) (hc0 : len0 ≤ cap0) (hx0 : cap0 ≤ maxLen) (hs0 : Sees w w.heap.size a0 (nums .u8 z0)) (hw0 : ∀ n ∈ z0, (Lit.int .u8 n).wf = true)
    (hl1 : z1.length = len1) (hc1 : len1 ≤ cap1) (hx1 : cap1 ≤ maxLen) (hs1 : Sees w w.heap.size a1 (nums .u8 z1)) (hw1 : ∀ n ∈ z1, (Lit.int .u8 n).wf = true)
    (hl : ls.length = len) (hc : len ≤ cap) (hx : cap ≤ maxLen) (hs : Sees w w.heap.size a (ls.map acc).flatten) (hin : ∀ x ∈ ls, x.g.In w ∧ (Lit.int .i64 x.n).wf = true) :
    Calls Tryd.prog 4 #[.slice a0 len0 cap0, .slice a1 len1 cap1, .slice a len cap] w fun e w' => e = .returned (.bool true) ∧ Below w.heap.size w w' := by
  unfold maxLen at hx hx0 hx1
  have by0 : By z0 := fun b hb => bounds_u8 (hw0 b hb)
  have by1 : By z1 := fun b hb => bounds_u8 (hw1 b hb)
  have HS := Lib.hid hs
  have HL := Lib.hid hl
  have HI := Lib.hid hin
  have HT := Lib.hid ht
  have TB_0 := Lib.hid ht
  have BE_0 : Hid (BW w w) := Lib.hid (BW.mk (Below.refl _ _))
  have S0_0 := Lib.hid (SB.mk hl0 hs0)
  have S1_0 := Lib.hid (SB.mk hl1 hs1)
  clear ht hs hl hin
  by_cases hbig : 30 < len ∨ 800 < len0 ∨ 800 < len1
  · have ways : (30 : Int) < (len : Int) ∨ (¬ (30 : Int) < (len : Int) ∧ (800 : Int) < (len0 : Int)) ∨ (¬ (30 : Int) < (len : Int) ∧ ¬ (800 : Int) < (len0 : Int) ∧ (800 : Int) < (len1 : Int)) := by omega
    clear hs0 hs1 hl0 hl1 hw0 hw1
    rcases ways with g1 | ⟨g1, g2⟩ | ⟨g1, g2, g3⟩
    all_goals
      go_enter Tryd.func4, Tryd.ntmps4
      go_wp2_with (first
        | (go_at_call 9; (refine (awake_any _ TB_0.out).mono ?_; rintro e w1 ⟨rfl, h1⟩; have TB_1 := Lib.hid (TB_0.out.next h1); have BE_1 := Lib.hid (BE_0.out.next h1); clear TB_0 BE_0 h1)))
      go_ret
      exact ⟨rfl, BE_1.out.bel⟩
  · have g1 : ¬ (30 : Int) < (len : Int) := by omega
    have g2 : ¬ (800 : Int) < (len0 : Int) := by omega
    have g3 : ¬ (800 : Int) < (len1 : Int) := by omega
    have HF : Hid (∀ W, SB W a0 len0 z0 → SB W a1 len1 z1 → Calls Tryd.prog 17 #[.slice a0 len0 cap0, .slice a1 len1 cap1] W (JP W z0 z1 z0 z1)) := Lib.hid fun W h0 h1 => jFrom_any z0 z1 a0 a1 len0 len1 cap0 cap1 W h0.len h1.len (by omega) (by omega) h0.see h1.see by0 by1
    have HPR : Hid (PR z0 z1 z0 z1 (-1) []) := Lib.hid ⟨by0, by1, by0, by1, by omega, by omega, by omega, by omega, by simp, .inl ⟨rfl, rfl, rfl⟩⟩
    clear hs0 hs1 hl0 hl1 hw0 hw1 by0 by1
    go_enter Tryd.func4, Tryd.ntmps4
    go_wp2_with (first
      | (go_at_call 9; (refine (awake_any _ TB_0.out).mono ?_; rintro e w1 ⟨rfl, h1⟩; have TB_1 := Lib.hid (TB_0.out.next h1); have BE_1 := Lib.hid (BE_0.out.next h1); have S0_1 := Lib.hid (S0_0.out.next h1); have S1_1 := Lib.hid (S1_0.out.next h1); clear TB_0 BE_0 S0_0 S1_0 h1))
      | (go_at_call 17; (refine (HF.out _ S0_1.out S1_1.out).mono ?_; rintro e w2 ⟨⟨⟨A10, c10, q10⟩, ⟨A11, c11, q11⟩, ⟨A12, c12, q12⟩, ⟨A13, c13, q13⟩⟩, rfl, hi2, hb2, h2⟩; have TB_2 := Lib.hid ((TB_1.out.next h2).next (below_box (o := .cells #[.slice A10 q10.length c10, .slice A11 q11.length c11, .slice A12 q12.length c12, .slice A13 q13.length c13] 45))); have BE_2 := Lib.hid ((BE_1.out.next h2).next (below_box (o := .cells #[.slice A10 q10.length c10, .slice A11 q11.length c11, .slice A12 q12.length c12, .slice A13 q13.length c13] 45))); have S0_2 := Lib.hid ((S0_1.out.next h2).next (below_box (o := .cells #[.slice A10 q10.length c10, .slice A11 q11.length c11, .slice A12 q12.length c12, .slice A13 q13.length c13] 45))); have S1_2 := Lib.hid ((S1_1.out.next h2).next (below_box (o := .cells #[.slice A10 q10.length c10, .slice A11 q11.length c11, .slice A12 q12.length c12, .slice A13 q13.length c13] 45))); have JA_0 := Lib.hid (JB.mk (BxT.new w2 #[.slice A10 q10.length c10, .slice A11 q11.length c11, .slice A12 q12.length c12, .slice A13 q13.length c13] 45) (hi2.next (below_box (o := .cells #[.slice A10 q10.length c10, .slice A11 q11.length c11, .slice A12 q12.length c12, .slice A13 q13.length c13] 45)))); have HB2 := Lib.hid hb2; have BX : Hid (w.heap.size ≤ w2.heap.size) := Lib.hid (Nat.le_trans BE_1.out.bel.size h2.size); clear hb2 hi2; simp only [Jr.val, Jr.arr, RowV.val]; have kA := conv_s0 (c := cap0) S0_2.out; have kB := conv_s0 (c := cap1) S1_2.out; clear TB_1 BE_1 S0_1 S1_1 h2)))
    have HJ0 : Hid (PJ w ((w2.alloc (.cells #[.slice A10 q10.length c10, .slice A11 q11.length c11, .slice A12 q12.length c12, .slice A13 q13.length c13] 45)).alloc (.cells #[.string (strOfNums z0), .string (strOfNums z1), .int .i64 (-1), .string (strOfNums [])] 48)) w2.heap.size ⟨⟨A10, c10, q10⟩, ⟨A11, c11, q11⟩, ⟨A12, c12, q12⟩, ⟨A13, c13, q13⟩⟩ z0 z1 (-1) []) := Lib.hid ⟨BE_2.out.bel.trans (below_box.mono (BE_2.out.bel.size)), TB_2.out.next below_box, JA_0.out.next below_box, by have := BxT.new (w2.alloc (.cells #[.slice A10 q10.length c10, .slice A11 q11.length c11, .slice A12 q12.length c12, .slice A13 q13.length c13] 45)) #[.string (strOfNums z0), .string (strOfNums z1), .int .i64 (-1), .string (strOfNums [])] 48; rwa [World.size_alloc] at this⟩
    have HE0 := HB2
    clear TB_2 BE_2 JA_0 HB2 S0_2 S1_2 HF kA kB
    go_loopw [10] (fun a wr => ∃ (i : Nat) (jr : Jr) (z0 z1 y0 y1 y : List Int) (la : Int), a = .int .i64 i ∧ i ≤ len ∧ Hid (PJ w wr w2.heap.size jr z0 z1 la y) ∧ Hid (PR z0 z1 y0 y1 la y) ∧ Hid (jr.n0.bs = z0 ∧ jr.n1.bs = z1 ∧ jr.a0.bs = y0 ∧ jr.a1.bs = y1)) (fun a _ => len + 1 - (intOf a).toNat)
    case atStart => exact ⟨0, _, _, _, _, _, _, _, rfl, by omega, HJ0, HPR, HE0⟩
    case round =>
      clear HJ0 HPR HE0
      obtain ⟨i, jr, z0, z1, y0, y1, y, la, rfl, hi, PJ_0, HPR, HE⟩ := hrel
      obtain ⟨sq, hsq⟩ : ∃ sq : Int, (i : Int) + 1 = sq := ⟨_, rfl⟩
      have e3 : IntKind.i64.wrap ((i : Int) + 1) = sq := by rw [hsq]; exact IntWalk.i64_in _ (by omega)
      have hfew := load_few HPR.out.b0 HPR.out.b1 HPR.out.l0 HPR.out.l1
      obtain ⟨ge, gb, gm, gl, gn, hg⟩ : ∃ ge gb gm gl gs, JrnP.load z0 z1 = ⟨ge, gb, gm, gl, gs⟩ := ⟨_, _, _, _, _, rfl⟩
      rw [hg] at hfew
      simp only at hfew
      obtain ⟨nl, hnl⟩ : ∃ nl, gl.length = nl := ⟨_, rfl⟩
      obtain ⟨bv, hbv⟩ : ∃ bv, decide (0 < gn) = bv := ⟨_, rfl⟩
      obtain ⟨⟨A0, c0, q0⟩, ⟨A1, c1, q1⟩, ⟨A2, c2, q2⟩, ⟨A3, c3, q3⟩⟩ := jr
      simp only at HE
      have HLd : Hid (∀ W, Tab W → Jr.In W ⟨⟨A0, c0, q0⟩, ⟨A1, c1, q1⟩, ⟨A2, c2, q2⟩, ⟨A3, c3, q3⟩⟩ → Calls Tryd.prog 18 #[Jr.val ⟨⟨A0, c0, q0⟩, ⟨A1, c1, q1⟩, ⟨A2, c2, q2⟩, ⟨A3, c3, q3⟩⟩] W fun e w' => ∃ A' c', e = .returned (.tuple #[.agg #[.int .i64 gb, .int .i64 gm, .int .i64 0, .slice A' nl c'], .int .u64 gn, .bool bv]) ∧ LI w' A' c' nl gl ∧ Below W.heap.size W w') := Lib.hid fun W h1 h2 => load_b z0 z1 y0 y1 ⟨⟨A0, c0, q0⟩, ⟨A1, c1, q1⟩, ⟨A2, c2, q2⟩, ⟨A3, c3, q3⟩⟩ h1 h2 HE.out hg hnl hbv
      have HRL : Hid (∀ W, Calls Tryd.prog 19 #[.agg #[.string (strOfNums z0), .string (strOfNums z1), .int .i64 la, .string (strOfNums y)]] W fun e w' => ∃ A' c', e = .returned (.tuple #[.agg #[.int .i64 gb, .int .i64 gm, .int .i64 0, .slice A' nl c'], .int .u64 gn, .bool bv]) ∧ LI w' A' c' nl gl ∧ Below W.heap.size W w') := Lib.hid fun W => by
        have h0 := HPR.out.l0
        have h1 := HPR.out.l1
        have := rjLoad_any z0 z1 la (strOfNums y) W (by omega) (by omega) HPR.out.b0 HPR.out.b1
        rw [hg] at this
        refine this.mono ?_
        rintro e w' ⟨A', c', rfl, h1, h2, h3, h4⟩
        exact ⟨A', c', by simp only [hnl, hbv], ⟨hnl, by rw [← hnl]; exact h1, h2, h3.sees⟩, h4⟩
      have HN : Hid (nl ≤ 100) := Lib.hid (by omega)
      clear hg hnl hbv hfew
      obtain ⟨d0, d1, d2, d3⟩ := PJ_0.out.jb.box.bx.c4
      obtain ⟨r0, r1, r2, r3⟩ := PJ_0.out.wb.bx.c4
      simp only [RowV.val] at d0 d1 d2 d3
      go_wp2_with (first
        | (go_at_call 18; (refine (HLd.out _ PJ_0.out.tab PJ_0.out.jb.in_).mono ?_; rintro e w3 ⟨A20, c20, rfl, hl3, h3⟩; have PJ_1 := Lib.hid ((PJ_0.out.next h3).next (below_box (o := .cells #[.int .i64 gb, .int .i64 gm, .int .i64 0, .slice A20 nl c20] 24))); have ML_0 := Lib.hid (hl3.next (below_box (o := .cells #[.int .i64 gb, .int .i64 gm, .int .i64 0, .slice A20 nl c20] 24))); have MB_0 := Lib.hid (BxT.new w3 #[.int .i64 gb, .int .i64 gm, .int .i64 0, .slice A20 nl c20] 24); clear hl3; clear PJ_0 h3; obtain ⟨d0, d1, d2, d3⟩ := PJ_1.out.jb.box.bx.c4; obtain ⟨r0, r1, r2, r3⟩ := PJ_1.out.wb.bx.c4; simp only [RowV.val] at d0 d1 d2 d3))
        | (go_at_call 19; (refine (HRL.out _).mono ?_; rintro e w4 ⟨A30, c30, rfl, hl4, h4⟩; have PJ_2 := Lib.hid ((PJ_1.out.next h4).next (below_box (o := .cells #[.int .i64 gb, .int .i64 gm, .int .i64 0, .slice A30 nl c30] 34))); have ML_1 := Lib.hid ((ML_0.out.next h4).next (below_box (o := .cells #[.int .i64 gb, .int .i64 gm, .int .i64 0, .slice A30 nl c30] 34))); have MB_1 := Lib.hid ((MB_0.out.next h4).next (below_box (o := .cells #[.int .i64 gb, .int .i64 gm, .int .i64 0, .slice A30 nl c30] 34))); have RL_0 := Lib.hid (hl4.next (below_box (o := .cells #[.int .i64 gb, .int .i64 gm, .int .i64 0, .slice A30 nl c30] 34))); have RB_0 := Lib.hid (BxT.new w4 #[.int .i64 gb, .int .i64 gm, .int .i64 0, .slice A30 nl c30] 34); clear hl4; clear PJ_1 ML_0 MB_0 h4; obtain ⟨d0, d1, d2, d3⟩ := PJ_2.out.jb.box.bx.c4; obtain ⟨r0, r1, r2, r3⟩ := PJ_2.out.wb.bx.c4; simp only [RowV.val] at d0 d1 d2 d3))
        | (go_at_call 20; (refine (slots_si z0 z1 y0 y1 ⟨⟨A0, c0, q0⟩, ⟨A1, c1, q1⟩, ⟨A2, c2, q2⟩, ⟨A3, c3, q3⟩⟩ PJ_2.out.jb.in_ HE.out).mono ?_; rintro e w5 ⟨gs, cs, ⟨A63, c63, q63⟩, ⟨A64, c64, q64⟩, rfl, hs5, hb5, h5⟩; have PJ_3 := Lib.hid (PJ_2.out.next h5); have ML_2 := Lib.hid (ML_1.out.next h5); have MB_2 := Lib.hid (MB_1.out.next h5); have RL_1 := Lib.hid (RL_0.out.next h5); have RB_1 := Lib.hid (RB_0.out.next h5); have SS_0 := Lib.hid hs5; have HS5 := Lib.hid hb5; clear hb5 hs5; clear PJ_2 ML_1 MB_1 RL_0 RB_0 h5; obtain ⟨d0, d1, d2, d3⟩ := PJ_3.out.jb.box.bx.c4; obtain ⟨r0, r1, r2, r3⟩ := PJ_3.out.wb.bx.c4; simp only [RowV.val] at d0 d1 d2 d3)))
      have HA : Hid (∀ W', Below w5.heap.size w5 W' → (W'.cell? ⟨w3.heap.size, 0, none⟩ = some (.int .i64 gb) ∧ W'.cell? ⟨w3.heap.size, 1, none⟩ = some (.int .i64 gm) ∧ W'.cell? ⟨w3.heap.size, 2, none⟩ = some (.int .i64 0) ∧ W'.cell? ⟨w3.heap.size, 3, none⟩ = some (.slice A20 nl c20)) ∧ (W'.cell? ⟨w4.heap.size, 0, none⟩ = some (.int .i64 gb) ∧ W'.cell? ⟨w4.heap.size, 1, none⟩ = some (.int .i64 gm) ∧ W'.cell? ⟨w4.heap.size, 2, none⟩ = some (.int .i64 0) ∧ W'.cell? ⟨w4.heap.size, 3, none⟩ = some (.slice A30 nl c30)) ∧ (W'.cell? ⟨(w2.heap.size + 1), 0, none⟩ = some (.string (strOfNums z0)) ∧ W'.cell? ⟨(w2.heap.size + 1), 1, none⟩ = some (.string (strOfNums z1)) ∧ W'.cell? ⟨(w2.heap.size + 1), 2, none⟩ = some (.int .i64 la) ∧ W'.cell? ⟨(w2.heap.size + 1), 3, none⟩ = some (.string (strOfNums y))) ∧ LI W' A20 c20 nl gl ∧ LI W' A30 c30 nl gl ∧ SI W' gs cs ⟨A63, c63, q63⟩ ⟨A64, c64, q64⟩) := Lib.hid fun W' hW => ⟨(MB_2.out.next hW).bx.c4, (RB_1.out.next hW).bx.c4, (PJ_3.out.next hW).wb.bx.c4, ML_2.out.next hW, RL_1.out.next hW, SS_0.out.next hW⟩
      clear d0 d1 d2 d3 r0 r1 r2 r3
      refine Slot.wp_region_slots (PlyF w3.heap.size w4.heap.size (w2.heap.size + 1) gs cs nl gb gm gn la bv gl A20 A30 A63 A64 c20 c30 c63 c64 q63 q64 z0 z1 y) (by kernel_rfl) (by kernel_rfl) (by kernel_rfl) (by kernel_rfl) (fun kk vv W W' _ h hb => PlyF_next w3.heap.size w4.heap.size (w2.heap.size + 1) gs cs nl gb gm gn la bv gl A20 A30 A63 A64 c20 c30 c63 c64 q63 q64 z0 z1 y kk vv W W' h hb) ?_ ?_
      · intro ii o x W K fr ho hB hd sl hbs hK
        have HX := Lib.hid (HA.out W hB)
        match ii, ho with
        | 0, ho =>
          obtain rfl := Option.some.inj ho
          refine Slot.op_go ho rfl ?_
          exact Slot.wp_value (PlyF_r0 fr.eval _ W w3.heap.size w4.heap.size (w2.heap.size + 1) gs cs nl gb gm gn la bv gl A20 A30 A63 A64 c20 c30 c63 c64 q63 q64 z0 z1 y  rfl (Slot.eval_at ((hbs 11 (Slot.off_of (by kernel_rfl))).trans rfl)) (HX.out.1.1) (HX.out.1.2.1) (HX.out.1.2.2.1) (HX.out.1.2.2.2)) (hK _ _ (Below.refl _ _) rfl)
        | 1, ho =>
          obtain rfl := Option.some.inj ho
          refine Slot.op_go ho rfl ?_
          have e0 : x 0 = .agg #[.int .i64 gb, .int .i64 gm, .int .i64 0, .slice A20 nl c20] := hd ⟨0, .data⟩ (by simp) rfl
          have s0 : fr.eval (Operand.tmp 63) = .agg #[.int .i64 gb, .int .i64 gm, .int .i64 0, .slice A20 nl c20] := (Slot.eval_at ((sl 0 _ 63 rfl rfl).trans (congrArg some e0)))
          have ha : (#[fr.eval (Operand.tmp 63)] : Array Value) = #[.agg #[.int .i64 gb, .int .i64 gm, .int .i64 0, .slice A20 nl c20]] := by rw [s0]
          refine Slot.wp_call (f := 15) (by kernel_rfl) ha (of_at HX.out.2.2.2.1 HN.out gb gm 0) ?_
          rintro e w2' ⟨A', c', rfl, h1, h2⟩
          have hG : GV (.agg #[.int .i64 gb, .int .i64 gm, .int .i64 0, .slice A' nl c']) w2' gb gm 0 nl gl := ⟨A', c', rfl, h1⟩
          exact ⟨_, rfl, hK _ _ h2 hG⟩
        | 2, ho =>
          obtain rfl := Option.some.inj ho
          refine Slot.op_go ho rfl ?_
          exact Slot.wp_value (PlyF_r2 fr.eval _ W w3.heap.size w4.heap.size (w2.heap.size + 1) gs cs nl gb gm gn la bv gl A20 A30 A63 A64 c20 c30 c63 c64 q63 q64 z0 z1 y  rfl (Slot.eval_at ((hbs 14 (Slot.off_of (by kernel_rfl))).trans rfl)) (HX.out.2.1.1) (HX.out.2.1.2.1) (HX.out.2.1.2.2.1) (HX.out.2.1.2.2.2)) (hK _ _ (Below.refl _ _) rfl)
        | 3, ho =>
          obtain rfl := Option.some.inj ho
          refine Slot.op_go ho rfl ?_
          obtain ⟨A85, c85, e1, hA85⟩ := (hd ⟨1, .data⟩ (by simp) rfl : GV (x 1) W gb gm 0 nl gl)
          have e2 : x 2 = .agg #[.int .i64 gb, .int .i64 gm, .int .i64 0, .slice A30 nl c30] := hd ⟨2, .data⟩ (by simp) rfl
          have s0 : fr.eval (Operand.tmp 64) = .agg #[.int .i64 gb, .int .i64 gm, .int .i64 0, .slice A85 nl c85] := (Slot.eval_at ((sl 1 _ 64 rfl rfl).trans (congrArg some e1)))
          have s1 : fr.eval (Operand.tmp 65) = .agg #[.int .i64 gb, .int .i64 gm, .int .i64 0, .slice A30 nl c30] := (Slot.eval_at ((sl 2 _ 65 rfl rfl).trans (congrArg some e2)))
          have ha : (#[fr.eval (Operand.tmp 64), fr.eval (Operand.tmp 65)] : Array Value) = #[.agg #[.int .i64 gb, .int .i64 gm, .int .i64 0, .slice A85 nl c85], .agg #[.int .i64 gb, .int .i64 gm, .int .i64 0, .slice A30 nl c30]] := by rw [s0, s1]
          refine Slot.wp_call (f := 16) (by kernel_rfl) ha (same_at hA85 HX.out.2.2.2.2.1 HN.out gb gm 0) ?_
          rintro e w2 ⟨rfl, h1⟩
          exact ⟨_, rfl, hK _ _ h1 rfl⟩
        | 4, ho =>
          obtain rfl := Option.some.inj ho
          refine Slot.op_go ho rfl ?_
          have e3 : x 3 = .bool true := hd ⟨3, .data⟩ (by simp) rfl
          exact Slot.wp_value (PlyF_r4 fr.eval _ W w3.heap.size w4.heap.size (w2.heap.size + 1) gs cs nl gb gm gn la bv gl A20 A30 A63 A64 c20 c30 c63 c64 q63 q64 z0 z1 y  rfl (Slot.eval_at ((sl 3 _ 66 rfl rfl).trans (congrArg some e3)))) (hK _ _ (Below.refl _ _) rfl)
        | 5, ho =>
          obtain rfl := Option.some.inj ho
          refine Slot.op_go ho rfl ?_
          have e4 : x 4 = .bool false := hd ⟨4, .data⟩ (by simp) rfl
          exact Slot.wp_value (Slot.run_move rfl (Slot.eval_at ((sl 4 _ 67 rfl rfl).trans (congrArg some e4)))) (hK _ _ (Below.refl _ _) rfl)
        | 6, ho =>
          obtain rfl := Option.some.inj ho
          have e5 : x 5 = .bool false := hd ⟨5, .guard⟩ (by simp) rfl
          refine Slot.op_if ho rfl rfl rfl ((sl 5 _ 68 rfl rfl).trans (congrArg some e5)) ?_
          exact Slot.wp_value (Slot.run_move rfl (Slot.eval_at ((hbs 12 (Slot.off_of (by kernel_rfl))).trans rfl))) (hK _ _ (Below.refl _ _) rfl)
        | 7, ho =>
          obtain rfl := Option.some.inj ho
          have e5 : x 5 = .bool false := hd ⟨5, .guard⟩ (by simp) rfl
          refine Slot.op_if ho rfl rfl rfl ((sl 5 _ 68 rfl rfl).trans (congrArg some e5)) ?_
          exact Slot.wp_value (Slot.run_move rfl (Slot.eval_at ((hbs 15 (Slot.off_of (by kernel_rfl))).trans rfl))) (hK _ _ (Below.refl _ _) rfl)
        | 8, ho =>
          obtain rfl := Option.some.inj ho
          have e5 : x 5 = .bool false := hd ⟨5, .guard⟩ (by simp) rfl
          refine Slot.op_if ho rfl rfl rfl ((sl 5 _ 68 rfl rfl).trans (congrArg some e5)) ?_
          have e6 : x 6 = .int .u64 gn := hd ⟨6, .data⟩ (by simp) rfl
          have e7 : x 7 = .int .u64 gn := hd ⟨7, .data⟩ (by simp) rfl
          exact Slot.wp_value (PlyF_r8 fr.eval _ W w3.heap.size w4.heap.size (w2.heap.size + 1) gs cs nl gb gm gn la bv gl A20 A30 A63 A64 c20 c30 c63 c64 q63 q64 z0 z1 y  rfl (Slot.eval_at ((sl 6 _ 69 rfl rfl).trans (congrArg some e6))) (Slot.eval_at ((sl 7 _ 70 rfl rfl).trans (congrArg some e7)))) (hK _ _ (Below.refl _ _) rfl)
        | 9, ho =>
          obtain rfl := Option.some.inj ho
          refine Slot.op_go ho rfl ?_
          have e8 : x 8 = .bool false := hd ⟨8, .data⟩ (by simp) rfl
          have e5 : x 5 = .bool false := hd ⟨5, .data⟩ (by simp) rfl
          exact Slot.wp_value (Slot.run_pick rfl (Slot.eval_at ((sl 5 _ 68 rfl rfl).trans (congrArg some e5))) ((if_neg Bool.false_ne_true).trans (Slot.eval_at ((sl 8 _ 71 rfl rfl).trans (congrArg some e8))))) (hK _ _ (Below.refl _ _) rfl)
        | 10, ho =>
          obtain rfl := Option.some.inj ho
          refine Slot.op_go ho rfl ?_
          have e9 : x 9 = .bool false := hd ⟨9, .data⟩ (by simp) rfl
          exact Slot.wp_value (Slot.run_move rfl (Slot.eval_at ((sl 9 _ 72 rfl rfl).trans (congrArg some e9)))) (hK _ _ (Below.refl _ _) rfl)
        | 11, ho =>
          obtain rfl := Option.some.inj ho
          have e10 : x 10 = .bool false := hd ⟨10, .guard⟩ (by simp) rfl
          refine Slot.op_if ho rfl rfl rfl ((sl 10 _ 73 rfl rfl).trans (congrArg some e10)) ?_
          exact Slot.wp_value (Slot.run_move rfl (Slot.eval_at ((hbs 13 (Slot.off_of (by kernel_rfl))).trans rfl))) (hK _ _ (Below.refl _ _) rfl)
        | 12, ho =>
          obtain rfl := Option.some.inj ho
          have e10 : x 10 = .bool false := hd ⟨10, .guard⟩ (by simp) rfl
          refine Slot.op_if ho rfl rfl rfl ((sl 10 _ 73 rfl rfl).trans (congrArg some e10)) ?_
          exact Slot.wp_value (Slot.run_move rfl (Slot.eval_at ((hbs 16 (Slot.off_of (by kernel_rfl))).trans rfl))) (hK _ _ (Below.refl _ _) rfl)
        | 13, ho =>
          obtain rfl := Option.some.inj ho
          have e10 : x 10 = .bool false := hd ⟨10, .guard⟩ (by simp) rfl
          refine Slot.op_if ho rfl rfl rfl ((sl 10 _ 73 rfl rfl).trans (congrArg some e10)) ?_
          have e11 : x 11 = .bool bv := hd ⟨11, .data⟩ (by simp) rfl
          have e12 : x 12 = .bool bv := hd ⟨12, .data⟩ (by simp) rfl
          exact Slot.wp_value (PlyF_r13 fr.eval _ W w3.heap.size w4.heap.size (w2.heap.size + 1) gs cs nl gb gm gn la bv gl A20 A30 A63 A64 c20 c30 c63 c64 q63 q64 z0 z1 y  rfl (Slot.eval_at ((sl 11 _ 74 rfl rfl).trans (congrArg some e11))) (Slot.eval_at ((sl 12 _ 75 rfl rfl).trans (congrArg some e12)))) (hK _ _ (Below.refl _ _) rfl)
        | 14, ho =>
          obtain rfl := Option.some.inj ho
          refine Slot.op_go ho rfl ?_
          have e13 : x 13 = .bool false := hd ⟨13, .data⟩ (by simp) rfl
          have e10 : x 10 = .bool false := hd ⟨10, .data⟩ (by simp) rfl
          exact Slot.wp_value (Slot.run_pick rfl (Slot.eval_at ((sl 10 _ 73 rfl rfl).trans (congrArg some e10))) ((if_neg Bool.false_ne_true).trans (Slot.eval_at ((sl 13 _ 76 rfl rfl).trans (congrArg some e13))))) (hK _ _ (Below.refl _ _) rfl)
        | 15, ho =>
          obtain rfl := Option.some.inj ho
          refine Slot.op_go ho rfl ?_
          have e14 : x 14 = .bool false := hd ⟨14, .data⟩ (by simp) rfl
          exact Slot.wp_value (Slot.run_move rfl (Slot.eval_at ((sl 14 _ 77 rfl rfl).trans (congrArg some e14)))) (hK _ _ (Below.refl _ _) rfl)
        | 16, ho =>
          obtain rfl := Option.some.inj ho
          have e15 : x 15 = .bool false := hd ⟨15, .guard⟩ (by simp) rfl
          refine Slot.op_if ho rfl rfl rfl ((sl 15 _ 78 rfl rfl).trans (congrArg some e15)) ?_
          exact Slot.wp_value (Slot.run_move rfl (Slot.eval_at ((hbs 17 (Slot.off_of (by kernel_rfl))).trans rfl))) (hK _ _ (Below.refl _ _) rfl)
        | 17, ho =>
          obtain rfl := Option.some.inj ho
          have e15 : x 15 = .bool false := hd ⟨15, .guard⟩ (by simp) rfl
          refine Slot.op_if ho rfl rfl rfl ((sl 15 _ 78 rfl rfl).trans (congrArg some e15)) ?_
          have e16 : x 16 = .slice (some ⟨gs, 0, none⟩) 2 cs := hd ⟨16, .data⟩ (by simp) rfl
          exact Slot.wp_value (PlyF_r17 fr.eval _ W w3.heap.size w4.heap.size (w2.heap.size + 1) gs cs nl gb gm gn la bv gl A20 A30 A63 A64 c20 c30 c63 c64 q63 q64 z0 z1 y  rfl (Slot.eval_at ((sl 16 _ 79 rfl rfl).trans (congrArg some e16)))) (hK _ _ (Below.refl _ _) rfl)
        | 18, ho =>
          obtain rfl := Option.some.inj ho
          have e15 : x 15 = .bool false := hd ⟨15, .guard⟩ (by simp) rfl
          refine Slot.op_if ho rfl rfl rfl ((sl 15 _ 78 rfl rfl).trans (congrArg some e15)) ?_
          have e17 : x 17 = .int .i64 2 := hd ⟨17, .data⟩ (by simp) rfl
          exact Slot.wp_value (PlyF_r18 fr.eval _ W w3.heap.size w4.heap.size (w2.heap.size + 1) gs cs nl gb gm gn la bv gl A20 A30 A63 A64 c20 c30 c63 c64 q63 q64 z0 z1 y  rfl (Slot.eval_at ((sl 17 _ 80 rfl rfl).trans (congrArg some e17))) rfl) (hK _ _ (Below.refl _ _) rfl)
        | 19, ho =>
          obtain rfl := Option.some.inj ho
          refine Slot.op_go ho rfl ?_
          have e18 : x 18 = .bool false := hd ⟨18, .data⟩ (by simp) rfl
          have e15 : x 15 = .bool false := hd ⟨15, .data⟩ (by simp) rfl
          exact Slot.wp_value (Slot.run_pick rfl (Slot.eval_at ((sl 15 _ 78 rfl rfl).trans (congrArg some e15))) ((if_neg Bool.false_ne_true).trans (Slot.eval_at ((sl 18 _ 81 rfl rfl).trans (congrArg some e18))))) (hK _ _ (Below.refl _ _) rfl)
        | 20, ho =>
          obtain rfl := Option.some.inj ho
          refine Slot.op_go ho rfl ?_
          have e19 : x 19 = .bool false := hd ⟨19, .data⟩ (by simp) rfl
          exact Slot.wp_value (Slot.run_move rfl (Slot.eval_at ((sl 19 _ 82 rfl rfl).trans (congrArg some e19)))) (hK _ _ (Below.refl _ _) rfl)
        | 21, ho =>
          obtain rfl := Option.some.inj ho
          have e20 : x 20 = .bool false := hd ⟨20, .guard⟩ (by simp) rfl
          refine Slot.op_if ho rfl rfl rfl ((sl 20 _ 83 rfl rfl).trans (congrArg some e20)) ?_
          exact Slot.wp_value (Slot.run_move rfl (Slot.eval_at ((hbs 17 (Slot.off_of (by kernel_rfl))).trans rfl))) (hK _ _ (Below.refl _ _) rfl)
        | 22, ho =>
          obtain rfl := Option.some.inj ho
          have e20 : x 20 = .bool false := hd ⟨20, .guard⟩ (by simp) rfl
          refine Slot.op_if ho rfl rfl rfl ((sl 20 _ 83 rfl rfl).trans (congrArg some e20)) ?_
          have e21 : x 21 = .slice (some ⟨gs, 0, none⟩) 2 cs := hd ⟨21, .data⟩ (by simp) rfl
          exact Slot.wp_value (PlyF_r22 fr.eval _ W w3.heap.size w4.heap.size (w2.heap.size + 1) gs cs nl gb gm gn la bv gl A20 A30 A63 A64 c20 c30 c63 c64 q63 q64 z0 z1 y  rfl (Slot.eval_at ((sl 21 _ 84 rfl rfl).trans (congrArg some e21))) rfl) (hK _ _ (Below.refl _ _) rfl)
        | 23, ho =>
          obtain rfl := Option.some.inj ho
          have e20 : x 20 = .bool false := hd ⟨20, .guard⟩ (by simp) rfl
          refine Slot.op_if ho rfl rfl rfl ((sl 20 _ 83 rfl rfl).trans (congrArg some e20)) ?_
          have e22 : x 22 = .pointer (some ⟨gs, 0, none⟩) := hd ⟨22, .data⟩ (by simp) rfl
          exact Slot.wp_value (PlyF_r23 fr.eval _ W w3.heap.size w4.heap.size (w2.heap.size + 1) gs cs nl gb gm gn la bv gl A20 A30 A63 A64 c20 c30 c63 c64 q63 q64 z0 z1 y  rfl (Slot.eval_at ((sl 22 _ 85 rfl rfl).trans (congrArg some e22))) (HX.out.2.2.2.2.2.h0)) (hK _ _ (Below.refl _ _) rfl)
        | 24, ho =>
          obtain rfl := Option.some.inj ho
          have e20 : x 20 = .bool false := hd ⟨20, .guard⟩ (by simp) rfl
          refine Slot.op_if ho rfl rfl rfl ((sl 20 _ 83 rfl rfl).trans (congrArg some e20)) ?_
          have e23 : x 23 = .slice A63 q63.length c63 := hd ⟨23, .data⟩ (by simp) rfl
          exact Slot.wp_value (Slot.run_convert rfl (Slot.eval_at ((sl 23 _ 86 rfl rfl).trans (congrArg some e23))) (conv_row0 HX.out.2.2.2.2.2.t0 HS5.out.1)) (hK _ _ (Below.refl _ _) rfl)
        | 25, ho =>
          obtain rfl := Option.some.inj ho
          have e20 : x 20 = .bool false := hd ⟨20, .guard⟩ (by simp) rfl
          refine Slot.op_if ho rfl rfl rfl ((sl 20 _ 83 rfl rfl).trans (congrArg some e20)) ?_
          exact Slot.wp_value (PlyF_r25 fr.eval _ W w3.heap.size w4.heap.size (w2.heap.size + 1) gs cs nl gb gm gn la bv gl A20 A30 A63 A64 c20 c30 c63 c64 q63 q64 z0 z1 y  rfl (Slot.eval_at ((hbs 9 (Slot.off_of (by kernel_rfl))).trans rfl))) (hK _ _ (Below.refl _ _) rfl)
        | 26, ho =>
          obtain rfl := Option.some.inj ho
          have e20 : x 20 = .bool false := hd ⟨20, .guard⟩ (by simp) rfl
          refine Slot.op_if ho rfl rfl rfl ((sl 20 _ 83 rfl rfl).trans (congrArg some e20)) ?_
          have e25 : x 25 = .pointer (some ⟨(w2.heap.size + 1), 0, none⟩) := hd ⟨25, .data⟩ (by simp) rfl
          exact Slot.wp_value (PlyF_r26 fr.eval _ W w3.heap.size w4.heap.size (w2.heap.size + 1) gs cs nl gb gm gn la bv gl A20 A30 A63 A64 c20 c30 c63 c64 q63 q64 z0 z1 y  rfl (Slot.eval_at ((sl 25 _ 88 rfl rfl).trans (congrArg some e25))) (HX.out.2.2.1.1)) (hK _ _ (Below.refl _ _) rfl)
        | 27, ho =>
          obtain rfl := Option.some.inj ho
          have e20 : x 20 = .bool false := hd ⟨20, .guard⟩ (by simp) rfl
          refine Slot.op_if ho rfl rfl rfl ((sl 20 _ 83 rfl rfl).trans (congrArg some e20)) ?_
          have e24 : x 24 = .string (strOfNums z0) := hd ⟨24, .data⟩ (by simp) rfl
          have e26 : x 26 = .string (strOfNums z0) := hd ⟨26, .data⟩ (by simp) rfl
          exact Slot.wp_value (PlyF_r27 fr.eval _ W w3.heap.size w4.heap.size (w2.heap.size + 1) gs cs nl gb gm gn la bv gl A20 A30 A63 A64 c20 c30 c63 c64 q63 q64 z0 z1 y  rfl (Slot.eval_at ((sl 24 _ 87 rfl rfl).trans (congrArg some e24))) (Slot.eval_at ((sl 26 _ 89 rfl rfl).trans (congrArg some e26)))) (hK _ _ (Below.refl _ _) rfl)
        | 28, ho =>
          obtain rfl := Option.some.inj ho
          refine Slot.op_go ho rfl ?_
          have e27 : x 27 = .bool false := hd ⟨27, .data⟩ (by simp) rfl
          have e20 : x 20 = .bool false := hd ⟨20, .data⟩ (by simp) rfl
          exact Slot.wp_value (Slot.run_pick rfl (Slot.eval_at ((sl 20 _ 83 rfl rfl).trans (congrArg some e20))) ((if_neg Bool.false_ne_true).trans (Slot.eval_at ((sl 27 _ 90 rfl rfl).trans (congrArg some e27))))) (hK _ _ (Below.refl _ _) rfl)
        | 29, ho =>
          obtain rfl := Option.some.inj ho
          refine Slot.op_go ho rfl ?_
          have e28 : x 28 = .bool false := hd ⟨28, .data⟩ (by simp) rfl
          exact Slot.wp_value (Slot.run_move rfl (Slot.eval_at ((sl 28 _ 91 rfl rfl).trans (congrArg some e28)))) (hK _ _ (Below.refl _ _) rfl)
        | 30, ho =>
          obtain rfl := Option.some.inj ho
          have e29 : x 29 = .bool false := hd ⟨29, .guard⟩ (by simp) rfl
          refine Slot.op_if ho rfl rfl rfl ((sl 29 _ 92 rfl rfl).trans (congrArg some e29)) ?_
          exact Slot.wp_value (Slot.run_move rfl (Slot.eval_at ((hbs 17 (Slot.off_of (by kernel_rfl))).trans rfl))) (hK _ _ (Below.refl _ _) rfl)
        | 31, ho =>
          obtain rfl := Option.some.inj ho
          have e29 : x 29 = .bool false := hd ⟨29, .guard⟩ (by simp) rfl
          refine Slot.op_if ho rfl rfl rfl ((sl 29 _ 92 rfl rfl).trans (congrArg some e29)) ?_
          have e30 : x 30 = .slice (some ⟨gs, 0, none⟩) 2 cs := hd ⟨30, .data⟩ (by simp) rfl
          exact Slot.wp_value (PlyF_r31 fr.eval _ W w3.heap.size w4.heap.size (w2.heap.size + 1) gs cs nl gb gm gn la bv gl A20 A30 A63 A64 c20 c30 c63 c64 q63 q64 z0 z1 y  rfl (Slot.eval_at ((sl 30 _ 93 rfl rfl).trans (congrArg some e30))) rfl) (hK _ _ (Below.refl _ _) rfl)
        | 32, ho =>
          obtain rfl := Option.some.inj ho
          have e29 : x 29 = .bool false := hd ⟨29, .guard⟩ (by simp) rfl
          refine Slot.op_if ho rfl rfl rfl ((sl 29 _ 92 rfl rfl).trans (congrArg some e29)) ?_
          have e31 : x 31 = .pointer (some ⟨gs, 1, none⟩) := hd ⟨31, .data⟩ (by simp) rfl
          exact Slot.wp_value (PlyF_r32 fr.eval _ W w3.heap.size w4.heap.size (w2.heap.size + 1) gs cs nl gb gm gn la bv gl A20 A30 A63 A64 c20 c30 c63 c64 q63 q64 z0 z1 y  rfl (Slot.eval_at ((sl 31 _ 94 rfl rfl).trans (congrArg some e31))) (HX.out.2.2.2.2.2.h1)) (hK _ _ (Below.refl _ _) rfl)
        | 33, ho =>
          obtain rfl := Option.some.inj ho
          have e29 : x 29 = .bool false := hd ⟨29, .guard⟩ (by simp) rfl
          refine Slot.op_if ho rfl rfl rfl ((sl 29 _ 92 rfl rfl).trans (congrArg some e29)) ?_
          have e32 : x 32 = .slice A64 q64.length c64 := hd ⟨32, .data⟩ (by simp) rfl
          exact Slot.wp_value (Slot.run_convert rfl (Slot.eval_at ((sl 32 _ 95 rfl rfl).trans (congrArg some e32))) (conv_row0 HX.out.2.2.2.2.2.t1 HS5.out.2)) (hK _ _ (Below.refl _ _) rfl)
        | 34, ho =>
          obtain rfl := Option.some.inj ho
          have e29 : x 29 = .bool false := hd ⟨29, .guard⟩ (by simp) rfl
          refine Slot.op_if ho rfl rfl rfl ((sl 29 _ 92 rfl rfl).trans (congrArg some e29)) ?_
          exact Slot.wp_value (PlyF_r34 fr.eval _ W w3.heap.size w4.heap.size (w2.heap.size + 1) gs cs nl gb gm gn la bv gl A20 A30 A63 A64 c20 c30 c63 c64 q63 q64 z0 z1 y  rfl (Slot.eval_at ((hbs 9 (Slot.off_of (by kernel_rfl))).trans rfl))) (hK _ _ (Below.refl _ _) rfl)
        | 35, ho =>
          obtain rfl := Option.some.inj ho
          have e29 : x 29 = .bool false := hd ⟨29, .guard⟩ (by simp) rfl
          refine Slot.op_if ho rfl rfl rfl ((sl 29 _ 92 rfl rfl).trans (congrArg some e29)) ?_
          have e34 : x 34 = .pointer (some ⟨(w2.heap.size + 1), 1, none⟩) := hd ⟨34, .data⟩ (by simp) rfl
          exact Slot.wp_value (PlyF_r35 fr.eval _ W w3.heap.size w4.heap.size (w2.heap.size + 1) gs cs nl gb gm gn la bv gl A20 A30 A63 A64 c20 c30 c63 c64 q63 q64 z0 z1 y  rfl (Slot.eval_at ((sl 34 _ 97 rfl rfl).trans (congrArg some e34))) (HX.out.2.2.1.2.1)) (hK _ _ (Below.refl _ _) rfl)
        | 36, ho =>
          obtain rfl := Option.some.inj ho
          have e29 : x 29 = .bool false := hd ⟨29, .guard⟩ (by simp) rfl
          refine Slot.op_if ho rfl rfl rfl ((sl 29 _ 92 rfl rfl).trans (congrArg some e29)) ?_
          have e33 : x 33 = .string (strOfNums z1) := hd ⟨33, .data⟩ (by simp) rfl
          have e35 : x 35 = .string (strOfNums z1) := hd ⟨35, .data⟩ (by simp) rfl
          exact Slot.wp_value (PlyF_r36 fr.eval _ W w3.heap.size w4.heap.size (w2.heap.size + 1) gs cs nl gb gm gn la bv gl A20 A30 A63 A64 c20 c30 c63 c64 q63 q64 z0 z1 y  rfl (Slot.eval_at ((sl 33 _ 96 rfl rfl).trans (congrArg some e33))) (Slot.eval_at ((sl 35 _ 98 rfl rfl).trans (congrArg some e35)))) (hK _ _ (Below.refl _ _) rfl)
        | 37, ho =>
          obtain rfl := Option.some.inj ho
          refine Slot.op_go ho rfl ?_
          have e36 : x 36 = .bool false := hd ⟨36, .data⟩ (by simp) rfl
          have e29 : x 29 = .bool false := hd ⟨29, .data⟩ (by simp) rfl
          exact Slot.wp_value (Slot.run_pick rfl (Slot.eval_at ((sl 29 _ 92 rfl rfl).trans (congrArg some e29))) ((if_neg Bool.false_ne_true).trans (Slot.eval_at ((sl 36 _ 99 rfl rfl).trans (congrArg some e36))))) (hK _ _ (Below.refl _ _) rfl)
        | n + 38, ho => simp at ho
      · intro x W hB hx
        have e37 : x 37 = .bool false := hx 37 (by simp)
        simp only [Inv.fill, Act.put, List.setIfInBounds_toArray, List.set_cons_zero, List.set_cons_succ, e37]
        clear hx e37
        have PJ_4 := Lib.hid (PJ_3.out.next hB)
        have ML_3 := Lib.hid (ML_2.out.next hB)
        have MB_3 := Lib.hid (MB_2.out.next hB)
        have RL_2 := Lib.hid (RL_1.out.next hB)
        have RB_2 := Lib.hid (RB_1.out.next hB)
        have SS_1 := Lib.hid (SS_0.out.next hB)
        clear PJ_3 ML_2 MB_2 RL_1 RB_1 SS_0
        clear HA hB
        by_cases hlt : i < len
        · have hiz : i < ls.length := by rw [HL.out]; exact hlt
          obtain ⟨b1, p1, rfl, hrow⟩ := act_row HS.out i ls[i] (List.getElem?_eq_getElem hiz)
          have hgi := HI.out ls[i] (List.getElem_mem hiz)
          generalize ls[i] = g at hrow hgi
          have hli := Lg.li hgi.1
          have hnb := bounds_i64 hgi.2
          obtain ⟨t, nn, b, m, k, A, c, l⟩ := g
          simp only at hrow hli hnb
          obtain ⟨n, hn⟩ : ∃ n, l.length = n := ⟨_, rfl⟩
          rw [hn] at hrow hli
          have i1 : (i : Int) < (len : Int) := by omega
          have i2 : ¬ i = len := by omega
          have i3 : ¬ (i : Int) = (len : Int) := by omega
          have RO_0 := Lib.hid (hrow.next PJ_4.out.bel)
          have LX_0 := Lib.hid (hli.next PJ_4.out.bel)
          obtain ⟨x0, x1, x2, x3⟩ := And.intro RO_0.out.h0 (And.intro RO_0.out.h1 (And.intro RO_0.out.h2 RO_0.out.h3))
          have xt := RO_0.out.t
          have hrow0 := Lib.hid hrow
          have hli0 := Lib.hid hli
          clear hrow hli hgi hiz
          by_cases h80 : n ≤ 80
          · have f1 : decide (n ≤ 80) = true := decide_eq_true h80
            rcases t with _ | _
            · have HWr : Hid (∀ W, Tab W → Jr.In W ⟨⟨A0, c0, q0⟩, ⟨A1, c1, q1⟩, ⟨A2, c2, q2⟩, ⟨A3, c3, q3⟩⟩ → LI W A c n l → Calls Tryd.prog 23 #[Jr.val ⟨⟨A0, c0, q0⟩, ⟨A1, c1, q1⟩, ⟨A2, c2, q2⟩, ⟨A3, c3, q3⟩⟩, .agg #[.int .i64 b, .int .i64 m, .int .i64 k, .slice A n c]] W (JP W (wr0 z0 z1 b m l) (wr1 z0 z1 b m l) z0 z1)) := Lib.hid fun W h1 h2 h4 => write_li z0 z1 y0 y1 ⟨⟨A0, c0, q0⟩, ⟨A1, c1, q1⟩, ⟨A2, c2, q2⟩, ⟨A3, c3, q3⟩⟩ h1 h2 HE.out h4 (by omega) b m k
              have HRW : Hid (∀ A' c' W, LI W A' c' n l → Calls Tryd.prog 24 #[.agg #[.string (strOfNums z0), .string (strOfNums z1), .int .i64 la, .string (strOfNums y)], .agg #[.int .i64 b, .int .i64 m, .int .i64 k, .slice A' n c']] W fun e w' => e = .returned (.agg #[.string (strOfNums (wr0 z0 z1 b m l)), .string (strOfNums (wr1 z0 z1 b m l)), .int .i64 (nla z0 z1), .string (strOfNums (nwas z0 z1))]) ∧ Below W.heap.size W w') := Lib.hid fun A' c' W h => rwrite HPR.out h (by omega) b m k
              have HPN := Lib.hid (HPR.out.write b m l (by omega))
              have HN1 : Hid (n ≤ 100) := Lib.hid (by omega)
              clear h80 hn
              generalize wr0 z0 z1 b m l = v0 at *
              generalize wr1 z0 z1 b m l = v1 at *
              generalize nla z0 z1 = lb at *
              generalize nwas z0 z1 = vy at *
              go_wp2_with (first
                | (go_at_call 10; (refine (few_at LX_0.out b m k).mono ?_; rintro e w6 ⟨rfl, h6⟩; have PJ_5 := Lib.hid (PJ_4.out.next h6); have RO_1 := Lib.hid (RO_0.out.next h6); have LX_1 := Lib.hid (LX_0.out.next h6); rw [f1]; clear PJ_4 RO_0 LX_0 h6; obtain ⟨x0, x1, x2, x3⟩ := And.intro RO_1.out.h0 (And.intro RO_1.out.h1 (And.intro RO_1.out.h2 RO_1.out.h3)); have xt := RO_1.out.t)))
              have HA : Hid (∀ W', Below w6.heap.size w6 W' → (W'.cell? ⟨w2.heap.size, 0, none⟩ = some (.slice A0 q0.length c0) ∧ W'.cell? ⟨w2.heap.size, 1, none⟩ = some (.slice A1 q1.length c1) ∧ W'.cell? ⟨w2.heap.size, 2, none⟩ = some (.slice A2 q2.length c2) ∧ W'.cell? ⟨w2.heap.size, 3, none⟩ = some (.slice A3 q3.length c3)) ∧ (W'.cell? ⟨b1, p1 + i * 6 + 2, none⟩ = some (.int .i64 b) ∧ W'.cell? ⟨b1, p1 + i * 6 + 2 + 1, none⟩ = some (.int .i64 m) ∧ W'.cell? ⟨b1, p1 + i * 6 + 2 + 2, none⟩ = some (.int .i64 k) ∧ W'.cell? ⟨b1, p1 + i * 6 + 2 + 3, none⟩ = some (.slice A n c)) ∧ W'.cell? ⟨b1, p1 + i * 6 + 1, none⟩ = some (.int .i64 nn) ∧ Tab W' ∧ Jr.In W' ⟨⟨A0, c0, q0⟩, ⟨A1, c1, q1⟩, ⟨A2, c2, q2⟩, ⟨A3, c3, q3⟩⟩ ∧ LI W' A c n l) := Lib.hid fun W' hW => ⟨(PJ_5.out.next hW).jb.box.bx.c4, ⟨(RO_1.out.next hW).h0, (RO_1.out.next hW).h1, (RO_1.out.next hW).h2, (RO_1.out.next hW).h3⟩, (RO_1.out.next hW).n, (PJ_5.out.next hW).tab, (PJ_5.out.next hW).jb.in_, LX_1.out.next hW⟩
              refine Slot.wp_region_slotst 7 (PlyG1 w2.heap.size b1 p1 i len cap n b m k nn la lb l A A0 A1 A2 A3 c c0 c1 c2 c3 q0 q1 q2 q3 z0 z1 y0 y1 v0 v1 y vy) (by kernel_rfl) (by kernel_rfl) (by kernel_rfl) (by kernel_rfl) (PlyG1_next w2.heap.size b1 p1 i len cap n b m k nn la lb l A A0 A1 A2 A3 c c0 c1 c2 c3 q0 q1 q2 q3 z0 z1 y0 y1 v0 v1 y vy) ?_ ?_
              · intro ii o x W K fr hi ho hB hd sl hbs hK
                have HX := Lib.hid (HA.out W hB)
                match ii, ho with
                | 0, ho =>
                  obtain rfl := Option.some.inj ho
                  refine Slot.op_go ho rfl ?_
                  exact Slot.wp_value (PlyG1_r0 fr.eval _ W w2.heap.size b1 p1 i len cap n b m k nn la lb l A A0 A1 A2 A3 c c0 c1 c2 c3 q0 q1 q2 q3 z0 z1 y0 y1 v0 v1 y vy  rfl (Slot.eval_at ((hbs 8 (Slot.off_of (by kernel_rfl))).trans rfl)) (HX.out.1.1) (HX.out.1.2.1) (HX.out.1.2.2.1) (HX.out.1.2.2.2)) (hK _ _ (Below.refl _ _) rfl)
                | 1, ho =>
                  obtain rfl := Option.some.inj ho
                  refine Slot.op_go ho rfl ?_
                  exact Slot.wp_value (Slot.run_move rfl (Slot.eval_at ((hbs 2 (Slot.off_of (by kernel_rfl))).trans rfl))) (hK _ _ (Below.refl _ _) rfl)
                | 2, ho =>
                  obtain rfl := Option.some.inj ho
                  refine Slot.op_go ho rfl ?_
                  exact Slot.wp_value (Slot.run_move rfl (Slot.eval_at ((hbs 10 (Slot.off_of (by kernel_rfl))).trans rfl))) (hK _ _ (Below.refl _ _) rfl)
                | 3, ho =>
                  obtain rfl := Option.some.inj ho
                  refine Slot.op_go ho rfl ?_
                  have e1 : x 1 = .slice (some ⟨b1, p1, none⟩) len cap := hd ⟨1, .data⟩ (by simp) rfl
                  have e2 : x 2 = .int .i64 ↑i := hd ⟨2, .data⟩ (by simp) rfl
                  exact Slot.wp_value (PlyG1_r3 fr.eval _ W w2.heap.size b1 p1 i len cap n b m k nn la lb l A A0 A1 A2 A3 c c0 c1 c2 c3 q0 q1 q2 q3 z0 z1 y0 y1 v0 v1 y vy  rfl (Slot.eval_at ((sl 1 _ 133 rfl rfl).trans (congrArg some e1))) (Slot.eval_at ((sl 2 _ 134 rfl rfl).trans (congrArg some e2))) (i1)) (hK _ _ (Below.refl _ _) rfl)
                | 4, ho =>
                  obtain rfl := Option.some.inj ho
                  refine Slot.op_go ho rfl ?_
                  have e3 : x 3 = .pointer (some ⟨b1, p1 + i * 6, none⟩) := hd ⟨3, .data⟩ (by simp) rfl
                  exact Slot.wp_value (PlyG1_r4 fr.eval _ W w2.heap.size b1 p1 i len cap n b m k nn la lb l A A0 A1 A2 A3 c c0 c1 c2 c3 q0 q1 q2 q3 z0 z1 y0 y1 v0 v1 y vy  rfl (Slot.eval_at ((sl 3 _ 135 rfl rfl).trans (congrArg some e3)))) (hK _ _ (Below.refl _ _) rfl)
                | 5, ho =>
                  obtain rfl := Option.some.inj ho
                  refine Slot.op_go ho rfl ?_
                  have e4 : x 4 = .pointer (some ⟨b1, p1 + i * 6 + 2, none⟩) := hd ⟨4, .data⟩ (by simp) rfl
                  exact Slot.wp_value (PlyG1_r5 fr.eval _ W w2.heap.size b1 p1 i len cap n b m k nn la lb l A A0 A1 A2 A3 c c0 c1 c2 c3 q0 q1 q2 q3 z0 z1 y0 y1 v0 v1 y vy  rfl (Slot.eval_at ((sl 4 _ 136 rfl rfl).trans (congrArg some e4))) (HX.out.2.1.1) (HX.out.2.1.2.1) (HX.out.2.1.2.2.1) (HX.out.2.1.2.2.2)) (hK _ _ (Below.refl _ _) rfl)
                | 6, ho =>
                  obtain rfl := Option.some.inj ho
                  refine Slot.op_go ho rfl ?_
                  have e0 : x 0 = .agg #[.slice A0 q0.length c0, .slice A1 q1.length c1, .slice A2 q2.length c2, .slice A3 q3.length c3] := hd ⟨0, .data⟩ (by simp) rfl
                  have e5 : x 5 = .agg #[.int .i64 b, .int .i64 m, .int .i64 k, .slice A n c] := hd ⟨5, .data⟩ (by simp) rfl
                  have s0 : fr.eval (Operand.tmp 132) = .agg #[.slice A0 q0.length c0, .slice A1 q1.length c1, .slice A2 q2.length c2, .slice A3 q3.length c3] := (Slot.eval_at ((sl 0 _ 132 rfl rfl).trans (congrArg some e0)))
                  have s1 : fr.eval (Operand.tmp 137) = .agg #[.int .i64 b, .int .i64 m, .int .i64 k, .slice A n c] := (Slot.eval_at ((sl 5 _ 137 rfl rfl).trans (congrArg some e5)))
                  have ha : (#[fr.eval (Operand.tmp 132), fr.eval (Operand.tmp 137)] : Array Value) = #[.agg #[.slice A0 q0.length c0, .slice A1 q1.length c1, .slice A2 q2.length c2, .slice A3 q3.length c3], .agg #[.int .i64 b, .int .i64 m, .int .i64 k, .slice A n c]] := by rw [s0, s1]
                  refine Slot.wp_call (f := 23) (by kernel_rfl) ha (HWr.out W HX.out.2.2.2.1 HX.out.2.2.2.2.1 HX.out.2.2.2.2.2) ?_
                  rintro e w2' ⟨j', rfl, h1, h2, h3⟩
                  have hG : JV j'.val w2' v0 v1 z0 z1 := ⟨j', rfl, h1, h2⟩
                  exact ⟨_, rfl, hK _ _ h3 hG⟩
                | n + 7, ho => exact absurd hi (by omega)
              · intro x W hB hx
                obtain ⟨j5, e6, hi5, hb5⟩ := (hx 6 (by simp) : JV (x 6) W v0 v1 z0 z1)
                simp only [Inv.fill, Act.put, List.setIfInBounds_toArray, List.set_cons_zero, List.set_cons_succ, List.take_succ_cons, List.take_zero, List.drop_succ_cons, List.drop_zero, e6]
                clear hx e6
                obtain ⟨⟨A50, c50, q50⟩, ⟨A51, c51, q51⟩, ⟨A52, c52, q52⟩, ⟨A53, c53, q53⟩⟩ := j5
                have hq := PJ_5.out.next hB
                have hbx : BxT W w2.heap.size #[.slice A0 q0.length c0, .slice A1 q1.length c1, .slice A2 q2.length c2, .slice A3 q3.length c3] 45 := hq.jb.box
                have hW4 : Below w.heap.size w ((((W.setCell ⟨w2.heap.size, 0, none⟩ (.slice A50 q50.length c50)).setCell ⟨w2.heap.size, 1, none⟩ (.slice A51 q51.length c51)).setCell ⟨w2.heap.size, 2, none⟩ (.slice A52 q52.length c52)).setCell ⟨w2.heap.size, 3, none⟩ (.slice A53 q53.length c53)) := below4 hq.bel BX.out _ _ _ _
                have JB_0 : Hid (JB ((((W.setCell ⟨w2.heap.size, 0, none⟩ (.slice A50 q50.length c50)).setCell ⟨w2.heap.size, 1, none⟩ (.slice A51 q51.length c51)).setCell ⟨w2.heap.size, 2, none⟩ (.slice A52 q52.length c52)).setCell ⟨w2.heap.size, 3, none⟩ (.slice A53 q53.length c53)) w2.heap.size ⟨⟨A50, c50, q50⟩, ⟨A51, c51, q51⟩, ⟨A52, c52, q52⟩, ⟨A53, c53, q53⟩⟩) := Lib.hid ⟨set4 hbx, in4 hi5 hbx (by decide) _ _ _ _⟩
                have WB_0 : Hid (BoxT ((((W.setCell ⟨w2.heap.size, 0, none⟩ (.slice A50 q50.length c50)).setCell ⟨w2.heap.size, 1, none⟩ (.slice A51 q51.length c51)).setCell ⟨w2.heap.size, 2, none⟩ (.slice A52 q52.length c52)).setCell ⟨w2.heap.size, 3, none⟩ (.slice A53 q53.length c53)) (w2.heap.size + 1) #[.string (strOfNums z0), .string (strOfNums z1), .int .i64 la, .string (strOfNums y)] 48) := Lib.hid ⟨box_off4 hq.wb (Nat.succ_ne_self _) _ _ _ _⟩
                have BE_0 := Lib.hid (BW.mk hW4)
                have RP_0 := Lib.hid (hrow0.out.next hW4)
                have LY_0 := Lib.hid (hli0.out.next hW4)
                have HB5 := Lib.hid hb5
                obtain ⟨k0', k1', k2', k3'⟩ := hbx.bx.c4
                obtain ⟨g0', g1', g2', g3'⟩ := hbx.bx.f4
                clear HA hb5 hi5 hbx hW4 hq hB x0 x1 x2 x3 xt PJ_5 RO_1 LX_1
                simp only [Jr.val, Jr.arr, RowV.val]
                change wpList _ _ _ _ _ _
                go_wp2
                clear k0' k1' k2' k3' g0' g1' g2' g3'
                generalize hW5 : ((((W.setCell ⟨w2.heap.size, 0, none⟩ (.slice A50 q50.length c50)).setCell ⟨w2.heap.size, 1, none⟩ (.slice A51 q51.length c51)).setCell ⟨w2.heap.size, 2, none⟩ (.slice A52 q52.length c52)).setCell ⟨w2.heap.size, 3, none⟩ (.slice A53 q53.length c53)) = W5 at JB_0 WB_0 BE_0 RP_0 LY_0 ⊢
                clear hW5
                have HA : Hid (∀ W', Below W5.heap.size W5 W' → (W'.cell? ⟨(w2.heap.size + 1), 0, none⟩ = some (.string (strOfNums z0)) ∧ W'.cell? ⟨(w2.heap.size + 1), 1, none⟩ = some (.string (strOfNums z1)) ∧ W'.cell? ⟨(w2.heap.size + 1), 2, none⟩ = some (.int .i64 la) ∧ W'.cell? ⟨(w2.heap.size + 1), 3, none⟩ = some (.string (strOfNums y))) ∧ (W'.cell? ⟨b1, p1 + i * 6 + 2, none⟩ = some (.int .i64 b) ∧ W'.cell? ⟨b1, p1 + i * 6 + 2 + 1, none⟩ = some (.int .i64 m) ∧ W'.cell? ⟨b1, p1 + i * 6 + 2 + 2, none⟩ = some (.int .i64 k) ∧ W'.cell? ⟨b1, p1 + i * 6 + 2 + 3, none⟩ = some (.slice A n c)) ∧ W'.cell? ⟨b1, p1 + i * 6 + 1, none⟩ = some (.int .i64 nn) ∧ LI W' A c n l) := Lib.hid fun W' hW => ⟨(WB_0.out.next hW).box.bx.c4, ⟨(RP_0.out.next hW).h0, (RP_0.out.next hW).h1, (RP_0.out.next hW).h2, (RP_0.out.next hW).h3⟩, (RP_0.out.next hW).n, LY_0.out.next hW⟩
                refine Slot.wp_region_slotst 8 (PlyH1 (w2.heap.size + 1) b1 p1 i len cap n b m k nn la lb l A A0 A1 A2 A3 c c0 c1 c2 c3 q0 q1 q2 q3 z0 z1 y0 y1 v0 v1 y vy) (by kernel_rfl) (by kernel_rfl) (by kernel_rfl) (by kernel_rfl) (PlyH1_next (w2.heap.size + 1) b1 p1 i len cap n b m k nn la lb l A A0 A1 A2 A3 c c0 c1 c2 c3 q0 q1 q2 q3 z0 z1 y0 y1 v0 v1 y vy) ?_ ?_
                · intro ii o x W K fr hi ho hB hd sl hbs hK
                  have HX := Lib.hid (HA.out W hB)
                  match ii, ho with
                  | 0, ho =>
                    obtain rfl := Option.some.inj ho
                    refine Slot.op_go ho rfl ?_
                    exact Slot.wp_value (PlyH1_r0 fr.eval _ W (w2.heap.size + 1) b1 p1 i len cap n b m k nn la lb l A A0 A1 A2 A3 c c0 c1 c2 c3 q0 q1 q2 q3 z0 z1 y0 y1 v0 v1 y vy  rfl (Slot.eval_at ((hbs 9 (Slot.off_of (by kernel_rfl))).trans rfl)) (HX.out.1.1) (HX.out.1.2.1) (HX.out.1.2.2.1) (HX.out.1.2.2.2)) (hK _ _ (Below.refl _ _) rfl)
                  | 1, ho =>
                    obtain rfl := Option.some.inj ho
                    refine Slot.op_go ho rfl ?_
                    exact Slot.wp_value (Slot.run_move rfl (Slot.eval_at ((hbs 2 (Slot.off_of (by kernel_rfl))).trans rfl))) (hK _ _ (Below.refl _ _) rfl)
                  | 2, ho =>
                    obtain rfl := Option.some.inj ho
                    refine Slot.op_go ho rfl ?_
                    exact Slot.wp_value (Slot.run_move rfl (Slot.eval_at ((hbs 10 (Slot.off_of (by kernel_rfl))).trans rfl))) (hK _ _ (Below.refl _ _) rfl)
                  | 3, ho =>
                    obtain rfl := Option.some.inj ho
                    refine Slot.op_go ho rfl ?_
                    have e1 : x 1 = .slice (some ⟨b1, p1, none⟩) len cap := hd ⟨1, .data⟩ (by simp) rfl
                    have e2 : x 2 = .int .i64 ↑i := hd ⟨2, .data⟩ (by simp) rfl
                    exact Slot.wp_value (PlyH1_r3 fr.eval _ W (w2.heap.size + 1) b1 p1 i len cap n b m k nn la lb l A A0 A1 A2 A3 c c0 c1 c2 c3 q0 q1 q2 q3 z0 z1 y0 y1 v0 v1 y vy  rfl (Slot.eval_at ((sl 1 _ 140 rfl rfl).trans (congrArg some e1))) (Slot.eval_at ((sl 2 _ 141 rfl rfl).trans (congrArg some e2))) (i1)) (hK _ _ (Below.refl _ _) rfl)
                  | 4, ho =>
                    obtain rfl := Option.some.inj ho
                    refine Slot.op_go ho rfl ?_
                    have e3 : x 3 = .pointer (some ⟨b1, p1 + i * 6, none⟩) := hd ⟨3, .data⟩ (by simp) rfl
                    exact Slot.wp_value (PlyH1_r4 fr.eval _ W (w2.heap.size + 1) b1 p1 i len cap n b m k nn la lb l A A0 A1 A2 A3 c c0 c1 c2 c3 q0 q1 q2 q3 z0 z1 y0 y1 v0 v1 y vy  rfl (Slot.eval_at ((sl 3 _ 142 rfl rfl).trans (congrArg some e3)))) (hK _ _ (Below.refl _ _) rfl)
                  | 5, ho =>
                    obtain rfl := Option.some.inj ho
                    refine Slot.op_go ho rfl ?_
                    have e4 : x 4 = .pointer (some ⟨b1, p1 + i * 6 + 2, none⟩) := hd ⟨4, .data⟩ (by simp) rfl
                    exact Slot.wp_value (PlyH1_r5 fr.eval _ W (w2.heap.size + 1) b1 p1 i len cap n b m k nn la lb l A A0 A1 A2 A3 c c0 c1 c2 c3 q0 q1 q2 q3 z0 z1 y0 y1 v0 v1 y vy  rfl (Slot.eval_at ((sl 4 _ 143 rfl rfl).trans (congrArg some e4))) (HX.out.2.1.1) (HX.out.2.1.2.1) (HX.out.2.1.2.2.1) (HX.out.2.1.2.2.2)) (hK _ _ (Below.refl _ _) rfl)
                  | 6, ho =>
                    obtain rfl := Option.some.inj ho
                    refine Slot.op_go ho rfl ?_
                    have e5 : x 5 = .agg #[.int .i64 b, .int .i64 m, .int .i64 k, .slice A n c] := hd ⟨5, .data⟩ (by simp) rfl
                    have s0 : fr.eval (Operand.tmp 144) = .agg #[.int .i64 b, .int .i64 m, .int .i64 k, .slice A n c] := (Slot.eval_at ((sl 5 _ 144 rfl rfl).trans (congrArg some e5)))
                    have ha : (#[fr.eval (Operand.tmp 144)] : Array Value) = #[.agg #[.int .i64 b, .int .i64 m, .int .i64 k, .slice A n c]] := by rw [s0]
                    refine Slot.wp_call (f := 15) (by kernel_rfl) ha (of_at HX.out.2.2.2 HN1.out b m k) ?_
                    rintro e w2' ⟨A', c', rfl, h1, h2⟩
                    have hG : GV (.agg #[.int .i64 b, .int .i64 m, .int .i64 k, .slice A' n c']) w2' b m k n l := ⟨A', c', rfl, h1⟩
                    exact ⟨_, rfl, hK _ _ h2 hG⟩
                  | 7, ho =>
                    obtain rfl := Option.some.inj ho
                    refine Slot.op_go ho rfl ?_
                    have e0 : x 0 = .agg #[.string (strOfNums z0), .string (strOfNums z1), .int .i64 la, .string (strOfNums y)] := hd ⟨0, .data⟩ (by simp) rfl
                    obtain ⟨A86, c86, e6, hA86⟩ := (hd ⟨6, .data⟩ (by simp) rfl : GV (x 6) W b m k n l)
                    have s0 : fr.eval (Operand.tmp 139) = .agg #[.string (strOfNums z0), .string (strOfNums z1), .int .i64 la, .string (strOfNums y)] := (Slot.eval_at ((sl 0 _ 139 rfl rfl).trans (congrArg some e0)))
                    have s1 : fr.eval (Operand.tmp 145) = .agg #[.int .i64 b, .int .i64 m, .int .i64 k, .slice A86 n c86] := (Slot.eval_at ((sl 6 _ 145 rfl rfl).trans (congrArg some e6)))
                    have ha : (#[fr.eval (Operand.tmp 139), fr.eval (Operand.tmp 145)] : Array Value) = #[.agg #[.string (strOfNums z0), .string (strOfNums z1), .int .i64 la, .string (strOfNums y)], .agg #[.int .i64 b, .int .i64 m, .int .i64 k, .slice A86 n c86]] := by rw [s0, s1]
                    refine Slot.wp_call (f := 24) (by kernel_rfl) ha (HRW.out A86 c86 W hA86) ?_
                    rintro e w2 ⟨rfl, h1⟩
                    exact ⟨_, rfl, hK _ _ h1 rfl⟩
                  | n + 8, ho => exact absurd hi (by omega)
                · intro x W hB hx
                  have e7 : x 7 = .agg #[.string (strOfNums v0), .string (strOfNums v1), .int .i64 lb, .string (strOfNums vy)] := hx 7 (by simp)
                  simp only [Inv.fill, Act.put, List.setIfInBounds_toArray, List.set_cons_zero, List.set_cons_succ, List.take_succ_cons, List.take_zero, List.drop_succ_cons, List.drop_zero, e7]
                  clear hx e7
                  have hj := JB_0.out.next hB
                  have hwb : BxT W (w2.heap.size + 1) #[.string (strOfNums z0), .string (strOfNums z1), .int .i64 la, .string (strOfNums y)] 48 := (WB_0.out.next hB).box
                  have hbe := BE_0.out.next hB
                  obtain ⟨k0', k1', k2', k3'⟩ := hwb.bx.c4
                  obtain ⟨g0', g1', g2', g3'⟩ := hwb.bx.f4
                  have hW6 : Below w.heap.size w ((((W.setCell ⟨(w2.heap.size + 1), 0, none⟩ (.string (strOfNums v0))).setCell ⟨(w2.heap.size + 1), 1, none⟩ (.string (strOfNums v1))).setCell ⟨(w2.heap.size + 1), 2, none⟩ (.int .i64 lb)).setCell ⟨(w2.heap.size + 1), 3, none⟩ (.string (strOfNums vy))) := below4 hbe.bel (Nat.le_succ_of_le BX.out) _ _ _ _
                  have HQ : Hid (PJ w ((((W.setCell ⟨(w2.heap.size + 1), 0, none⟩ (.string (strOfNums v0))).setCell ⟨(w2.heap.size + 1), 1, none⟩ (.string (strOfNums v1))).setCell ⟨(w2.heap.size + 1), 2, none⟩ (.int .i64 lb)).setCell ⟨(w2.heap.size + 1), 3, none⟩ (.string (strOfNums vy))) w2.heap.size ⟨⟨A50, c50, q50⟩, ⟨A51, c51, q51⟩, ⟨A52, c52, q52⟩, ⟨A53, c53, q53⟩⟩ v0 v1 lb vy) := Lib.hid ⟨hW6, HT.out.next hW6, ⟨box_off4 hj.box (Nat.succ_ne_self _).symm _ _ _ _, in4 hj.in_ hwb (by decide) _ _ _ _⟩, set4 hwb⟩
                  clear HA hB hj hwb hbe hW6 JB_0 WB_0 BE_0 RP_0 LY_0
                  change wpList _ _ _ _ _ _
                  go_wp2
                  go_roundw
                  case rel => exact ⟨i + 1, _, v0, v1, z0, z1, vy, lb, congrArg (Value.int .i64) (show sq = ((i + 1 : Nat) : Int) by omega), by omega, HQ, HPN, HB5⟩
                  case measure => simp [intOf]; omega
            · have HTe : Hid (∀ W, Jr.In W ⟨⟨A0, c0, q0⟩, ⟨A1, c1, q1⟩, ⟨A2, c2, q2⟩, ⟨A3, c3, q3⟩⟩ → Calls Tryd.prog 21 #[Jr.val ⟨⟨A0, c0, q0⟩, ⟨A1, c1, q1⟩, ⟨A2, c2, q2⟩, ⟨A3, c3, q3⟩⟩, .int .i64 nn] W (JP W (torn z0 y0 nn.toNat) (torn z1 y1 nn.toNat) y0 y1)) := Lib.hid fun W h2 => tear_at z0 z1 y0 y1 nn ⟨⟨A0, c0, q0⟩, ⟨A1, c1, q1⟩, ⟨A2, c2, q2⟩, ⟨A3, c3, q3⟩⟩ W (by omega) h2 HE.out
              have HRT : Hid (∀ W, Calls Tryd.prog 22 #[.agg #[.string (strOfNums z0), .string (strOfNums z1), .int .i64 la, .string (strOfNums y)], .int .i64 nn] W fun e w' => e = .returned (.agg #[.string (strOfNums (torn z0 y0 nn.toNat)), .string (strOfNums (torn z1 y1 nn.toNat)), .int .i64 la, .string (strOfNums y)]) ∧ Below W.heap.size W w') := Lib.hid fun W => rtear HPR.out nn W
              have HPN := Lib.hid (HPR.out.tear nn.toNat)
              clear h80 hn
              generalize torn z0 y0 nn.toNat = v0 at *
              generalize torn z1 y1 nn.toNat = v1 at *
              go_wp2_with (first
                | (go_at_call 10; (refine (few_at LX_0.out b m k).mono ?_; rintro e w6 ⟨rfl, h6⟩; have PJ_5 := Lib.hid (PJ_4.out.next h6); have RO_1 := Lib.hid (RO_0.out.next h6); have LX_1 := Lib.hid (LX_0.out.next h6); rw [f1]; clear PJ_4 RO_0 LX_0 h6; obtain ⟨x0, x1, x2, x3⟩ := And.intro RO_1.out.h0 (And.intro RO_1.out.h1 (And.intro RO_1.out.h2 RO_1.out.h3)); have xt := RO_1.out.t)))
              have HA : Hid (∀ W', Below w6.heap.size w6 W' → (W'.cell? ⟨w2.heap.size, 0, none⟩ = some (.slice A0 q0.length c0) ∧ W'.cell? ⟨w2.heap.size, 1, none⟩ = some (.slice A1 q1.length c1) ∧ W'.cell? ⟨w2.heap.size, 2, none⟩ = some (.slice A2 q2.length c2) ∧ W'.cell? ⟨w2.heap.size, 3, none⟩ = some (.slice A3 q3.length c3)) ∧ (W'.cell? ⟨b1, p1 + i * 6 + 2, none⟩ = some (.int .i64 b) ∧ W'.cell? ⟨b1, p1 + i * 6 + 2 + 1, none⟩ = some (.int .i64 m) ∧ W'.cell? ⟨b1, p1 + i * 6 + 2 + 2, none⟩ = some (.int .i64 k) ∧ W'.cell? ⟨b1, p1 + i * 6 + 2 + 3, none⟩ = some (.slice A n c)) ∧ W'.cell? ⟨b1, p1 + i * 6 + 1, none⟩ = some (.int .i64 nn) ∧ Tab W' ∧ Jr.In W' ⟨⟨A0, c0, q0⟩, ⟨A1, c1, q1⟩, ⟨A2, c2, q2⟩, ⟨A3, c3, q3⟩⟩ ∧ LI W' A c n l) := Lib.hid fun W' hW => ⟨(PJ_5.out.next hW).jb.box.bx.c4, ⟨(RO_1.out.next hW).h0, (RO_1.out.next hW).h1, (RO_1.out.next hW).h2, (RO_1.out.next hW).h3⟩, (RO_1.out.next hW).n, (PJ_5.out.next hW).tab, (PJ_5.out.next hW).jb.in_, LX_1.out.next hW⟩
              refine Slot.wp_region_slotst 7 (PlyG0 w2.heap.size b1 p1 i len cap n b m k nn la la l A A0 A1 A2 A3 c c0 c1 c2 c3 q0 q1 q2 q3 z0 z1 y0 y1 v0 v1 y y) (by kernel_rfl) (by kernel_rfl) (by kernel_rfl) (by kernel_rfl) (PlyG0_next w2.heap.size b1 p1 i len cap n b m k nn la la l A A0 A1 A2 A3 c c0 c1 c2 c3 q0 q1 q2 q3 z0 z1 y0 y1 v0 v1 y y) ?_ ?_
              · intro ii o x W K fr hi ho hB hd sl hbs hK
                have HX := Lib.hid (HA.out W hB)
                match ii, ho with
                | 0, ho =>
                  obtain rfl := Option.some.inj ho
                  refine Slot.op_go ho rfl ?_
                  exact Slot.wp_value (PlyG0_r0 fr.eval _ W w2.heap.size b1 p1 i len cap n b m k nn la la l A A0 A1 A2 A3 c c0 c1 c2 c3 q0 q1 q2 q3 z0 z1 y0 y1 v0 v1 y y  rfl (Slot.eval_at ((hbs 8 (Slot.off_of (by kernel_rfl))).trans rfl)) (HX.out.1.1) (HX.out.1.2.1) (HX.out.1.2.2.1) (HX.out.1.2.2.2)) (hK _ _ (Below.refl _ _) rfl)
                | 1, ho =>
                  obtain rfl := Option.some.inj ho
                  refine Slot.op_go ho rfl ?_
                  exact Slot.wp_value (Slot.run_move rfl (Slot.eval_at ((hbs 2 (Slot.off_of (by kernel_rfl))).trans rfl))) (hK _ _ (Below.refl _ _) rfl)
                | 2, ho =>
                  obtain rfl := Option.some.inj ho
                  refine Slot.op_go ho rfl ?_
                  exact Slot.wp_value (Slot.run_move rfl (Slot.eval_at ((hbs 10 (Slot.off_of (by kernel_rfl))).trans rfl))) (hK _ _ (Below.refl _ _) rfl)
                | 3, ho =>
                  obtain rfl := Option.some.inj ho
                  refine Slot.op_go ho rfl ?_
                  have e1 : x 1 = .slice (some ⟨b1, p1, none⟩) len cap := hd ⟨1, .data⟩ (by simp) rfl
                  have e2 : x 2 = .int .i64 ↑i := hd ⟨2, .data⟩ (by simp) rfl
                  exact Slot.wp_value (PlyG0_r3 fr.eval _ W w2.heap.size b1 p1 i len cap n b m k nn la la l A A0 A1 A2 A3 c c0 c1 c2 c3 q0 q1 q2 q3 z0 z1 y0 y1 v0 v1 y y  rfl (Slot.eval_at ((sl 1 _ 119 rfl rfl).trans (congrArg some e1))) (Slot.eval_at ((sl 2 _ 120 rfl rfl).trans (congrArg some e2))) (i1)) (hK _ _ (Below.refl _ _) rfl)
                | 4, ho =>
                  obtain rfl := Option.some.inj ho
                  refine Slot.op_go ho rfl ?_
                  have e3 : x 3 = .pointer (some ⟨b1, p1 + i * 6, none⟩) := hd ⟨3, .data⟩ (by simp) rfl
                  exact Slot.wp_value (PlyG0_r4 fr.eval _ W w2.heap.size b1 p1 i len cap n b m k nn la la l A A0 A1 A2 A3 c c0 c1 c2 c3 q0 q1 q2 q3 z0 z1 y0 y1 v0 v1 y y  rfl (Slot.eval_at ((sl 3 _ 121 rfl rfl).trans (congrArg some e3)))) (hK _ _ (Below.refl _ _) rfl)
                | 5, ho =>
                  obtain rfl := Option.some.inj ho
                  refine Slot.op_go ho rfl ?_
                  have e4 : x 4 = .pointer (some ⟨b1, p1 + i * 6 + 1, none⟩) := hd ⟨4, .data⟩ (by simp) rfl
                  exact Slot.wp_value (PlyG0_r5 fr.eval _ W w2.heap.size b1 p1 i len cap n b m k nn la la l A A0 A1 A2 A3 c c0 c1 c2 c3 q0 q1 q2 q3 z0 z1 y0 y1 v0 v1 y y  rfl (Slot.eval_at ((sl 4 _ 122 rfl rfl).trans (congrArg some e4))) (HX.out.2.2.1)) (hK _ _ (Below.refl _ _) rfl)
                | 6, ho =>
                  obtain rfl := Option.some.inj ho
                  refine Slot.op_go ho rfl ?_
                  have e0 : x 0 = .agg #[.slice A0 q0.length c0, .slice A1 q1.length c1, .slice A2 q2.length c2, .slice A3 q3.length c3] := hd ⟨0, .data⟩ (by simp) rfl
                  have e5 : x 5 = .int .i64 nn := hd ⟨5, .data⟩ (by simp) rfl
                  have s0 : fr.eval (Operand.tmp 118) = .agg #[.slice A0 q0.length c0, .slice A1 q1.length c1, .slice A2 q2.length c2, .slice A3 q3.length c3] := (Slot.eval_at ((sl 0 _ 118 rfl rfl).trans (congrArg some e0)))
                  have s1 : fr.eval (Operand.tmp 123) = .int .i64 nn := (Slot.eval_at ((sl 5 _ 123 rfl rfl).trans (congrArg some e5)))
                  have ha : (#[fr.eval (Operand.tmp 118), fr.eval (Operand.tmp 123)] : Array Value) = #[.agg #[.slice A0 q0.length c0, .slice A1 q1.length c1, .slice A2 q2.length c2, .slice A3 q3.length c3], .int .i64 nn] := by rw [s0, s1]
                  refine Slot.wp_call (f := 21) (by kernel_rfl) ha (HTe.out W HX.out.2.2.2.2.1) ?_
                  rintro e w2' ⟨j', rfl, h1, h2, h3⟩
                  have hG : JV j'.val w2' v0 v1 y0 y1 := ⟨j', rfl, h1, h2⟩
                  exact ⟨_, rfl, hK _ _ h3 hG⟩
                | n + 7, ho => exact absurd hi (by omega)
              · intro x W hB hx
                obtain ⟨j5, e6, hi5, hb5⟩ := (hx 6 (by simp) : JV (x 6) W v0 v1 y0 y1)
                simp only [Inv.fill, Act.put, List.setIfInBounds_toArray, List.set_cons_zero, List.set_cons_succ, List.take_succ_cons, List.take_zero, List.drop_succ_cons, List.drop_zero, e6]
                clear hx e6
                obtain ⟨⟨A50, c50, q50⟩, ⟨A51, c51, q51⟩, ⟨A52, c52, q52⟩, ⟨A53, c53, q53⟩⟩ := j5
                have hq := PJ_5.out.next hB
                have hbx : BxT W w2.heap.size #[.slice A0 q0.length c0, .slice A1 q1.length c1, .slice A2 q2.length c2, .slice A3 q3.length c3] 45 := hq.jb.box
                have hW4 : Below w.heap.size w ((((W.setCell ⟨w2.heap.size, 0, none⟩ (.slice A50 q50.length c50)).setCell ⟨w2.heap.size, 1, none⟩ (.slice A51 q51.length c51)).setCell ⟨w2.heap.size, 2, none⟩ (.slice A52 q52.length c52)).setCell ⟨w2.heap.size, 3, none⟩ (.slice A53 q53.length c53)) := below4 hq.bel BX.out _ _ _ _
                have JB_0 : Hid (JB ((((W.setCell ⟨w2.heap.size, 0, none⟩ (.slice A50 q50.length c50)).setCell ⟨w2.heap.size, 1, none⟩ (.slice A51 q51.length c51)).setCell ⟨w2.heap.size, 2, none⟩ (.slice A52 q52.length c52)).setCell ⟨w2.heap.size, 3, none⟩ (.slice A53 q53.length c53)) w2.heap.size ⟨⟨A50, c50, q50⟩, ⟨A51, c51, q51⟩, ⟨A52, c52, q52⟩, ⟨A53, c53, q53⟩⟩) := Lib.hid ⟨set4 hbx, in4 hi5 hbx (by decide) _ _ _ _⟩
                have WB_0 : Hid (BoxT ((((W.setCell ⟨w2.heap.size, 0, none⟩ (.slice A50 q50.length c50)).setCell ⟨w2.heap.size, 1, none⟩ (.slice A51 q51.length c51)).setCell ⟨w2.heap.size, 2, none⟩ (.slice A52 q52.length c52)).setCell ⟨w2.heap.size, 3, none⟩ (.slice A53 q53.length c53)) (w2.heap.size + 1) #[.string (strOfNums z0), .string (strOfNums z1), .int .i64 la, .string (strOfNums y)] 48) := Lib.hid ⟨box_off4 hq.wb (Nat.succ_ne_self _) _ _ _ _⟩
                have BE_0 := Lib.hid (BW.mk hW4)
                have RP_0 := Lib.hid (hrow0.out.next hW4)
                have LY_0 := Lib.hid (hli0.out.next hW4)
                have HB5 := Lib.hid hb5
                obtain ⟨k0', k1', k2', k3'⟩ := hbx.bx.c4
                obtain ⟨g0', g1', g2', g3'⟩ := hbx.bx.f4
                clear HA hb5 hi5 hbx hW4 hq hB x0 x1 x2 x3 xt PJ_5 RO_1 LX_1
                simp only [Jr.val, Jr.arr, RowV.val]
                change wpList _ _ _ _ _ _
                go_wp2
                clear k0' k1' k2' k3' g0' g1' g2' g3'
                generalize hW5 : ((((W.setCell ⟨w2.heap.size, 0, none⟩ (.slice A50 q50.length c50)).setCell ⟨w2.heap.size, 1, none⟩ (.slice A51 q51.length c51)).setCell ⟨w2.heap.size, 2, none⟩ (.slice A52 q52.length c52)).setCell ⟨w2.heap.size, 3, none⟩ (.slice A53 q53.length c53)) = W5 at JB_0 WB_0 BE_0 RP_0 LY_0 ⊢
                clear hW5
                have HA : Hid (∀ W', Below W5.heap.size W5 W' → (W'.cell? ⟨(w2.heap.size + 1), 0, none⟩ = some (.string (strOfNums z0)) ∧ W'.cell? ⟨(w2.heap.size + 1), 1, none⟩ = some (.string (strOfNums z1)) ∧ W'.cell? ⟨(w2.heap.size + 1), 2, none⟩ = some (.int .i64 la) ∧ W'.cell? ⟨(w2.heap.size + 1), 3, none⟩ = some (.string (strOfNums y))) ∧ (W'.cell? ⟨b1, p1 + i * 6 + 2, none⟩ = some (.int .i64 b) ∧ W'.cell? ⟨b1, p1 + i * 6 + 2 + 1, none⟩ = some (.int .i64 m) ∧ W'.cell? ⟨b1, p1 + i * 6 + 2 + 2, none⟩ = some (.int .i64 k) ∧ W'.cell? ⟨b1, p1 + i * 6 + 2 + 3, none⟩ = some (.slice A n c)) ∧ W'.cell? ⟨b1, p1 + i * 6 + 1, none⟩ = some (.int .i64 nn) ∧ LI W' A c n l) := Lib.hid fun W' hW => ⟨(WB_0.out.next hW).box.bx.c4, ⟨(RP_0.out.next hW).h0, (RP_0.out.next hW).h1, (RP_0.out.next hW).h2, (RP_0.out.next hW).h3⟩, (RP_0.out.next hW).n, LY_0.out.next hW⟩
                refine Slot.wp_region_slotst 7 (PlyH0 (w2.heap.size + 1) b1 p1 i len cap n b m k nn la la l A A0 A1 A2 A3 c c0 c1 c2 c3 q0 q1 q2 q3 z0 z1 y0 y1 v0 v1 y y) (by kernel_rfl) (by kernel_rfl) (by kernel_rfl) (by kernel_rfl) (PlyH0_next (w2.heap.size + 1) b1 p1 i len cap n b m k nn la la l A A0 A1 A2 A3 c c0 c1 c2 c3 q0 q1 q2 q3 z0 z1 y0 y1 v0 v1 y y) ?_ ?_
                · intro ii o x W K fr hi ho hB hd sl hbs hK
                  have HX := Lib.hid (HA.out W hB)
                  match ii, ho with
                  | 0, ho =>
                    obtain rfl := Option.some.inj ho
                    refine Slot.op_go ho rfl ?_
                    exact Slot.wp_value (PlyH0_r0 fr.eval _ W (w2.heap.size + 1) b1 p1 i len cap n b m k nn la la l A A0 A1 A2 A3 c c0 c1 c2 c3 q0 q1 q2 q3 z0 z1 y0 y1 v0 v1 y y  rfl (Slot.eval_at ((hbs 9 (Slot.off_of (by kernel_rfl))).trans rfl)) (HX.out.1.1) (HX.out.1.2.1) (HX.out.1.2.2.1) (HX.out.1.2.2.2)) (hK _ _ (Below.refl _ _) rfl)
                  | 1, ho =>
                    obtain rfl := Option.some.inj ho
                    refine Slot.op_go ho rfl ?_
                    exact Slot.wp_value (Slot.run_move rfl (Slot.eval_at ((hbs 2 (Slot.off_of (by kernel_rfl))).trans rfl))) (hK _ _ (Below.refl _ _) rfl)
                  | 2, ho =>
                    obtain rfl := Option.some.inj ho
                    refine Slot.op_go ho rfl ?_
                    exact Slot.wp_value (Slot.run_move rfl (Slot.eval_at ((hbs 10 (Slot.off_of (by kernel_rfl))).trans rfl))) (hK _ _ (Below.refl _ _) rfl)
                  | 3, ho =>
                    obtain rfl := Option.some.inj ho
                    refine Slot.op_go ho rfl ?_
                    have e1 : x 1 = .slice (some ⟨b1, p1, none⟩) len cap := hd ⟨1, .data⟩ (by simp) rfl
                    have e2 : x 2 = .int .i64 ↑i := hd ⟨2, .data⟩ (by simp) rfl
                    exact Slot.wp_value (PlyH0_r3 fr.eval _ W (w2.heap.size + 1) b1 p1 i len cap n b m k nn la la l A A0 A1 A2 A3 c c0 c1 c2 c3 q0 q1 q2 q3 z0 z1 y0 y1 v0 v1 y y  rfl (Slot.eval_at ((sl 1 _ 126 rfl rfl).trans (congrArg some e1))) (Slot.eval_at ((sl 2 _ 127 rfl rfl).trans (congrArg some e2))) (i1)) (hK _ _ (Below.refl _ _) rfl)
                  | 4, ho =>
                    obtain rfl := Option.some.inj ho
                    refine Slot.op_go ho rfl ?_
                    have e3 : x 3 = .pointer (some ⟨b1, p1 + i * 6, none⟩) := hd ⟨3, .data⟩ (by simp) rfl
                    exact Slot.wp_value (PlyH0_r4 fr.eval _ W (w2.heap.size + 1) b1 p1 i len cap n b m k nn la la l A A0 A1 A2 A3 c c0 c1 c2 c3 q0 q1 q2 q3 z0 z1 y0 y1 v0 v1 y y  rfl (Slot.eval_at ((sl 3 _ 128 rfl rfl).trans (congrArg some e3)))) (hK _ _ (Below.refl _ _) rfl)
                  | 5, ho =>
                    obtain rfl := Option.some.inj ho
                    refine Slot.op_go ho rfl ?_
                    have e4 : x 4 = .pointer (some ⟨b1, p1 + i * 6 + 1, none⟩) := hd ⟨4, .data⟩ (by simp) rfl
                    exact Slot.wp_value (PlyH0_r5 fr.eval _ W (w2.heap.size + 1) b1 p1 i len cap n b m k nn la la l A A0 A1 A2 A3 c c0 c1 c2 c3 q0 q1 q2 q3 z0 z1 y0 y1 v0 v1 y y  rfl (Slot.eval_at ((sl 4 _ 129 rfl rfl).trans (congrArg some e4))) (HX.out.2.2.1)) (hK _ _ (Below.refl _ _) rfl)
                  | 6, ho =>
                    obtain rfl := Option.some.inj ho
                    refine Slot.op_go ho rfl ?_
                    have e0 : x 0 = .agg #[.string (strOfNums z0), .string (strOfNums z1), .int .i64 la, .string (strOfNums y)] := hd ⟨0, .data⟩ (by simp) rfl
                    have e5 : x 5 = .int .i64 nn := hd ⟨5, .data⟩ (by simp) rfl
                    have s0 : fr.eval (Operand.tmp 125) = .agg #[.string (strOfNums z0), .string (strOfNums z1), .int .i64 la, .string (strOfNums y)] := (Slot.eval_at ((sl 0 _ 125 rfl rfl).trans (congrArg some e0)))
                    have s1 : fr.eval (Operand.tmp 130) = .int .i64 nn := (Slot.eval_at ((sl 5 _ 130 rfl rfl).trans (congrArg some e5)))
                    have ha : (#[fr.eval (Operand.tmp 125), fr.eval (Operand.tmp 130)] : Array Value) = #[.agg #[.string (strOfNums z0), .string (strOfNums z1), .int .i64 la, .string (strOfNums y)], .int .i64 nn] := by rw [s0, s1]
                    refine Slot.wp_call (f := 22) (by kernel_rfl) ha (HRT.out W) ?_
                    rintro e w2 ⟨rfl, h1⟩
                    exact ⟨_, rfl, hK _ _ h1 rfl⟩
                  | n + 7, ho => exact absurd hi (by omega)
                · intro x W hB hx
                  have e6 : x 6 = .agg #[.string (strOfNums v0), .string (strOfNums v1), .int .i64 la, .string (strOfNums y)] := hx 6 (by simp)
                  simp only [Inv.fill, Act.put, List.setIfInBounds_toArray, List.set_cons_zero, List.set_cons_succ, List.take_succ_cons, List.take_zero, List.drop_succ_cons, List.drop_zero, e6]
                  clear hx e6
                  have hj := JB_0.out.next hB
                  have hwb : BxT W (w2.heap.size + 1) #[.string (strOfNums z0), .string (strOfNums z1), .int .i64 la, .string (strOfNums y)] 48 := (WB_0.out.next hB).box
                  have hbe := BE_0.out.next hB
                  obtain ⟨k0', k1', k2', k3'⟩ := hwb.bx.c4
                  obtain ⟨g0', g1', g2', g3'⟩ := hwb.bx.f4
                  have hW6 : Below w.heap.size w ((((W.setCell ⟨(w2.heap.size + 1), 0, none⟩ (.string (strOfNums v0))).setCell ⟨(w2.heap.size + 1), 1, none⟩ (.string (strOfNums v1))).setCell ⟨(w2.heap.size + 1), 2, none⟩ (.int .i64 la)).setCell ⟨(w2.heap.size + 1), 3, none⟩ (.string (strOfNums y))) := below4 hbe.bel (Nat.le_succ_of_le BX.out) _ _ _ _
                  have HQ : Hid (PJ w ((((W.setCell ⟨(w2.heap.size + 1), 0, none⟩ (.string (strOfNums v0))).setCell ⟨(w2.heap.size + 1), 1, none⟩ (.string (strOfNums v1))).setCell ⟨(w2.heap.size + 1), 2, none⟩ (.int .i64 la)).setCell ⟨(w2.heap.size + 1), 3, none⟩ (.string (strOfNums y))) w2.heap.size ⟨⟨A50, c50, q50⟩, ⟨A51, c51, q51⟩, ⟨A52, c52, q52⟩, ⟨A53, c53, q53⟩⟩ v0 v1 la y) := Lib.hid ⟨hW6, HT.out.next hW6, ⟨box_off4 hj.box (Nat.succ_ne_self _).symm _ _ _ _, in4 hj.in_ hwb (by decide) _ _ _ _⟩, set4 hwb⟩
                  clear HA hB hj hwb hbe hW6 JB_0 WB_0 BE_0 RP_0 LY_0
                  change wpList _ _ _ _ _ _
                  go_wp2
                  go_roundw
                  case rel => exact ⟨i + 1, _, v0, v1, y0, y1, y, la, congrArg (Value.int .i64) (show sq = ((i + 1 : Nat) : Int) by omega), by omega, HQ, HPN, HB5⟩
                  case measure => simp [intOf]; omega
          · have f1 : decide (n ≤ 80) = false := decide_eq_false h80
            go_wp2_with (first
              | (go_at_call 10; (refine (few_at LX_0.out b m k).mono ?_; rintro e w6 ⟨rfl, h6⟩; have PJ_5 := Lib.hid (PJ_4.out.next h6); have RO_1 := Lib.hid (RO_0.out.next h6); have LX_1 := Lib.hid (LX_0.out.next h6); rw [f1]; clear PJ_4 RO_0 LX_0 h6; obtain ⟨x0, x1, x2, x3⟩ := And.intro RO_1.out.h0 (And.intro RO_1.out.h1 (And.intro RO_1.out.h2 RO_1.out.h3)); have xt := RO_1.out.t)))
            go_ret
            exact ⟨rfl, PJ_5.out.bel⟩
        · obtain rfl : i = len := by omega
          go_wp2
          go_ret
          exact ⟨rfl, PJ_4.out.bel⟩

end Go.Proofs.YtgbgbodhpahceaaDoor.Walk
