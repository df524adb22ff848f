/- The walk of JournalAhead. -/
import Derived.Test.YtgbgbodhpahceaaDoorJrnX
import Derived.Test.YtgbgbodhpahceaaDoorSlot
namespace Go.Proofs.YtgbgbodhpahceaaDoor.Walk
open Go.RowKit Go.Proofs.YtgbgbodhpahceaaDoor.Plain Go.Proofs.YtgbgbodhpahceaaDoor.Sees Go.Proofs.YtgbgbodhpahceaaDoor.Oct Go.Proofs.YtgbgbodhpahceaaDoor.Crc Go.Proofs.YtgbgbodhpahceaaDoor.Box Go.Proofs.YtgbgbodhpahceaaDoor.Held Go.Proofs.YtgbgbodhpahceaaDoor.JrnP Go.Proofs.YtgbgbodhpahceaaDoor.Open Go.Proofs.YtgbgbodhpahceaaDoor.LgrP Go.Proofs.YtgbgbodhpahceaaDoor.Jrn
set_option linter.unusedVariables false
set_option linter.unusedSimpArgs false
set_option maxRecDepth 100000
/-- a call by its contract, the frame left as it is -/
theorem wp_callee {P : Program} {o : Oper} {a : Act} {w : World} {K : Act → World → Prop} {Q : Exit → Act → World → Prop} {f : FuncId} {args : Array Value} {R : Ending → World → Prop}
    (hrun : (execOp a.eval o).run P w = .ok (.enter f args) w) (hc : Calls P f args w R) (h : ∀ e w', R e w' → ∃ v, e = .returned v ∧ K (a.put o.dst v) w') : o.wp P a w K Q := by
  unfold Oper.wp
  rw [hrun, Oper.upon_enter]
  refine hc.mono fun e w' hr => ?_
  obtain ⟨v, rfl, hk⟩ := h e w' hr
  exact hk
def AhdF (N : Nat) (b0 m0 k0 b1 m1 k1 : Int) (B0 B1 : Option Addr) (n0 n1 p0' p1' : Nat) (p1 p2 : List Int) : Nat → Value → World → Prop
  | 0, vv, w' => JV vv w' [] [] [] []
  | 1, vv, _ => vv = .agg #[.int .i64 b0, .int .i64 m0, .int .i64 k0, .slice B0 n0 p0']
  | 2, vv, w' => JV vv w' [] p1 [] []
  | 3, vv, _ => vv = .agg #[.int .i64 b1, .int .i64 m1, .int .i64 k1, .slice B1 n1 p1']
  | 4, vv, w' => JV vv w' p2 p1 [] p1
  | 5, vv, w' => AV vv w' N
  | _, _, _ => True
def AhdG0 (bk10 bk11 : Nat) (b1 m1 : Int) (n1 : Nat) (l1 : List Pm) (A60 A61 : Option Addr) (c60 c61 : Nat) : Nat → Value → World → Prop := Slot.row [
fun vv _ => vv = .int .u64 2,
  fun vv _ => vv = .bool true,
  fun vv _ => vv = .bool true,
  fun vv _ => vv = .agg #[.int .i64 b1, .int .i64 m1, .int .i64 0, .slice A60 n1 c60],
  fun vv w' => GV vv w' b1 m1 0 n1 l1,
  fun vv _ => vv = .agg #[.int .i64 b1, .int .i64 m1, .int .i64 0, .slice A61 n1 c61],
  fun vv _ => vv = .bool true,
  fun vv _ => vv = .bool false,
  fun vv _ => vv = .bool false,
  fun vv _ => vv = .bool false,
  fun vv _ => vv = .int .u64 2,
  fun vv _ => vv = .bool false,
  fun vv _ => vv = .bool false,
  fun vv _ => vv = undef,
  fun vv _ => vv = undef,
  fun vv _ => vv = undef,
  fun vv _ => vv = undef,
  fun vv _ => vv = undef,
  fun vv _ => vv = undef,
  fun vv _ => vv = undef,
  fun vv _ => vv = undef,
  fun vv _ => vv = .bool false,
  fun vv _ => vv = .bool false,
  fun vv _ => vv = undef,
  fun vv _ => vv = undef,
  fun vv _ => vv = undef,
  fun vv _ => vv = undef,
  fun vv _ => vv = undef,
  fun vv _ => vv = .bool false,
  fun vv _ => vv = .bool false]
theorem AhdG0_next (bk10 bk11 : Nat) (b1 m1 : Int) (n1 : Nat) (l1 : List Pm) (A60 A61 : Option Addr) (c60 c61 : Nat) : ∀ k v W W', AhdG0 bk10 bk11 b1 m1 n1 l1 A60 A61 c60 c61 k v W → Below W.heap.size W W' → AhdG0 bk10 bk11 b1 m1 n1 l1 A60 A61 c60 c61 k v W' := Slot.row_next ⟨fun _ _ _ h hb => h, fun _ _ _ h hb => h, fun _ _ _ h hb => h, fun _ _ _ h hb => h, fun _ _ _ h hb => GV.next h hb, fun _ _ _ h hb => h, fun _ _ _ h hb => h, fun _ _ _ h hb => h, fun _ _ _ h hb => h, fun _ _ _ h hb => h, fun _ _ _ h hb => h, fun _ _ _ h hb => h, fun _ _ _ h hb => h, fun _ _ _ h hb => h, fun _ _ _ h hb => h, fun _ _ _ h hb => h, fun _ _ _ h hb => h, fun _ _ _ h hb => h, fun _ _ _ h hb => h, fun _ _ _ h hb => h, fun _ _ _ h hb => h, fun _ _ _ h hb => h, fun _ _ _ h hb => h, fun _ _ _ h hb => h, fun _ _ _ h hb => h, fun _ _ _ h hb => h, fun _ _ _ h hb => h, fun _ _ _ h hb => h, fun _ _ _ h hb => h, fun _ _ _ h hb => h, trivial⟩
theorem AhdG0_r1 (ρ : Operand → Value) (o : Oper) (W : World) (bk10 bk11 : Nat) (b1 m1 : Int) (n1 : Nat) (l1 : List Pm) (A60 A61 : Option Addr) (c60 c61 : Nat)  (ho : o.op = Op.binOp BinOp.eql 25 (Operand.tmp 92) (Operand.const (Value.int IntKind.u64 2)) 25) (h0 : ρ (Operand.tmp 92) = .int .u64 2) (h1 : ρ (Operand.const (Value.int IntKind.u64 2)) = .int .u64 2) : (execOp ρ o).run Tryd.prog W = .ok (.value (.bool true)) W := by
  unfold execOp
  rw [ho]
  go_simp
theorem AhdG0_r3 (ρ : Operand → Value) (o : Oper) (W : World) (bk10 bk11 : Nat) (b1 m1 : Int) (n1 : Nat) (l1 : List Pm) (A60 A61 : Option Addr) (c60 c61 : Nat)  (ho : o.op = Op.load 24 (Operand.tmp 15)) (h0 : ρ (Operand.tmp 15) = .pointer (some ⟨bk10, 0, none⟩)) (g0 : W.cell? ⟨bk10, 0, none⟩ = some (.int .i64 b1)) (g1 : W.cell? ⟨bk10, 1, none⟩ = some (.int .i64 m1)) (g2 : W.cell? ⟨bk10, 2, none⟩ = some (.int .i64 0)) (g3 : W.cell? ⟨bk10, 3, none⟩ = some (.slice A60 n1 c60)) : (execOp ρ o).run Tryd.prog W = .ok (.value (.agg #[.int .i64 b1, .int .i64 m1, .int .i64 0, .slice A60 n1 c60])) W := by
  unfold execOp
  rw [ho]
  go_simp
theorem AhdG0_r5 (ρ : Operand → Value) (o : Oper) (W : World) (bk10 bk11 : Nat) (b1 m1 : Int) (n1 : Nat) (l1 : List Pm) (A60 A61 : Option Addr) (c60 c61 : Nat)  (ho : o.op = Op.load 34 (Operand.tmp 18)) (h0 : ρ (Operand.tmp 18) = .pointer (some ⟨bk11, 0, none⟩)) (g0 : W.cell? ⟨bk11, 0, none⟩ = some (.int .i64 b1)) (g1 : W.cell? ⟨bk11, 1, none⟩ = some (.int .i64 m1)) (g2 : W.cell? ⟨bk11, 2, none⟩ = some (.int .i64 0)) (g3 : W.cell? ⟨bk11, 3, none⟩ = some (.slice A61 n1 c61)) : (execOp ρ o).run Tryd.prog W = .ok (.value (.agg #[.int .i64 b1, .int .i64 m1, .int .i64 0, .slice A61 n1 c61])) W := by
  unfold execOp
  rw [ho]
  go_simp
theorem AhdG0_r7 (ρ : Operand → Value) (o : Oper) (W : World) (bk10 bk11 : Nat) (b1 m1 : Int) (n1 : Nat) (l1 : List Pm) (A60 A61 : Option Addr) (c60 c61 : Nat)  (ho : o.op = Op.unOp UnOp.not 4 (Operand.tmp 98)) (h0 : ρ (Operand.tmp 98) = .bool true) : (execOp ρ o).run Tryd.prog W = .ok (.value (.bool false)) W := by
  unfold execOp
  rw [ho]
  go_simp
theorem AhdG0_r11 (ρ : Operand → Value) (o : Oper) (W : World) (bk10 bk11 : Nat) (b1 m1 : Int) (n1 : Nat) (l1 : List Pm) (A60 A61 : Option Addr) (c60 c61 : Nat)  (ho : o.op = Op.binOp BinOp.eql 25 (Operand.tmp 102) (Operand.const (Value.int IntKind.u64 3)) 25) (h0 : ρ (Operand.tmp 102) = .int .u64 2) (h1 : ρ (Operand.const (Value.int IntKind.u64 3)) = .int .u64 3) : (execOp ρ o).run Tryd.prog W = .ok (.value (.bool false)) W := by
  unfold execOp
  rw [ho]
  go_simp
def AhdH0  : Nat → Value → World → Prop := Slot.row [
fun vv _ => vv = .int .u64 3,
  fun vv _ => vv = .int .u64 2,
  fun vv _ => vv = .int .u64 3,
  fun vv _ => vv = .bool true,
  fun vv _ => vv = .bool true,
  fun vv _ => vv = undef,
  fun vv _ => vv = undef,
  fun vv _ => vv = undef,
  fun vv _ => vv = undef,
  fun vv _ => vv = undef,
  fun vv _ => vv = undef,
  fun vv _ => vv = undef,
  fun vv _ => vv = undef,
  fun vv _ => vv = undef,
  fun vv _ => vv = undef,
  fun vv _ => vv = undef,
  fun vv _ => vv = undef,
  fun vv _ => vv = .bool true,
  fun vv _ => vv = .bool true]
theorem AhdH0_next  : ∀ k v W W', AhdH0  k v W → Below W.heap.size W W' → AhdH0  k v W' := Slot.row_next ⟨fun _ _ _ h hb => h, fun _ _ _ h hb => h, fun _ _ _ h hb => h, fun _ _ _ h hb => h, fun _ _ _ h hb => h, fun _ _ _ h hb => h, fun _ _ _ h hb => h, fun _ _ _ h hb => h, fun _ _ _ h hb => h, fun _ _ _ h hb => h, fun _ _ _ h hb => h, fun _ _ _ h hb => h, fun _ _ _ h hb => h, fun _ _ _ h hb => h, fun _ _ _ h hb => h, fun _ _ _ h hb => h, fun _ _ _ h hb => h, fun _ _ _ h hb => h, fun _ _ _ h hb => h, trivial⟩
theorem AhdH0_r2 (ρ : Operand → Value) (o : Oper) (W : World)   (ho : o.op = Op.binOp BinOp.add 25 (Operand.tmp 131) (Operand.const (Value.int IntKind.u64 1)) 25) (h0 : ρ (Operand.tmp 131) = .int .u64 2) (h1 : ρ (Operand.const (Value.int IntKind.u64 1)) = .int .u64 1) : (execOp ρ o).run Tryd.prog W = .ok (.value (.int .u64 3)) W := by
  unfold execOp
  rw [ho]
  go_simp
  first | rfl | decide
theorem AhdH0_r3 (ρ : Operand → Value) (o : Oper) (W : World)   (ho : o.op = Op.binOp BinOp.eql 25 (Operand.tmp 130) (Operand.tmp 132) 25) (h0 : ρ (Operand.tmp 130) = .int .u64 3) (h1 : ρ (Operand.tmp 132) = .int .u64 3) : (execOp ρ o).run Tryd.prog W = .ok (.value (.bool true)) W := by
  unfold execOp
  rw [ho]
  go_simp
def AhdG1 (bk6 bk10 bk12 : Nat) (b2 m2 k2 : Int) (n2 p2' : Nat) (l2 : List Pm) (B2 A60 A62 A64 : Option Addr) (c60 c62 c64 gs cs : Nat) (q64 z p3 : List Int) : Nat → Value → World → Prop := Slot.row [
fun vv _ => vv = .int .u64 3,
  fun vv _ => vv = .bool false,
  fun vv _ => vv = .bool false,
  fun vv _ => vv = undef,
  fun vv _ => vv = undef,
  fun vv _ => vv = undef,
  fun vv _ => vv = undef,
  fun vv _ => vv = undef,
  fun vv _ => vv = .bool false,
  fun vv _ => vv = .bool false,
  fun vv _ => vv = .int .u64 3,
  fun vv _ => vv = .bool true,
  fun vv _ => vv = .bool true,
  fun vv _ => vv = .slice (some ⟨gs, 0, none⟩) 2 cs,
  fun vv _ => vv = .pointer (some ⟨gs, 1, none⟩),
  fun vv _ => vv = .slice A64 q64.length c64,
  fun vv _ => vv = .string (strOfNums z),
  fun vv _ => vv = .agg #[.int .i64 b2, .int .i64 m2, .int .i64 k2, .slice B2 n2 p2'],
  fun vv w' => PS vv w' p3,
  fun vv _ => vv = .string (strOfNums p3),
  fun vv _ => vv = .bool true,
  fun vv _ => vv = .bool true,
  fun vv _ => vv = .bool true,
  fun vv _ => vv = .agg #[.int .i64 b2, .int .i64 m2, .int .i64 0, .slice A60 n2 c60],
  fun vv w' => GV vv w' b2 m2 0 n2 l2,
  fun vv _ => vv = .agg #[.int .i64 b2, .int .i64 m2, .int .i64 0, .slice A62 n2 c62],
  fun vv _ => vv = .bool true,
  fun vv _ => vv = .bool false,
  fun vv _ => vv = .bool false,
  fun vv _ => vv = .bool false]
theorem AhdG1_next (bk6 bk10 bk12 : Nat) (b2 m2 k2 : Int) (n2 p2' : Nat) (l2 : List Pm) (B2 A60 A62 A64 : Option Addr) (c60 c62 c64 gs cs : Nat) (q64 z p3 : List Int) : ∀ k v W W', AhdG1 bk6 bk10 bk12 b2 m2 k2 n2 p2' l2 B2 A60 A62 A64 c60 c62 c64 gs cs q64 z p3 k v W → Below W.heap.size W W' → AhdG1 bk6 bk10 bk12 b2 m2 k2 n2 p2' l2 B2 A60 A62 A64 c60 c62 c64 gs cs q64 z p3 k v W' := Slot.row_next ⟨fun _ _ _ h hb => h, fun _ _ _ h hb => h, fun _ _ _ h hb => h, fun _ _ _ h hb => h, fun _ _ _ h hb => h, fun _ _ _ h hb => h, fun _ _ _ h hb => h, fun _ _ _ h hb => h, fun _ _ _ h hb => h, fun _ _ _ h hb => h, fun _ _ _ h hb => h, fun _ _ _ h hb => h, fun _ _ _ h hb => h, fun _ _ _ h hb => h, fun _ _ _ h hb => h, fun _ _ _ h hb => h, fun _ _ _ h hb => h, fun _ _ _ h hb => h, fun _ _ _ h hb => PS.next h hb, fun _ _ _ h hb => h, fun _ _ _ h hb => h, fun _ _ _ h hb => h, fun _ _ _ h hb => h, fun _ _ _ h hb => h, fun _ _ _ h hb => GV.next h hb, fun _ _ _ h hb => h, fun _ _ _ h hb => h, fun _ _ _ h hb => h, fun _ _ _ h hb => h, fun _ _ _ h hb => h, trivial⟩
theorem AhdG1_r1 (ρ : Operand → Value) (o : Oper) (W : World) (bk6 bk10 bk12 : Nat) (b2 m2 k2 : Int) (n2 p2' : Nat) (l2 : List Pm) (B2 A60 A62 A64 : Option Addr) (c60 c62 c64 gs cs : Nat) (q64 z p3 : List Int)  (ho : o.op = Op.binOp BinOp.eql 25 (Operand.tmp 92) (Operand.const (Value.int IntKind.u64 2)) 25) (h0 : ρ (Operand.tmp 92) = .int .u64 3) (h1 : ρ (Operand.const (Value.int IntKind.u64 2)) = .int .u64 2) : (execOp ρ o).run Tryd.prog W = .ok (.value (.bool false)) W := by
  unfold execOp
  rw [ho]
  go_simp
theorem AhdG1_r11 (ρ : Operand → Value) (o : Oper) (W : World) (bk6 bk10 bk12 : Nat) (b2 m2 k2 : Int) (n2 p2' : Nat) (l2 : List Pm) (B2 A60 A62 A64 : Option Addr) (c60 c62 c64 gs cs : Nat) (q64 z p3 : List Int)  (ho : o.op = Op.binOp BinOp.eql 25 (Operand.tmp 102) (Operand.const (Value.int IntKind.u64 3)) 25) (h0 : ρ (Operand.tmp 102) = .int .u64 3) (h1 : ρ (Operand.const (Value.int IntKind.u64 3)) = .int .u64 3) : (execOp ρ o).run Tryd.prog W = .ok (.value (.bool true)) W := by
  unfold execOp
  rw [ho]
  go_simp
theorem AhdG1_r14 (ρ : Operand → Value) (o : Oper) (W : World) (bk6 bk10 bk12 : Nat) (b2 m2 k2 : Int) (n2 p2' : Nat) (l2 : List Pm) (B2 A60 A62 A64 : Option Addr) (c60 c62 c64 gs cs : Nat) (q64 z p3 : List Int)  (ho : o.op = Op.indexAddr 53 (Operand.tmp 105) (Operand.const (Value.int IntKind.i64 1))) (h0 : ρ (Operand.tmp 105) = .slice (some ⟨gs, 0, none⟩) 2 cs) (h1 : ρ (Operand.const (Value.int IntKind.i64 1)) = .int .i64 1) : (execOp ρ o).run Tryd.prog W = .ok (.value (.pointer (some ⟨gs, 1, none⟩))) W := by
  unfold execOp
  rw [ho]
  go_simp
theorem AhdG1_r15 (ρ : Operand → Value) (o : Oper) (W : World) (bk6 bk10 bk12 : Nat) (b2 m2 k2 : Int) (n2 p2' : Nat) (l2 : List Pm) (B2 A60 A62 A64 : Option Addr) (c60 c62 c64 gs cs : Nat) (q64 z p3 : List Int)  (ho : o.op = Op.load 26 (Operand.tmp 106)) (h0 : ρ (Operand.tmp 106) = .pointer (some ⟨gs, 1, none⟩)) (g1 : W.cell? ⟨gs, 1, none⟩ = some (.slice A64 q64.length c64)) : (execOp ρ o).run Tryd.prog W = .ok (.value (.slice A64 q64.length c64)) W := by
  unfold execOp
  rw [ho]
  go_simp
theorem AhdG1_r17 (ρ : Operand → Value) (o : Oper) (W : World) (bk6 bk10 bk12 : Nat) (b2 m2 k2 : Int) (n2 p2' : Nat) (l2 : List Pm) (B2 A60 A62 A64 : Option Addr) (c60 c62 c64 gs cs : Nat) (q64 z p3 : List Int)  (ho : o.op = Op.load 24 (Operand.tmp 6)) (h0 : ρ (Operand.tmp 6) = .pointer (some ⟨bk6, 0, none⟩)) (g0 : W.cell? ⟨bk6, 0, none⟩ = some (.int .i64 b2)) (g1 : W.cell? ⟨bk6, 1, none⟩ = some (.int .i64 m2)) (g2 : W.cell? ⟨bk6, 2, none⟩ = some (.int .i64 k2)) (g3 : W.cell? ⟨bk6, 3, none⟩ = some (.slice B2 n2 p2')) : (execOp ρ o).run Tryd.prog W = .ok (.value (.agg #[.int .i64 b2, .int .i64 m2, .int .i64 k2, .slice B2 n2 p2'])) W := by
  unfold execOp
  rw [ho]
  go_simp
theorem AhdG1_r20 (ρ : Operand → Value) (o : Oper) (W : World) (bk6 bk10 bk12 : Nat) (b2 m2 k2 : Int) (n2 p2' : Nat) (l2 : List Pm) (B2 A60 A62 A64 : Option Addr) (c60 c62 c64 gs cs : Nat) (q64 z p3 : List Int)  (ho : o.op = Op.binOp BinOp.eql 9 (Operand.tmp 108) (Operand.tmp 111) 9) (h0 : ρ (Operand.tmp 108) = .string (strOfNums z)) (h1 : ρ (Operand.tmp 111) = .string (strOfNums p3)) (hz : z = p3) : (execOp ρ o).run Tryd.prog W = .ok (.value (.bool true)) W := by
  unfold execOp
  rw [ho]
  go_simp
theorem AhdG1_r23 (ρ : Operand → Value) (o : Oper) (W : World) (bk6 bk10 bk12 : Nat) (b2 m2 k2 : Int) (n2 p2' : Nat) (l2 : List Pm) (B2 A60 A62 A64 : Option Addr) (c60 c62 c64 gs cs : Nat) (q64 z p3 : List Int)  (ho : o.op = Op.load 24 (Operand.tmp 15)) (h0 : ρ (Operand.tmp 15) = .pointer (some ⟨bk10, 0, none⟩)) (g0 : W.cell? ⟨bk10, 0, none⟩ = some (.int .i64 b2)) (g1 : W.cell? ⟨bk10, 1, none⟩ = some (.int .i64 m2)) (g2 : W.cell? ⟨bk10, 2, none⟩ = some (.int .i64 0)) (g3 : W.cell? ⟨bk10, 3, none⟩ = some (.slice A60 n2 c60)) : (execOp ρ o).run Tryd.prog W = .ok (.value (.agg #[.int .i64 b2, .int .i64 m2, .int .i64 0, .slice A60 n2 c60])) W := by
  unfold execOp
  rw [ho]
  go_simp
theorem AhdG1_r25 (ρ : Operand → Value) (o : Oper) (W : World) (bk6 bk10 bk12 : Nat) (b2 m2 k2 : Int) (n2 p2' : Nat) (l2 : List Pm) (B2 A60 A62 A64 : Option Addr) (c60 c62 c64 gs cs : Nat) (q64 z p3 : List Int)  (ho : o.op = Op.load 34 (Operand.tmp 19)) (h0 : ρ (Operand.tmp 19) = .pointer (some ⟨bk12, 0, none⟩)) (g0 : W.cell? ⟨bk12, 0, none⟩ = some (.int .i64 b2)) (g1 : W.cell? ⟨bk12, 1, none⟩ = some (.int .i64 m2)) (g2 : W.cell? ⟨bk12, 2, none⟩ = some (.int .i64 0)) (g3 : W.cell? ⟨bk12, 3, none⟩ = some (.slice A62 n2 c62)) : (execOp ρ o).run Tryd.prog W = .ok (.value (.agg #[.int .i64 b2, .int .i64 m2, .int .i64 0, .slice A62 n2 c62])) W := by
  unfold execOp
  rw [ho]
  go_simp
theorem AhdG1_r27 (ρ : Operand → Value) (o : Oper) (W : World) (bk6 bk10 bk12 : Nat) (b2 m2 k2 : Int) (n2 p2' : Nat) (l2 : List Pm) (B2 A60 A62 A64 : Option Addr) (c60 c62 c64 gs cs : Nat) (q64 z p3 : List Int)  (ho : o.op = Op.unOp UnOp.not 4 (Operand.tmp 118)) (h0 : ρ (Operand.tmp 118) = .bool true) : (execOp ρ o).run Tryd.prog W = .ok (.value (.bool false)) W := by
  unfold execOp
  rw [ho]
  go_simp
def AhdH1  : Nat → Value → World → Prop := Slot.row [
fun vv _ => vv = .int .u64 4,
  fun vv _ => vv = .int .u64 3,
  fun vv _ => vv = .int .u64 4,
  fun vv _ => vv = .bool true,
  fun vv _ => vv = .bool true,
  fun vv _ => vv = undef,
  fun vv _ => vv = undef,
  fun vv _ => vv = undef,
  fun vv _ => vv = undef,
  fun vv _ => vv = undef,
  fun vv _ => vv = undef,
  fun vv _ => vv = undef,
  fun vv _ => vv = undef,
  fun vv _ => vv = undef,
  fun vv _ => vv = undef,
  fun vv _ => vv = undef,
  fun vv _ => vv = undef,
  fun vv _ => vv = .bool true,
  fun vv _ => vv = .bool true]
theorem AhdH1_next  : ∀ k v W W', AhdH1  k v W → Below W.heap.size W W' → AhdH1  k v W' := Slot.row_next ⟨fun _ _ _ h hb => h, fun _ _ _ h hb => h, fun _ _ _ h hb => h, fun _ _ _ h hb => h, fun _ _ _ h hb => h, fun _ _ _ h hb => h, fun _ _ _ h hb => h, fun _ _ _ h hb => h, fun _ _ _ h hb => h, fun _ _ _ h hb => h, fun _ _ _ h hb => h, fun _ _ _ h hb => h, fun _ _ _ h hb => h, fun _ _ _ h hb => h, fun _ _ _ h hb => h, fun _ _ _ h hb => h, fun _ _ _ h hb => h, fun _ _ _ h hb => h, fun _ _ _ h hb => h, trivial⟩
theorem AhdH1_r2 (ρ : Operand → Value) (o : Oper) (W : World)   (ho : o.op = Op.binOp BinOp.add 25 (Operand.tmp 131) (Operand.const (Value.int IntKind.u64 1)) 25) (h0 : ρ (Operand.tmp 131) = .int .u64 3) (h1 : ρ (Operand.const (Value.int IntKind.u64 1)) = .int .u64 1) : (execOp ρ o).run Tryd.prog W = .ok (.value (.int .u64 4)) W := by
  unfold execOp
  rw [ho]
  go_simp
  first | rfl | decide
theorem AhdH1_r3 (ρ : Operand → Value) (o : Oper) (W : World)   (ho : o.op = Op.binOp BinOp.eql 25 (Operand.tmp 130) (Operand.tmp 132) 25) (h0 : ρ (Operand.tmp 130) = .int .u64 4) (h1 : ρ (Operand.tmp 132) = .int .u64 4) : (execOp ρ o).run Tryd.prog W = .ok (.value (.bool true)) W := by
  unfold execOp
  rw [ho]
  go_simp
def AhdG2 (bk6 bk10 bk12 : Nat) (b2 m2 k2 : Int) (n2 p2' : Nat) (l2 : List Pm) (B2 A60 A62 A64 : Option Addr) (c60 c62 c64 gs cs : Nat) (q64 z p3 : List Int) : Nat → Value → World → Prop := Slot.row [
fun vv _ => vv = .int .u64 3,
  fun vv _ => vv = .bool false,
  fun vv _ => vv = .bool false,
  fun vv _ => vv = undef,
  fun vv _ => vv = undef,
  fun vv _ => vv = undef,
  fun vv _ => vv = undef,
  fun vv _ => vv = undef,
  fun vv _ => vv = .bool false,
  fun vv _ => vv = .bool false,
  fun vv _ => vv = .int .u64 3,
  fun vv _ => vv = .bool true,
  fun vv _ => vv = .bool true,
  fun vv _ => vv = .slice (some ⟨gs, 0, none⟩) 2 cs,
  fun vv _ => vv = .pointer (some ⟨gs, 1, none⟩),
  fun vv _ => vv = .slice A64 q64.length c64,
  fun vv _ => vv = .string (strOfNums z),
  fun vv _ => vv = .agg #[.int .i64 b2, .int .i64 m2, .int .i64 k2, .slice B2 n2 p2'],
  fun vv w' => PS vv w' p3,
  fun vv _ => vv = .string (strOfNums p3),
  fun vv _ => vv = .bool false,
  fun vv _ => vv = .bool false,
  fun vv _ => vv = .bool false,
  fun vv _ => vv = undef,
  fun vv _ => vv = undef,
  fun vv _ => vv = undef,
  fun vv _ => vv = undef,
  fun vv _ => vv = undef,
  fun vv _ => vv = .bool false,
  fun vv _ => vv = .bool false]
theorem AhdG2_next (bk6 bk10 bk12 : Nat) (b2 m2 k2 : Int) (n2 p2' : Nat) (l2 : List Pm) (B2 A60 A62 A64 : Option Addr) (c60 c62 c64 gs cs : Nat) (q64 z p3 : List Int) : ∀ k v W W', AhdG2 bk6 bk10 bk12 b2 m2 k2 n2 p2' l2 B2 A60 A62 A64 c60 c62 c64 gs cs q64 z p3 k v W → Below W.heap.size W W' → AhdG2 bk6 bk10 bk12 b2 m2 k2 n2 p2' l2 B2 A60 A62 A64 c60 c62 c64 gs cs q64 z p3 k v W' := Slot.row_next ⟨fun _ _ _ h hb => h, fun _ _ _ h hb => h, fun _ _ _ h hb => h, fun _ _ _ h hb => h, fun _ _ _ h hb => h, fun _ _ _ h hb => h, fun _ _ _ h hb => h, fun _ _ _ h hb => h, fun _ _ _ h hb => h, fun _ _ _ h hb => h, fun _ _ _ h hb => h, fun _ _ _ h hb => h, fun _ _ _ h hb => h, fun _ _ _ h hb => h, fun _ _ _ h hb => h, fun _ _ _ h hb => h, fun _ _ _ h hb => h, fun _ _ _ h hb => h, fun _ _ _ h hb => PS.next h hb, fun _ _ _ h hb => h, fun _ _ _ h hb => h, fun _ _ _ h hb => h, fun _ _ _ h hb => h, fun _ _ _ h hb => h, fun _ _ _ h hb => h, fun _ _ _ h hb => h, fun _ _ _ h hb => h, fun _ _ _ h hb => h, fun _ _ _ h hb => h, fun _ _ _ h hb => h, trivial⟩
theorem AhdG2_r1 (ρ : Operand → Value) (o : Oper) (W : World) (bk6 bk10 bk12 : Nat) (b2 m2 k2 : Int) (n2 p2' : Nat) (l2 : List Pm) (B2 A60 A62 A64 : Option Addr) (c60 c62 c64 gs cs : Nat) (q64 z p3 : List Int)  (ho : o.op = Op.binOp BinOp.eql 25 (Operand.tmp 92) (Operand.const (Value.int IntKind.u64 2)) 25) (h0 : ρ (Operand.tmp 92) = .int .u64 3) (h1 : ρ (Operand.const (Value.int IntKind.u64 2)) = .int .u64 2) : (execOp ρ o).run Tryd.prog W = .ok (.value (.bool false)) W := by
  unfold execOp
  rw [ho]
  go_simp
theorem AhdG2_r11 (ρ : Operand → Value) (o : Oper) (W : World) (bk6 bk10 bk12 : Nat) (b2 m2 k2 : Int) (n2 p2' : Nat) (l2 : List Pm) (B2 A60 A62 A64 : Option Addr) (c60 c62 c64 gs cs : Nat) (q64 z p3 : List Int)  (ho : o.op = Op.binOp BinOp.eql 25 (Operand.tmp 102) (Operand.const (Value.int IntKind.u64 3)) 25) (h0 : ρ (Operand.tmp 102) = .int .u64 3) (h1 : ρ (Operand.const (Value.int IntKind.u64 3)) = .int .u64 3) : (execOp ρ o).run Tryd.prog W = .ok (.value (.bool true)) W := by
  unfold execOp
  rw [ho]
  go_simp
theorem AhdG2_r14 (ρ : Operand → Value) (o : Oper) (W : World) (bk6 bk10 bk12 : Nat) (b2 m2 k2 : Int) (n2 p2' : Nat) (l2 : List Pm) (B2 A60 A62 A64 : Option Addr) (c60 c62 c64 gs cs : Nat) (q64 z p3 : List Int)  (ho : o.op = Op.indexAddr 53 (Operand.tmp 105) (Operand.const (Value.int IntKind.i64 1))) (h0 : ρ (Operand.tmp 105) = .slice (some ⟨gs, 0, none⟩) 2 cs) (h1 : ρ (Operand.const (Value.int IntKind.i64 1)) = .int .i64 1) : (execOp ρ o).run Tryd.prog W = .ok (.value (.pointer (some ⟨gs, 1, none⟩))) W := by
  unfold execOp
  rw [ho]
  go_simp
theorem AhdG2_r15 (ρ : Operand → Value) (o : Oper) (W : World) (bk6 bk10 bk12 : Nat) (b2 m2 k2 : Int) (n2 p2' : Nat) (l2 : List Pm) (B2 A60 A62 A64 : Option Addr) (c60 c62 c64 gs cs : Nat) (q64 z p3 : List Int)  (ho : o.op = Op.load 26 (Operand.tmp 106)) (h0 : ρ (Operand.tmp 106) = .pointer (some ⟨gs, 1, none⟩)) (g1 : W.cell? ⟨gs, 1, none⟩ = some (.slice A64 q64.length c64)) : (execOp ρ o).run Tryd.prog W = .ok (.value (.slice A64 q64.length c64)) W := by
  unfold execOp
  rw [ho]
  go_simp
theorem AhdG2_r17 (ρ : Operand → Value) (o : Oper) (W : World) (bk6 bk10 bk12 : Nat) (b2 m2 k2 : Int) (n2 p2' : Nat) (l2 : List Pm) (B2 A60 A62 A64 : Option Addr) (c60 c62 c64 gs cs : Nat) (q64 z p3 : List Int)  (ho : o.op = Op.load 24 (Operand.tmp 6)) (h0 : ρ (Operand.tmp 6) = .pointer (some ⟨bk6, 0, none⟩)) (g0 : W.cell? ⟨bk6, 0, none⟩ = some (.int .i64 b2)) (g1 : W.cell? ⟨bk6, 1, none⟩ = some (.int .i64 m2)) (g2 : W.cell? ⟨bk6, 2, none⟩ = some (.int .i64 k2)) (g3 : W.cell? ⟨bk6, 3, none⟩ = some (.slice B2 n2 p2')) : (execOp ρ o).run Tryd.prog W = .ok (.value (.agg #[.int .i64 b2, .int .i64 m2, .int .i64 k2, .slice B2 n2 p2'])) W := by
  unfold execOp
  rw [ho]
  go_simp
theorem AhdG2_r20 (ρ : Operand → Value) (o : Oper) (W : World) (bk6 bk10 bk12 : Nat) (b2 m2 k2 : Int) (n2 p2' : Nat) (l2 : List Pm) (B2 A60 A62 A64 : Option Addr) (c60 c62 c64 gs cs : Nat) (q64 z p3 : List Int)  (ho : o.op = Op.binOp BinOp.eql 9 (Operand.tmp 108) (Operand.tmp 111) 9) (h0 : ρ (Operand.tmp 108) = .string (strOfNums z)) (h1 : ρ (Operand.tmp 111) = .string (strOfNums p3)) (hz : (strOfNums z).toList ≠ (strOfNums p3).toList) : (execOp ρ o).run Tryd.prog W = .ok (.value (.bool false)) W := by
  unfold execOp
  rw [ho]
  go_simp
def AhdH2  : Nat → Value → World → Prop := Slot.row [
fun vv _ => vv = .int .u64 4,
  fun vv _ => vv = .int .u64 3,
  fun vv _ => vv = .int .u64 4,
  fun vv _ => vv = .bool true,
  fun vv _ => vv = .bool true,
  fun vv _ => vv = undef,
  fun vv _ => vv = undef,
  fun vv _ => vv = undef,
  fun vv _ => vv = undef,
  fun vv _ => vv = undef,
  fun vv _ => vv = undef,
  fun vv _ => vv = undef,
  fun vv _ => vv = undef,
  fun vv _ => vv = undef,
  fun vv _ => vv = undef,
  fun vv _ => vv = undef,
  fun vv _ => vv = undef,
  fun vv _ => vv = .bool true,
  fun vv _ => vv = .bool true]
theorem AhdH2_next  : ∀ k v W W', AhdH2  k v W → Below W.heap.size W W' → AhdH2  k v W' := Slot.row_next ⟨fun _ _ _ h hb => h, fun _ _ _ h hb => h, fun _ _ _ h hb => h, fun _ _ _ h hb => h, fun _ _ _ h hb => h, fun _ _ _ h hb => h, fun _ _ _ h hb => h, fun _ _ _ h hb => h, fun _ _ _ h hb => h, fun _ _ _ h hb => h, fun _ _ _ h hb => h, fun _ _ _ h hb => h, fun _ _ _ h hb => h, fun _ _ _ h hb => h, fun _ _ _ h hb => h, fun _ _ _ h hb => h, fun _ _ _ h hb => h, fun _ _ _ h hb => h, fun _ _ _ h hb => h, trivial⟩
theorem AhdH2_r2 (ρ : Operand → Value) (o : Oper) (W : World)   (ho : o.op = Op.binOp BinOp.add 25 (Operand.tmp 131) (Operand.const (Value.int IntKind.u64 1)) 25) (h0 : ρ (Operand.tmp 131) = .int .u64 3) (h1 : ρ (Operand.const (Value.int IntKind.u64 1)) = .int .u64 1) : (execOp ρ o).run Tryd.prog W = .ok (.value (.int .u64 4)) W := by
  unfold execOp
  rw [ho]
  go_simp
  first | rfl | decide
theorem AhdH2_r3 (ρ : Operand → Value) (o : Oper) (W : World)   (ho : o.op = Op.binOp BinOp.eql 25 (Operand.tmp 130) (Operand.tmp 132) 25) (h0 : ρ (Operand.tmp 130) = .int .u64 4) (h1 : ρ (Operand.tmp 132) = .int .u64 4) : (execOp ρ o).run Tryd.prog W = .ok (.value (.bool true)) W := by
  unfold execOp
  rw [ho]
  go_simp
/-- a write's places, by what is told ahead of it -/
theorem wr_at {z0 z1 : List Int} (h0 : By z0) (h1 : By z1) {s : Int} (hs : (JrnP.load z0 z1).s = s) (hlt : s < 18446744073709551615) (b m : Int) (l : List Pm) :
    ((s + 1) % 2 = 0 → wr0 z0 z1 b m l = put b m l (s + 1) ∧ wr1 z0 z1 b m l = z1) ∧ ((s + 1) % 2 = 1 → wr0 z0 z1 b m l = z0 ∧ wr1 z0 z1 b m l = put b m l (s + 1)) := by
  have hn : nxt z0 z1 = s + 1 := by rw [nxt_eq h0 h1 (by omega), hs]
  unfold wr0 wr1
  rw [hn]
  exact ⟨fun h => ⟨if_pos h, if_pos h⟩, fun h => ⟨if_neg (by omega), if_neg (by omega)⟩⟩

set_option maxHeartbeats 51200000 in
theorem journalAhead_walk (w : World) (ht : Tab w) (x0 x1 x2 : Lg) (d : Int) (hx0 : x0.In w) (hx1 : x1.In w) (hx2 : x2.In w) (hw : (Lit.int .i64 d).wf = true) :
    Calls Tryd.prog 6 #[x0.val, x1.val, x2.val, .int .i64 d] w fun e w' => e = .returned (.bool true) ∧ Below w.heap.size w w' := by
  have hd : d ≤ 9223372036854775807 := (bounds_i64 hw).2
  have HI0 := Lib.hid (Lg.li hx0)
  have HI1 := Lib.hid (Lg.li hx1)
  have HI2 := Lib.hid (Lg.li hx2)
  obtain ⟨b0, m0, k0, B0, p0', l0⟩ := x0
  obtain ⟨b1, m1, k1, B1, p1', l1⟩ := x1
  obtain ⟨b2, m2, k2, B2, p2', l2⟩ := x2
  unfold Lg.val
  simp only at HI0 HI1 HI2 ⊢
  obtain ⟨n0, hn0⟩ : ∃ n, l0.length = n := ⟨_, rfl⟩
  obtain ⟨n1, hn1⟩ : ∃ n, l1.length = n := ⟨_, rfl⟩
  obtain ⟨n2, hn2⟩ : ∃ n, l2.length = n := ⟨_, rfl⟩
  rw [hn0] at HI0 ⊢
  rw [hn1] at HI1 ⊢
  rw [hn2] at HI2 ⊢
  have hX : Below w.heap.size w (((w.alloc (.cells #[.int .i64 b0, .int .i64 m0, .int .i64 k0, .slice B0 n0 p0'] 24)).alloc (.cells #[.int .i64 b1, .int .i64 m1, .int .i64 k1, .slice B1 n1 p1'] 24)).alloc (.cells #[.int .i64 b2, .int .i64 m2, .int .i64 k2, .slice B2 n2 p2'] 24)) := below_more below_two below_box (by simp)
  have TB_0 := Lib.hid (ht.next hX)
  have BE_0 := Lib.hid (BW.mk hX)
  have LX0_0 := Lib.hid (HI0.out.next hX)
  have LX1_0 := Lib.hid (HI1.out.next hX)
  have LX2_0 := Lib.hid (HI2.out.next hX)
  have X0_0 := Lib.hid (((BxT.new w #[.int .i64 b0, .int .i64 m0, .int .i64 k0, .slice B0 n0 p0'] 24).next (below_box (o := .cells #[.int .i64 b1, .int .i64 m1, .int .i64 k1, .slice B1 n1 p1'] 24))).next (below_box (o := .cells #[.int .i64 b2, .int .i64 m2, .int .i64 k2, .slice B2 n2 p2'] 24)))
  have X1_0 := Lib.hid ((BxT.new (w.alloc (.cells #[.int .i64 b0, .int .i64 m0, .int .i64 k0, .slice B0 n0 p0'] 24)) #[.int .i64 b1, .int .i64 m1, .int .i64 k1, .slice B1 n1 p1'] 24).next (below_box (o := .cells #[.int .i64 b2, .int .i64 m2, .int .i64 k2, .slice B2 n2 p2'] 24)))
  have X2_0 := Lib.hid (BxT.new ((w.alloc (.cells #[.int .i64 b0, .int .i64 m0, .int .i64 k0, .slice B0 n0 p0'] 24)).alloc (.cells #[.int .i64 b1, .int .i64 m1, .int .i64 k1, .slice B1 n1 p1'] 24)) #[.int .i64 b2, .int .i64 m2, .int .i64 k2, .slice B2 n2 p2'] 24)
  simp only [World.size_alloc] at X1_0 X2_0
  clear HI0 HI1 HI2 hX hx0 hx1 hx2 hw
  obtain ⟨x00, x01, x02, x03⟩ := X0_0.out.bx.c4
  obtain ⟨x10, x11, x12, x13⟩ := X1_0.out.bx.c4
  obtain ⟨x20, x21, x22, x23⟩ := X2_0.out.bx.c4
  by_cases h80 : n0 ≤ 80
  · have f0 : decide (n0 ≤ 80) = true := decide_eq_true h80
    by_cases h81 : n1 ≤ 80
    · have f1 : decide (n1 ≤ 80) = true := decide_eq_true h81
      by_cases h82 : n2 ≤ 80
      · have f2 : decide (n2 ≤ 80) = true := decide_eq_true h82
        rcases hc0 : mayK b0 m0 k0 l0 with _ | _
        · have HM0 := Lib.hid hc0
          go_enter Tryd.func6, Tryd.ntmps6
          go_wp2_with (first
            | (go_at_call 9; (refine (awake_any _ TB_0.out).mono ?_; rintro e w1 ⟨rfl, h1⟩; have TB_1 := Lib.hid (TB_0.out.next h1); have BE_1 := Lib.hid (BE_0.out.next h1); have LX0_1 := Lib.hid (LX0_0.out.next h1); have LX1_1 := Lib.hid (LX1_0.out.next h1); have LX2_1 := Lib.hid (LX2_0.out.next h1); have X0_1 := Lib.hid (X0_0.out.next h1); have X1_1 := Lib.hid (X1_0.out.next h1); have X2_1 := Lib.hid (X2_0.out.next h1); clear TB_0 BE_0 LX0_0 LX1_0 LX2_0 X0_0 X1_0 X2_0 h1; obtain ⟨x00, x01, x02, x03⟩ := X0_1.out.bx.c4; obtain ⟨x10, x11, x12, x13⟩ := X1_1.out.bx.c4; obtain ⟨x20, x21, x22, x23⟩ := X2_1.out.bx.c4))
            | (go_at_call 10; (refine (few_at LX0_1.out b0 m0 k0).mono ?_; rintro e w2 ⟨rfl, h2⟩; have TB_2 := Lib.hid (TB_1.out.next h2); have BE_2 := Lib.hid (BE_1.out.next h2); have LX0_2 := Lib.hid (LX0_1.out.next h2); have LX1_2 := Lib.hid (LX1_1.out.next h2); have LX2_2 := Lib.hid (LX2_1.out.next h2); have X0_2 := Lib.hid (X0_1.out.next h2); have X1_2 := Lib.hid (X1_1.out.next h2); have X2_2 := Lib.hid (X2_1.out.next h2); rw [f0]; clear TB_1 BE_1 LX0_1 LX1_1 LX2_1 X0_1 X1_1 X2_1 h2; obtain ⟨x00, x01, x02, x03⟩ := X0_2.out.bx.c4; obtain ⟨x10, x11, x12, x13⟩ := X1_2.out.bx.c4; obtain ⟨x20, x21, x22, x23⟩ := X2_2.out.bx.c4))
            | (go_at_call 10; (refine (few_at LX1_2.out b1 m1 k1).mono ?_; rintro e w3 ⟨rfl, h3⟩; have TB_3 := Lib.hid (TB_2.out.next h3); have BE_3 := Lib.hid (BE_2.out.next h3); have LX0_3 := Lib.hid (LX0_2.out.next h3); have LX1_3 := Lib.hid (LX1_2.out.next h3); have LX2_3 := Lib.hid (LX2_2.out.next h3); have X0_3 := Lib.hid (X0_2.out.next h3); have X1_3 := Lib.hid (X1_2.out.next h3); have X2_3 := Lib.hid (X2_2.out.next h3); rw [f1]; clear TB_2 BE_2 LX0_2 LX1_2 LX2_2 X0_2 X1_2 X2_2 h3; obtain ⟨x00, x01, x02, x03⟩ := X0_3.out.bx.c4; obtain ⟨x10, x11, x12, x13⟩ := X1_3.out.bx.c4; obtain ⟨x20, x21, x22, x23⟩ := X2_3.out.bx.c4))
            | (go_at_call 10; (refine (few_at LX2_3.out b2 m2 k2).mono ?_; rintro e w4 ⟨rfl, h4⟩; have TB_4 := Lib.hid (TB_3.out.next h4); have BE_4 := Lib.hid (BE_3.out.next h4); have LX0_4 := Lib.hid (LX0_3.out.next h4); have LX1_4 := Lib.hid (LX1_3.out.next h4); have LX2_4 := Lib.hid (LX2_3.out.next h4); have X0_4 := Lib.hid (X0_3.out.next h4); have X1_4 := Lib.hid (X1_3.out.next h4); have X2_4 := Lib.hid (X2_3.out.next h4); rw [f2]; clear TB_3 BE_3 LX0_3 LX1_3 LX2_3 X0_3 X1_3 X2_3 h4; obtain ⟨x00, x01, x02, x03⟩ := X0_4.out.bx.c4; obtain ⟨x10, x11, x12, x13⟩ := X1_4.out.bx.c4; obtain ⟨x20, x21, x22, x23⟩ := X2_4.out.bx.c4))
            | (go_at_call 25; (refine (check_at LX0_4.out (by omega) b0 m0 k0).mono ?_; rintro e w5 ⟨rfl, h5⟩; have TB_5 := Lib.hid (TB_4.out.next h5); have BE_5 := Lib.hid (BE_4.out.next h5); have LX0_5 := Lib.hid (LX0_4.out.next h5); have LX1_5 := Lib.hid (LX1_4.out.next h5); have LX2_5 := Lib.hid (LX2_4.out.next h5); have X0_5 := Lib.hid (X0_4.out.next h5); have X1_5 := Lib.hid (X1_4.out.next h5); have X2_5 := Lib.hid (X2_4.out.next h5); rw [HM0.out]; clear TB_4 BE_4 LX0_4 LX1_4 LX2_4 X0_4 X1_4 X2_4 h5; obtain ⟨x00, x01, x02, x03⟩ := X0_5.out.bx.c4; obtain ⟨x10, x11, x12, x13⟩ := X1_5.out.bx.c4; obtain ⟨x20, x21, x22, x23⟩ := X2_5.out.bx.c4)))
          go_ret
          exact ⟨rfl, BE_5.out.bel⟩
        rcases hc1 : mayK b1 m1 k1 l1 with _ | _
        · have HM0 := Lib.hid hc0
          have HM1 := Lib.hid hc1
          go_enter Tryd.func6, Tryd.ntmps6
          go_wp2_with (first
            | (go_at_call 9; (refine (awake_any _ TB_0.out).mono ?_; rintro e w1 ⟨rfl, h1⟩; have TB_1 := Lib.hid (TB_0.out.next h1); have BE_1 := Lib.hid (BE_0.out.next h1); have LX0_1 := Lib.hid (LX0_0.out.next h1); have LX1_1 := Lib.hid (LX1_0.out.next h1); have LX2_1 := Lib.hid (LX2_0.out.next h1); have X0_1 := Lib.hid (X0_0.out.next h1); have X1_1 := Lib.hid (X1_0.out.next h1); have X2_1 := Lib.hid (X2_0.out.next h1); clear TB_0 BE_0 LX0_0 LX1_0 LX2_0 X0_0 X1_0 X2_0 h1; obtain ⟨x00, x01, x02, x03⟩ := X0_1.out.bx.c4; obtain ⟨x10, x11, x12, x13⟩ := X1_1.out.bx.c4; obtain ⟨x20, x21, x22, x23⟩ := X2_1.out.bx.c4))
            | (go_at_call 10; (refine (few_at LX0_1.out b0 m0 k0).mono ?_; rintro e w2 ⟨rfl, h2⟩; have TB_2 := Lib.hid (TB_1.out.next h2); have BE_2 := Lib.hid (BE_1.out.next h2); have LX0_2 := Lib.hid (LX0_1.out.next h2); have LX1_2 := Lib.hid (LX1_1.out.next h2); have LX2_2 := Lib.hid (LX2_1.out.next h2); have X0_2 := Lib.hid (X0_1.out.next h2); have X1_2 := Lib.hid (X1_1.out.next h2); have X2_2 := Lib.hid (X2_1.out.next h2); rw [f0]; clear TB_1 BE_1 LX0_1 LX1_1 LX2_1 X0_1 X1_1 X2_1 h2; obtain ⟨x00, x01, x02, x03⟩ := X0_2.out.bx.c4; obtain ⟨x10, x11, x12, x13⟩ := X1_2.out.bx.c4; obtain ⟨x20, x21, x22, x23⟩ := X2_2.out.bx.c4))
            | (go_at_call 10; (refine (few_at LX1_2.out b1 m1 k1).mono ?_; rintro e w3 ⟨rfl, h3⟩; have TB_3 := Lib.hid (TB_2.out.next h3); have BE_3 := Lib.hid (BE_2.out.next h3); have LX0_3 := Lib.hid (LX0_2.out.next h3); have LX1_3 := Lib.hid (LX1_2.out.next h3); have LX2_3 := Lib.hid (LX2_2.out.next h3); have X0_3 := Lib.hid (X0_2.out.next h3); have X1_3 := Lib.hid (X1_2.out.next h3); have X2_3 := Lib.hid (X2_2.out.next h3); rw [f1]; clear TB_2 BE_2 LX0_2 LX1_2 LX2_2 X0_2 X1_2 X2_2 h3; obtain ⟨x00, x01, x02, x03⟩ := X0_3.out.bx.c4; obtain ⟨x10, x11, x12, x13⟩ := X1_3.out.bx.c4; obtain ⟨x20, x21, x22, x23⟩ := X2_3.out.bx.c4))
            | (go_at_call 10; (refine (few_at LX2_3.out b2 m2 k2).mono ?_; rintro e w4 ⟨rfl, h4⟩; have TB_4 := Lib.hid (TB_3.out.next h4); have BE_4 := Lib.hid (BE_3.out.next h4); have LX0_4 := Lib.hid (LX0_3.out.next h4); have LX1_4 := Lib.hid (LX1_3.out.next h4); have LX2_4 := Lib.hid (LX2_3.out.next h4); have X0_4 := Lib.hid (X0_3.out.next h4); have X1_4 := Lib.hid (X1_3.out.next h4); have X2_4 := Lib.hid (X2_3.out.next h4); rw [f2]; clear TB_3 BE_3 LX0_3 LX1_3 LX2_3 X0_3 X1_3 X2_3 h4; obtain ⟨x00, x01, x02, x03⟩ := X0_4.out.bx.c4; obtain ⟨x10, x11, x12, x13⟩ := X1_4.out.bx.c4; obtain ⟨x20, x21, x22, x23⟩ := X2_4.out.bx.c4))
            | (go_at_call 25; (refine (check_at LX0_4.out (by omega) b0 m0 k0).mono ?_; rintro e w5 ⟨rfl, h5⟩; have TB_5 := Lib.hid (TB_4.out.next h5); have BE_5 := Lib.hid (BE_4.out.next h5); have LX0_5 := Lib.hid (LX0_4.out.next h5); have LX1_5 := Lib.hid (LX1_4.out.next h5); have LX2_5 := Lib.hid (LX2_4.out.next h5); have X0_5 := Lib.hid (X0_4.out.next h5); have X1_5 := Lib.hid (X1_4.out.next h5); have X2_5 := Lib.hid (X2_4.out.next h5); rw [HM0.out]; clear TB_4 BE_4 LX0_4 LX1_4 LX2_4 X0_4 X1_4 X2_4 h5; obtain ⟨x00, x01, x02, x03⟩ := X0_5.out.bx.c4; obtain ⟨x10, x11, x12, x13⟩ := X1_5.out.bx.c4; obtain ⟨x20, x21, x22, x23⟩ := X2_5.out.bx.c4))
            | (go_at_call 25; (refine (check_at LX1_5.out (by omega) b1 m1 k1).mono ?_; rintro e w6 ⟨rfl, h6⟩; have TB_6 := Lib.hid (TB_5.out.next h6); have BE_6 := Lib.hid (BE_5.out.next h6); have LX0_6 := Lib.hid (LX0_5.out.next h6); have LX1_6 := Lib.hid (LX1_5.out.next h6); have LX2_6 := Lib.hid (LX2_5.out.next h6); have X0_6 := Lib.hid (X0_5.out.next h6); have X1_6 := Lib.hid (X1_5.out.next h6); have X2_6 := Lib.hid (X2_5.out.next h6); rw [HM1.out]; clear TB_5 BE_5 LX0_5 LX1_5 LX2_5 X0_5 X1_5 X2_5 h6; obtain ⟨x00, x01, x02, x03⟩ := X0_6.out.bx.c4; obtain ⟨x10, x11, x12, x13⟩ := X1_6.out.bx.c4; obtain ⟨x20, x21, x22, x23⟩ := X2_6.out.bx.c4)))
          go_ret
          exact ⟨rfl, BE_6.out.bel⟩
        rcases hc2 : mayK b2 m2 k2 l2 with _ | _
        · have HM0 := Lib.hid hc0
          have HM1 := Lib.hid hc1
          have HM2 := Lib.hid hc2
          go_enter Tryd.func6, Tryd.ntmps6
          go_wp2_with (first
            | (go_at_call 9; (refine (awake_any _ TB_0.out).mono ?_; rintro e w1 ⟨rfl, h1⟩; have TB_1 := Lib.hid (TB_0.out.next h1); have BE_1 := Lib.hid (BE_0.out.next h1); have LX0_1 := Lib.hid (LX0_0.out.next h1); have LX1_1 := Lib.hid (LX1_0.out.next h1); have LX2_1 := Lib.hid (LX2_0.out.next h1); have X0_1 := Lib.hid (X0_0.out.next h1); have X1_1 := Lib.hid (X1_0.out.next h1); have X2_1 := Lib.hid (X2_0.out.next h1); clear TB_0 BE_0 LX0_0 LX1_0 LX2_0 X0_0 X1_0 X2_0 h1; obtain ⟨x00, x01, x02, x03⟩ := X0_1.out.bx.c4; obtain ⟨x10, x11, x12, x13⟩ := X1_1.out.bx.c4; obtain ⟨x20, x21, x22, x23⟩ := X2_1.out.bx.c4))
            | (go_at_call 10; (refine (few_at LX0_1.out b0 m0 k0).mono ?_; rintro e w2 ⟨rfl, h2⟩; have TB_2 := Lib.hid (TB_1.out.next h2); have BE_2 := Lib.hid (BE_1.out.next h2); have LX0_2 := Lib.hid (LX0_1.out.next h2); have LX1_2 := Lib.hid (LX1_1.out.next h2); have LX2_2 := Lib.hid (LX2_1.out.next h2); have X0_2 := Lib.hid (X0_1.out.next h2); have X1_2 := Lib.hid (X1_1.out.next h2); have X2_2 := Lib.hid (X2_1.out.next h2); rw [f0]; clear TB_1 BE_1 LX0_1 LX1_1 LX2_1 X0_1 X1_1 X2_1 h2; obtain ⟨x00, x01, x02, x03⟩ := X0_2.out.bx.c4; obtain ⟨x10, x11, x12, x13⟩ := X1_2.out.bx.c4; obtain ⟨x20, x21, x22, x23⟩ := X2_2.out.bx.c4))
            | (go_at_call 10; (refine (few_at LX1_2.out b1 m1 k1).mono ?_; rintro e w3 ⟨rfl, h3⟩; have TB_3 := Lib.hid (TB_2.out.next h3); have BE_3 := Lib.hid (BE_2.out.next h3); have LX0_3 := Lib.hid (LX0_2.out.next h3); have LX1_3 := Lib.hid (LX1_2.out.next h3); have LX2_3 := Lib.hid (LX2_2.out.next h3); have X0_3 := Lib.hid (X0_2.out.next h3); have X1_3 := Lib.hid (X1_2.out.next h3); have X2_3 := Lib.hid (X2_2.out.next h3); rw [f1]; clear TB_2 BE_2 LX0_2 LX1_2 LX2_2 X0_2 X1_2 X2_2 h3; obtain ⟨x00, x01, x02, x03⟩ := X0_3.out.bx.c4; obtain ⟨x10, x11, x12, x13⟩ := X1_3.out.bx.c4; obtain ⟨x20, x21, x22, x23⟩ := X2_3.out.bx.c4))
            | (go_at_call 10; (refine (few_at LX2_3.out b2 m2 k2).mono ?_; rintro e w4 ⟨rfl, h4⟩; have TB_4 := Lib.hid (TB_3.out.next h4); have BE_4 := Lib.hid (BE_3.out.next h4); have LX0_4 := Lib.hid (LX0_3.out.next h4); have LX1_4 := Lib.hid (LX1_3.out.next h4); have LX2_4 := Lib.hid (LX2_3.out.next h4); have X0_4 := Lib.hid (X0_3.out.next h4); have X1_4 := Lib.hid (X1_3.out.next h4); have X2_4 := Lib.hid (X2_3.out.next h4); rw [f2]; clear TB_3 BE_3 LX0_3 LX1_3 LX2_3 X0_3 X1_3 X2_3 h4; obtain ⟨x00, x01, x02, x03⟩ := X0_4.out.bx.c4; obtain ⟨x10, x11, x12, x13⟩ := X1_4.out.bx.c4; obtain ⟨x20, x21, x22, x23⟩ := X2_4.out.bx.c4))
            | (go_at_call 25; (refine (check_at LX0_4.out (by omega) b0 m0 k0).mono ?_; rintro e w5 ⟨rfl, h5⟩; have TB_5 := Lib.hid (TB_4.out.next h5); have BE_5 := Lib.hid (BE_4.out.next h5); have LX0_5 := Lib.hid (LX0_4.out.next h5); have LX1_5 := Lib.hid (LX1_4.out.next h5); have LX2_5 := Lib.hid (LX2_4.out.next h5); have X0_5 := Lib.hid (X0_4.out.next h5); have X1_5 := Lib.hid (X1_4.out.next h5); have X2_5 := Lib.hid (X2_4.out.next h5); rw [HM0.out]; clear TB_4 BE_4 LX0_4 LX1_4 LX2_4 X0_4 X1_4 X2_4 h5; obtain ⟨x00, x01, x02, x03⟩ := X0_5.out.bx.c4; obtain ⟨x10, x11, x12, x13⟩ := X1_5.out.bx.c4; obtain ⟨x20, x21, x22, x23⟩ := X2_5.out.bx.c4))
            | (go_at_call 25; (refine (check_at LX1_5.out (by omega) b1 m1 k1).mono ?_; rintro e w6 ⟨rfl, h6⟩; have TB_6 := Lib.hid (TB_5.out.next h6); have BE_6 := Lib.hid (BE_5.out.next h6); have LX0_6 := Lib.hid (LX0_5.out.next h6); have LX1_6 := Lib.hid (LX1_5.out.next h6); have LX2_6 := Lib.hid (LX2_5.out.next h6); have X0_6 := Lib.hid (X0_5.out.next h6); have X1_6 := Lib.hid (X1_5.out.next h6); have X2_6 := Lib.hid (X2_5.out.next h6); rw [HM1.out]; clear TB_5 BE_5 LX0_5 LX1_5 LX2_5 X0_5 X1_5 X2_5 h6; obtain ⟨x00, x01, x02, x03⟩ := X0_6.out.bx.c4; obtain ⟨x10, x11, x12, x13⟩ := X1_6.out.bx.c4; obtain ⟨x20, x21, x22, x23⟩ := X2_6.out.bx.c4))
            | (go_at_call 25; (refine (check_at LX2_6.out (by omega) b2 m2 k2).mono ?_; rintro e w7 ⟨rfl, h7⟩; have TB_7 := Lib.hid (TB_6.out.next h7); have BE_7 := Lib.hid (BE_6.out.next h7); have LX0_7 := Lib.hid (LX0_6.out.next h7); have LX1_7 := Lib.hid (LX1_6.out.next h7); have LX2_7 := Lib.hid (LX2_6.out.next h7); have X0_7 := Lib.hid (X0_6.out.next h7); have X1_7 := Lib.hid (X1_6.out.next h7); have X2_7 := Lib.hid (X2_6.out.next h7); rw [HM2.out]; clear TB_6 BE_6 LX0_6 LX1_6 LX2_6 X0_6 X1_6 X2_6 h7; obtain ⟨x00, x01, x02, x03⟩ := X0_7.out.bx.c4; obtain ⟨x10, x11, x12, x13⟩ := X1_7.out.bx.c4; obtain ⟨x20, x21, x22, x23⟩ := X2_7.out.bx.c4)))
          go_ret
          exact ⟨rfl, BE_7.out.bel⟩
        · have HM0 := Lib.hid hc0
          have HM1 := Lib.hid hc1
          have HM2 := Lib.hid hc2
          have y0 := may_k hc0
          have y1 := may_k hc1
          have y2 := may_k hc2
          have g1 := get_put y1 (by omega) (s := 2) (by decide)
          have g0 := get_put y0 (by omega) (s := 1) (by decide)
          have e00 : (JrnP.load [] []).s = 0 := by rw [load_none (get_short By.nil (by decide)) (get_short By.nil (by decide))]; rfl
          have e01 : (JrnP.load [] (put b0 m0 l0 1)).s = 1 := by rw [load_odd g0 (by decide) (by decide) fun h _ => absurd h (get_short By.nil (by decide))]
          have e21 : (JrnP.load (put b1 m1 l1 2) (put b0 m0 l0 1)).s = 2 := by rw [load_even g1 (by decide) (by decide) fun _ _ => by rw [g0]; exact (by decide : (1 : Int) ≤ 2)]
          have w1 := (wr_at By.nil By.nil e00 (by decide) b0 m0 l0).2 (by decide)
          have w2 := (wr_at By.nil (put_in b0 m0 l0 1) e01 (by decide) b1 m1 l1).1 (by decide)
          have w3 := (wr_at (put_in b1 m1 l1 2) (put_in b0 m0 l0 1) e21 (by decide) b2 m2 l2).2 (by decide)
          have HW1 : Hid (∀ j W, Tab W → Jr.In W j → (j.n0.bs = [] ∧ j.n1.bs = [] ∧ j.a0.bs = [] ∧ j.a1.bs = []) → LI W B0 p0' n0 l0 → Calls Tryd.prog 23 #[j.val, .agg #[.int .i64 b0, .int .i64 m0, .int .i64 k0, .slice B0 n0 p0']] W (JP W [] (put b0 m0 l0 1) [] [])) := Lib.hid fun j W h1 h2 h3 h4 => by
            have := write_li [] [] [] [] j h1 h2 h3 h4 (by omega) b0 m0 k0
            rwa [w1.1, w1.2] at this
          have HW2 : Hid (∀ j W, Tab W → Jr.In W j → (j.n0.bs = [] ∧ j.n1.bs = put b0 m0 l0 1 ∧ j.a0.bs = [] ∧ j.a1.bs = []) → LI W B1 p1' n1 l1 → Calls Tryd.prog 23 #[j.val, .agg #[.int .i64 b1, .int .i64 m1, .int .i64 k1, .slice B1 n1 p1']] W (JP W (put b1 m1 l1 2) (put b0 m0 l0 1) [] (put b0 m0 l0 1))) := Lib.hid fun j W h1 h2 h3 h4 => by
            have := write_li [] (put b0 m0 l0 1) [] [] j h1 h2 h3 h4 (by omega) b1 m1 k1
            rwa [w2.1, w2.2] at this
          have HW3 : Hid (∀ j W, Tab W → Jr.In W j → (j.n0.bs = put b1 m1 l1 2 ∧ j.n1.bs = put b0 m0 l0 1 ∧ j.a0.bs = [] ∧ j.a1.bs = put b0 m0 l0 1) → LI W B2 p2' n2 l2 → Calls Tryd.prog 23 #[j.val, .agg #[.int .i64 b2, .int .i64 m2, .int .i64 k2, .slice B2 n2 p2']] W (JP W (put b1 m1 l1 2) (put b2 m2 l2 3) (put b1 m1 l1 2) (put b0 m0 l0 1))) := Lib.hid fun j W h1 h2 h3 h4 => by
            have := write_li (put b1 m1 l1 2) (put b0 m0 l0 1) [] (put b0 m0 l0 1) j h1 h2 h3 h4 (by omega) b2 m2 k2
            rwa [w3.1, w3.2] at this
          have HT : Hid (∀ j W, Jr.In W j → (j.n0.bs = put b1 m1 l1 2 ∧ j.n1.bs = put b2 m2 l2 3 ∧ j.a0.bs = put b1 m1 l1 2 ∧ j.a1.bs = put b0 m0 l0 1) → Calls Tryd.prog 21 #[j.val, .int .i64 d] W (JP W (put b1 m1 l1 2) (torn (put b2 m2 l2 3) (put b0 m0 l0 1) d.toNat) (put b1 m1 l1 2) (put b0 m0 l0 1))) := Lib.hid fun j W h1 h2 => by
            have := tear_at (put b1 m1 l1 2) (put b2 m2 l2 3) (put b1 m1 l1 2) (put b0 m0 l0 1) d j W hd h1 h2
            rwa [torn_self] at this
          have HP : Hid (∀ W, Tab W → LI W B2 p2' n2 l2 → Calls Tryd.prog 13 #[.agg #[.int .i64 b2, .int .i64 m2, .int .i64 k2, .slice B2 n2 p2'], .int .u64 3] W fun e w' => ∃ q : RowV, e = .returned q.val ∧ (RT w' q ∧ q.bs = put b2 m2 l2 3) ∧ Below W.heap.size W w') := Lib.hid fun W h1 h2 => put_at h2 (by omega) h1 b2 m2 k2 3 (by decide)
          have hcs := ahead_cases d.toNat y0 y1 y2 (by omega) (by omega) (by omega)
          have hbz : By (torn (put b2 m2 l2 3) (put b0 m0 l0 1) d.toNat) := torn_in (put_in _ _ _ _) (put_in _ _ _ _)
          have hb2 : By (put b1 m1 l1 2) := put_in _ _ _ _
          have hb3 : By (put b2 m2 l2 3) := put_in _ _ _ _
          clear w1 w2 w3 e00 e01 e21 g0 g1 y1 y2 hd ht hc0 hc1 hc2
          generalize torn (put b2 m2 l2 3) (put b0 m0 l0 1) d.toNat = z at *
          generalize put b2 m2 l2 3 = p3 at *
          generalize put b1 m1 l1 2 = p2 at *
          generalize put b0 m0 l0 1 = p1 at *
          have HW4 : Hid (∀ j W, Tab W → Jr.In W j → (j.n0.bs = p2 ∧ j.n1.bs = z ∧ j.a0.bs = p2 ∧ j.a1.bs = p1) → LI W B0 p0' n0 l0 → Calls Tryd.prog 23 #[j.val, .agg #[.int .i64 b0, .int .i64 m0, .int .i64 k0, .slice B0 n0 p0']] W (JP W (wr0 p2 z b0 m0 l0) (wr1 p2 z b0 m0 l0) p2 z)) := Lib.hid fun j W h1 h2 h3 h4 => write_li p2 z p2 p1 j h1 h2 h3 h4 (by omega) b0 m0 k0
          have hL4 : ∀ s : Int, (JrnP.load p2 z).s = s → s < 10 → JrnP.load (wr0 p2 z b0 m0 l0) (wr1 p2 z b0 m0 l0) = ⟨0, b0, m0, l0, s + 1⟩ := fun s hs h9 => by
            have := wr_load hb2 hbz (by omega) y0 (b := b0) (m := m0) (l := l0) (by omega)
            rwa [hs] at this
          have HL4 : ∀ s : Int, (JrnP.load p2 z).s = s → s < 10 → 0 ≤ s → Hid (∀ j W, Tab W → Jr.In W j → (j.n0.bs = wr0 p2 z b0 m0 l0 ∧ j.n1.bs = wr1 p2 z b0 m0 l0 ∧ j.a0.bs = p2 ∧ j.a1.bs = z) → Calls Tryd.prog 18 #[j.val] W fun e w' => ∃ A c, e = .returned (.tuple #[.agg #[.int .i64 b0, .int .i64 m0, .int .i64 0, .slice A n0 c], .int .u64 (s + 1), .bool true]) ∧ LI w' A c n0 l0 ∧ Below W.heap.size W w') := fun s hs h9 h0 => Lib.hid fun j W h1 h2 h3 => load_b _ _ p2 z j h1 h2 h3 (hL4 s hs h9) hn0 (decide_eq_true (by omega))
          clear hL4 y0
          rcases hcs with hA | ⟨hz, hB⟩ | ⟨hz, bc, mc, lc, hC⟩
          · have HL : Hid (∀ j W, Tab W → Jr.In W j → (j.n0.bs = p2 ∧ j.n1.bs = z ∧ j.a0.bs = p2 ∧ j.a1.bs = p1) → Calls Tryd.prog 18 #[j.val] W fun e w' => ∃ A c, e = .returned (.tuple #[.agg #[.int .i64 b1, .int .i64 m1, .int .i64 0, .slice A n1 c], .int .u64 2, .bool true]) ∧ LI w' A c n1 l1 ∧ Below W.heap.size W w') := Lib.hid fun j W h1 h2 h3 => load_b p2 z p2 p1 j h1 h2 h3 hA hn1 rfl
            have HL4 : Hid (∀ j W, Tab W → Jr.In W j → (j.n0.bs = wr0 p2 z b0 m0 l0 ∧ j.n1.bs = wr1 p2 z b0 m0 l0 ∧ j.a0.bs = p2 ∧ j.a1.bs = z) → Calls Tryd.prog 18 #[j.val] W fun e w' => ∃ A c, e = .returned (.tuple #[.agg #[.int .i64 b0, .int .i64 m0, .int .i64 0, .slice A n0 c], .int .u64 3, .bool true]) ∧ LI w' A c n0 l0 ∧ Below W.heap.size W w') := HL4 2 (by rw [hA]) (by decide) (by decide)
            have hn100 : n1 ≤ 100 := by omega
            clear hA hbz hb2 hb3 hn0 hn1 hn2
            generalize wr0 p2 z b0 m0 l0 = o0 at *
            generalize wr1 p2 z b0 m0 l0 = o1 at *
            go_enter Tryd.func6, Tryd.ntmps6
            go_wp2_with (first
              | (go_at_call 9; (refine (awake_any _ TB_0.out).mono ?_; rintro e w1 ⟨rfl, h1⟩; have TB_1 := Lib.hid (TB_0.out.next h1); have BE_1 := Lib.hid (BE_0.out.next h1); have LX0_1 := Lib.hid (LX0_0.out.next h1); have LX1_1 := Lib.hid (LX1_0.out.next h1); have LX2_1 := Lib.hid (LX2_0.out.next h1); have X0_1 := Lib.hid (X0_0.out.next h1); have X1_1 := Lib.hid (X1_0.out.next h1); have X2_1 := Lib.hid (X2_0.out.next h1); clear TB_0 BE_0 LX0_0 LX1_0 LX2_0 X0_0 X1_0 X2_0 h1; obtain ⟨x00, x01, x02, x03⟩ := X0_1.out.bx.c4; obtain ⟨x10, x11, x12, x13⟩ := X1_1.out.bx.c4; obtain ⟨x20, x21, x22, x23⟩ := X2_1.out.bx.c4))
              | (go_at_call 10; (refine (few_at LX0_1.out b0 m0 k0).mono ?_; rintro e w2 ⟨rfl, h2⟩; have TB_2 := Lib.hid (TB_1.out.next h2); have BE_2 := Lib.hid (BE_1.out.next h2); have LX0_2 := Lib.hid (LX0_1.out.next h2); have LX1_2 := Lib.hid (LX1_1.out.next h2); have LX2_2 := Lib.hid (LX2_1.out.next h2); have X0_2 := Lib.hid (X0_1.out.next h2); have X1_2 := Lib.hid (X1_1.out.next h2); have X2_2 := Lib.hid (X2_1.out.next h2); rw [f0]; clear TB_1 BE_1 LX0_1 LX1_1 LX2_1 X0_1 X1_1 X2_1 h2; obtain ⟨x00, x01, x02, x03⟩ := X0_2.out.bx.c4; obtain ⟨x10, x11, x12, x13⟩ := X1_2.out.bx.c4; obtain ⟨x20, x21, x22, x23⟩ := X2_2.out.bx.c4))
              | (go_at_call 10; (refine (few_at LX1_2.out b1 m1 k1).mono ?_; rintro e w3 ⟨rfl, h3⟩; have TB_3 := Lib.hid (TB_2.out.next h3); have BE_3 := Lib.hid (BE_2.out.next h3); have LX0_3 := Lib.hid (LX0_2.out.next h3); have LX1_3 := Lib.hid (LX1_2.out.next h3); have LX2_3 := Lib.hid (LX2_2.out.next h3); have X0_3 := Lib.hid (X0_2.out.next h3); have X1_3 := Lib.hid (X1_2.out.next h3); have X2_3 := Lib.hid (X2_2.out.next h3); rw [f1]; clear TB_2 BE_2 LX0_2 LX1_2 LX2_2 X0_2 X1_2 X2_2 h3; obtain ⟨x00, x01, x02, x03⟩ := X0_3.out.bx.c4; obtain ⟨x10, x11, x12, x13⟩ := X1_3.out.bx.c4; obtain ⟨x20, x21, x22, x23⟩ := X2_3.out.bx.c4))
              | (go_at_call 10; (refine (few_at LX2_3.out b2 m2 k2).mono ?_; rintro e w4 ⟨rfl, h4⟩; have TB_4 := Lib.hid (TB_3.out.next h4); have BE_4 := Lib.hid (BE_3.out.next h4); have LX0_4 := Lib.hid (LX0_3.out.next h4); have LX1_4 := Lib.hid (LX1_3.out.next h4); have LX2_4 := Lib.hid (LX2_3.out.next h4); have X0_4 := Lib.hid (X0_3.out.next h4); have X1_4 := Lib.hid (X1_3.out.next h4); have X2_4 := Lib.hid (X2_3.out.next h4); rw [f2]; clear TB_3 BE_3 LX0_3 LX1_3 LX2_3 X0_3 X1_3 X2_3 h4; obtain ⟨x00, x01, x02, x03⟩ := X0_4.out.bx.c4; obtain ⟨x10, x11, x12, x13⟩ := X1_4.out.bx.c4; obtain ⟨x20, x21, x22, x23⟩ := X2_4.out.bx.c4))
              | (go_at_call 25; (refine (check_at LX0_4.out (by omega) b0 m0 k0).mono ?_; rintro e w5 ⟨rfl, h5⟩; have TB_5 := Lib.hid (TB_4.out.next h5); have BE_5 := Lib.hid (BE_4.out.next h5); have LX0_5 := Lib.hid (LX0_4.out.next h5); have LX1_5 := Lib.hid (LX1_4.out.next h5); have LX2_5 := Lib.hid (LX2_4.out.next h5); have X0_5 := Lib.hid (X0_4.out.next h5); have X1_5 := Lib.hid (X1_4.out.next h5); have X2_5 := Lib.hid (X2_4.out.next h5); rw [HM0.out]; clear TB_4 BE_4 LX0_4 LX1_4 LX2_4 X0_4 X1_4 X2_4 h5; obtain ⟨x00, x01, x02, x03⟩ := X0_5.out.bx.c4; obtain ⟨x10, x11, x12, x13⟩ := X1_5.out.bx.c4; obtain ⟨x20, x21, x22, x23⟩ := X2_5.out.bx.c4))
              | (go_at_call 25; (refine (check_at LX1_5.out (by omega) b1 m1 k1).mono ?_; rintro e w6 ⟨rfl, h6⟩; have TB_6 := Lib.hid (TB_5.out.next h6); have BE_6 := Lib.hid (BE_5.out.next h6); have LX0_6 := Lib.hid (LX0_5.out.next h6); have LX1_6 := Lib.hid (LX1_5.out.next h6); have LX2_6 := Lib.hid (LX2_5.out.next h6); have X0_6 := Lib.hid (X0_5.out.next h6); have X1_6 := Lib.hid (X1_5.out.next h6); have X2_6 := Lib.hid (X2_5.out.next h6); rw [HM1.out]; clear TB_5 BE_5 LX0_5 LX1_5 LX2_5 X0_5 X1_5 X2_5 h6; obtain ⟨x00, x01, x02, x03⟩ := X0_6.out.bx.c4; obtain ⟨x10, x11, x12, x13⟩ := X1_6.out.bx.c4; obtain ⟨x20, x21, x22, x23⟩ := X2_6.out.bx.c4))
              | (go_at_call 25; (refine (check_at LX2_6.out (by omega) b2 m2 k2).mono ?_; rintro e w7 ⟨rfl, h7⟩; have TB_7 := Lib.hid (TB_6.out.next h7); have BE_7 := Lib.hid (BE_6.out.next h7); have LX0_7 := Lib.hid (LX0_6.out.next h7); have LX1_7 := Lib.hid (LX1_6.out.next h7); have LX2_7 := Lib.hid (LX2_6.out.next h7); have X0_7 := Lib.hid (X0_6.out.next h7); have X1_7 := Lib.hid (X1_6.out.next h7); have X2_7 := Lib.hid (X2_6.out.next h7); rw [HM2.out]; clear TB_6 BE_6 LX0_6 LX1_6 LX2_6 X0_6 X1_6 X2_6 h7; obtain ⟨x00, x01, x02, x03⟩ := X0_7.out.bx.c4; obtain ⟨x10, x11, x12, x13⟩ := X1_7.out.bx.c4; obtain ⟨x20, x21, x22, x23⟩ := X2_7.out.bx.c4)))
            have HA : Hid (∀ W, Below w7.heap.size w7 W → Tab W ∧ LI W B0 p0' n0 l0 ∧ LI W B1 p1' n1 l1 ∧ BxT W (w.heap.size) #[.int .i64 b0, .int .i64 m0, .int .i64 k0, .slice B0 n0 p0'] 24 ∧ BxT W (w.heap.size + 1) #[.int .i64 b1, .int .i64 m1, .int .i64 k1, .slice B1 n1 p1'] 24 ∧ w7.heap.size ≤ W.heap.size) := Lib.hid fun W hW => ⟨TB_7.out.next hW, LX0_7.out.next hW, LX1_7.out.next hW, X0_7.out.next hW, X1_7.out.next hW, hW.size⟩
            refine Held.wp_region_invt 6 (AhdF w7.heap.size b0 m0 k0 b1 m1 k1 B0 B1 n0 n1 p0' p1' p1 p2) (by kernel_rfl) (by kernel_rfl) ?_ ?_ ?_
            · intro i v W W' h hb
              unfold AhdF at h ⊢
              split at h <;> first | exact h | exact JV.next h hb | exact AV.next h hb 
            · intro i o x W K hi ho hB hd hK
              have HX := Lib.hid (HA.out W hB)
              match i, ho with
              | 0, ho =>
                obtain rfl := Option.some.inj ho
                simp only [Inv.fill, Act.put, List.setIfInBounds_toArray, List.set_cons_zero, List.set_cons_succ, List.take_succ_cons, List.take_zero] at hK ⊢
                clear hd ho
                rw [wpOp]
                refine (if_pos rfl).mpr (.inl ?_)
                have hc := from_nil W
                go_simp
                refine hc.mono ?_
                rintro e w2 ⟨q, rfl, h1, h2, h3⟩
                exact hK _ _ h3 ⟨q, rfl, h1, h2⟩
              | 1, ho =>
                obtain rfl := Option.some.inj ho
                simp only [Inv.fill, Act.put, List.setIfInBounds_toArray, List.set_cons_zero, List.set_cons_succ, List.take_succ_cons, List.take_zero] at hK ⊢
                clear hd ho
                rw [wpOp]
                refine (if_pos rfl).mpr (.inl ?_)
                obtain ⟨k0', k1', k2', k3'⟩ := HX.out.2.2.2.1.bx.c4
                go_simp
                exact hK _ _ (Below.refl _ _) rfl
              | 2, ho =>
                obtain rfl := Option.some.inj ho
                obtain ⟨j0, e0, hi0, hb0⟩ := (hd ⟨0, .data⟩ (by simp) rfl : JV (x 0) W [] [] [] [])
                have e1 : x 1 = .agg #[.int .i64 b0, .int .i64 m0, .int .i64 k0, .slice B0 n0 p0'] := hd ⟨1, .data⟩ (by simp) rfl
                simp only [Inv.fill, Act.put, List.setIfInBounds_toArray, List.set_cons_zero, List.set_cons_succ, List.take_succ_cons, List.take_zero, e0, e1] at hK ⊢
                clear hd ho e0 e1
                rw [wpOp]
                refine (if_pos rfl).mpr (.inl ?_)
                have hc := HW1.out j0 W HX.out.1 hi0 hb0 HX.out.2.1
                go_simp
                refine hc.mono ?_
                rintro e w2 ⟨q, rfl, h1, h2, h3⟩
                exact hK _ _ h3 ⟨q, rfl, h1, h2⟩
              | 3, ho =>
                obtain rfl := Option.some.inj ho
                simp only [Inv.fill, Act.put, List.setIfInBounds_toArray, List.set_cons_zero, List.set_cons_succ, List.take_succ_cons, List.take_zero] at hK ⊢
                clear hd ho
                rw [wpOp]
                refine (if_pos rfl).mpr (.inl ?_)
                obtain ⟨k0', k1', k2', k3'⟩ := HX.out.2.2.2.2.1.bx.c4
                go_simp
                exact hK _ _ (Below.refl _ _) rfl
              | 4, ho =>
                obtain rfl := Option.some.inj ho
                obtain ⟨j2, e2, hi2, hb2⟩ := (hd ⟨2, .data⟩ (by simp) rfl : JV (x 2) W [] p1 [] [])
                have e3 : x 3 = .agg #[.int .i64 b1, .int .i64 m1, .int .i64 k1, .slice B1 n1 p1'] := hd ⟨3, .data⟩ (by simp) rfl
                simp only [Inv.fill, Act.put, List.setIfInBounds_toArray, List.set_cons_zero, List.set_cons_succ, List.take_succ_cons, List.take_zero, e2, e3] at hK ⊢
                clear hd ho e2 e3
                rw [wpOp]
                refine (if_pos rfl).mpr (.inl ?_)
                have hc := HW2.out j2 W HX.out.1 hi2 hb2 HX.out.2.2.1
                go_simp
                refine hc.mono ?_
                rintro e w2 ⟨q, rfl, h1, h2, h3⟩
                exact hK _ _ h3 ⟨q, rfl, h1, h2⟩
              | 5, ho =>
                obtain rfl := Option.some.inj ho
                simp only [Inv.fill, Act.put, List.setIfInBounds_toArray, List.set_cons_zero, List.set_cons_succ, List.take_succ_cons, List.take_zero] at hK ⊢
                clear hd ho
                rw [wpOp]
                refine (if_pos rfl).mpr (.inl ?_)
                go_simp
                exact hK _ _ below_box ⟨W.heap.size, rfl, BxT.new _ _ _, HX.out.2.2.2.2.2⟩
              | n + 6, ho => exact absurd hi (by omega)
            · intro x W hB hx
              obtain ⟨j4, e4, hi4, hb4⟩ := (hx 4 (by simp) : JV (x 4) W p2 p1 [] p1)
              obtain ⟨B, e5, hB5, hn5⟩ := (hx 5 (by simp) : AV (x 5) W w7.heap.size)
              simp only [Inv.fill, Act.put, List.setIfInBounds_toArray, List.set_cons_zero, List.set_cons_succ, List.take_succ_cons, List.take_zero, List.drop_succ_cons, List.drop_zero, e4, e5]
              clear hx e4 e5
              obtain ⟨⟨A10, c10, q10⟩, ⟨A11, c11, q11⟩, ⟨A12, c12, q12⟩, ⟨A13, c13, q13⟩⟩ := j4
              obtain ⟨k0', k1', k2', k3'⟩ := hB5.bx.c4
              obtain ⟨g0, g1, g2, g3⟩ := hB5.bx.f4
              have hW4 : Below w7.heap.size w7 ((((W.setCell ⟨B, 0, none⟩ (.slice A10 q10.length c10)).setCell ⟨B, 1, none⟩ (.slice A11 q11.length c11)).setCell ⟨B, 2, none⟩ (.slice A12 q12.length c12)).setCell ⟨B, 3, none⟩ (.slice A13 q13.length c13)) := below4 hB hn5 _ _ _ _
              have JA_0 : Hid (JB ((((W.setCell ⟨B, 0, none⟩ (.slice A10 q10.length c10)).setCell ⟨B, 1, none⟩ (.slice A11 q11.length c11)).setCell ⟨B, 2, none⟩ (.slice A12 q12.length c12)).setCell ⟨B, 3, none⟩ (.slice A13 q13.length c13)) B ⟨⟨A10, c10, q10⟩, ⟨A11, c11, q11⟩, ⟨A12, c12, q12⟩, ⟨A13, c13, q13⟩⟩) := Lib.hid ⟨set4 hB5, in4 hi4 hB5 (by decide) _ _ _ _⟩
              have HB4 := Lib.hid hb4
              obtain ⟨y0, y1, y2, y3⟩ := (X2_7.out.next hB).bx.c4
              have hlt := X2_7.out.bx.lt
              have nn1 : B ≠ w.heap.size + 1 + 1 := by omega
              have nn2 : w.heap.size + 1 + 1 ≠ B := by omega
              have TB_8 := Lib.hid (TB_7.out.next hW4)
              have BE_8 := Lib.hid (BE_7.out.next hW4)
              have LX0_8 := Lib.hid (LX0_7.out.next hW4)
              have LX1_8 := Lib.hid (LX1_7.out.next hW4)
              have LX2_8 := Lib.hid (LX2_7.out.next hW4)
              have X0_8 := Lib.hid (X0_7.out.next hW4)
              have X1_8 := Lib.hid (X1_7.out.next hW4)
              have X2_8 := Lib.hid (X2_7.out.next hW4)
              clear TB_7 BE_7 LX0_7 LX1_7 LX2_7 X0_7 X1_7 X2_7
              clear HA hb4 hi4 hB5 hn5 hW4 hB hlt x00 x01 x02 x03 x10 x11 x12 x13 x20 x21 x22 x23
              have HN1 : Hid (n1 ≤ 100) := Lib.hid (by omega)
              have HN2 : Hid (n2 ≤ 100) := Lib.hid (by omega)
              clear h80 h81 h82 hn100
              simp only [Jr.val, Jr.arr, RowV.val]
              change wpList _ _ _ _ _ _
              go_wp2_with (first
                | (go_at_call 23; (refine (HW3.out ⟨⟨A10, c10, q10⟩, ⟨A11, c11, q11⟩, ⟨A12, c12, q12⟩, ⟨A13, c13, q13⟩⟩ _ TB_8.out JA_0.out.in_ HB4.out LX2_8.out).mono ?_; rintro e w8 ⟨⟨⟨A30, c30, q30⟩, ⟨A31, c31, q31⟩, ⟨A32, c32, q32⟩, ⟨A33, c33, q33⟩⟩, rfl, hi8, hb8, h8⟩; have TB_9 := Lib.hid (TB_8.out.next h8); have BE_9 := Lib.hid (BE_8.out.next h8); have LX0_9 := Lib.hid (LX0_8.out.next h8); have LX1_9 := Lib.hid (LX1_8.out.next h8); have LX2_9 := Lib.hid (LX2_8.out.next h8); have X0_9 := Lib.hid (X0_8.out.next h8); have X1_9 := Lib.hid (X1_8.out.next h8); have X2_9 := Lib.hid (X2_8.out.next h8); have JA_1 := Lib.hid (JA_0.out.next h8); have J3_0 := Lib.hid hi8; have HB8 := Lib.hid hb8; clear hb8 hi8; simp only [Jr.val, Jr.arr, RowV.val]; clear TB_8 BE_8 LX0_8 LX1_8 LX2_8 X0_8 X1_8 X2_8 JA_0 h8; obtain ⟨x00, x01, x02, x03⟩ := X0_9.out.bx.c4; obtain ⟨x10, x11, x12, x13⟩ := X1_9.out.bx.c4; obtain ⟨x20, x21, x22, x23⟩ := X2_9.out.bx.c4; obtain ⟨d0, d1, d2, d3⟩ := JA_1.out.box.bx.c4; simp only [RowV.val] at d0 d1 d2 d3))
                | (go_at_call 21; (refine (HT.out ⟨⟨A30, c30, q30⟩, ⟨A31, c31, q31⟩, ⟨A32, c32, q32⟩, ⟨A33, c33, q33⟩⟩ _ J3_0.out HB8.out).mono ?_; rintro e w9 ⟨⟨⟨A50, c50, q50⟩, ⟨A51, c51, q51⟩, ⟨A52, c52, q52⟩, ⟨A53, c53, q53⟩⟩, rfl, hi9, hb9, h9⟩; have TB_10 := Lib.hid ((TB_9.out.next h9).next (below_box (o := .cells #[.slice A50 q50.length c50, .slice A51 q51.length c51, .slice A52 q52.length c52, .slice A53 q53.length c53] 45))); have BE_10 := Lib.hid ((BE_9.out.next h9).next (below_box (o := .cells #[.slice A50 q50.length c50, .slice A51 q51.length c51, .slice A52 q52.length c52, .slice A53 q53.length c53] 45))); have LX0_10 := Lib.hid ((LX0_9.out.next h9).next (below_box (o := .cells #[.slice A50 q50.length c50, .slice A51 q51.length c51, .slice A52 q52.length c52, .slice A53 q53.length c53] 45))); have LX1_10 := Lib.hid ((LX1_9.out.next h9).next (below_box (o := .cells #[.slice A50 q50.length c50, .slice A51 q51.length c51, .slice A52 q52.length c52, .slice A53 q53.length c53] 45))); have LX2_10 := Lib.hid ((LX2_9.out.next h9).next (below_box (o := .cells #[.slice A50 q50.length c50, .slice A51 q51.length c51, .slice A52 q52.length c52, .slice A53 q53.length c53] 45))); have X0_10 := Lib.hid ((X0_9.out.next h9).next (below_box (o := .cells #[.slice A50 q50.length c50, .slice A51 q51.length c51, .slice A52 q52.length c52, .slice A53 q53.length c53] 45))); have X1_10 := Lib.hid ((X1_9.out.next h9).next (below_box (o := .cells #[.slice A50 q50.length c50, .slice A51 q51.length c51, .slice A52 q52.length c52, .slice A53 q53.length c53] 45))); have X2_10 := Lib.hid ((X2_9.out.next h9).next (below_box (o := .cells #[.slice A50 q50.length c50, .slice A51 q51.length c51, .slice A52 q52.length c52, .slice A53 q53.length c53] 45))); have JA_2 := Lib.hid ((JA_1.out.next h9).next (below_box (o := .cells #[.slice A50 q50.length c50, .slice A51 q51.length c51, .slice A52 q52.length c52, .slice A53 q53.length c53] 45))); have J3_1 := Lib.hid ((J3_0.out.next h9).next (below_box (o := .cells #[.slice A50 q50.length c50, .slice A51 q51.length c51, .slice A52 q52.length c52, .slice A53 q53.length c53] 45))); have JT_0 := Lib.hid (JB.mk (BxT.new w9 #[.slice A50 q50.length c50, .slice A51 q51.length c51, .slice A52 q52.length c52, .slice A53 q53.length c53] 45) (hi9.next (below_box (o := .cells #[.slice A50 q50.length c50, .slice A51 q51.length c51, .slice A52 q52.length c52, .slice A53 q53.length c53] 45)))); have HB9 := Lib.hid hb9; clear hb9 hi9; simp only [Jr.val, Jr.arr, RowV.val]; clear TB_9 BE_9 LX0_9 LX1_9 LX2_9 X0_9 X1_9 X2_9 JA_1 J3_0 h9; obtain ⟨x00, x01, x02, x03⟩ := X0_10.out.bx.c4; obtain ⟨x10, x11, x12, x13⟩ := X1_10.out.bx.c4; obtain ⟨x20, x21, x22, x23⟩ := X2_10.out.bx.c4; obtain ⟨d0, d1, d2, d3⟩ := JA_2.out.box.bx.c4; simp only [RowV.val] at d0 d1 d2 d3; obtain ⟨t0, t1, t2, t3⟩ := JT_0.out.box.bx.c4; simp only [RowV.val] at t0 t1 t2 t3))
                | (go_at_call 18; (refine (HL.out ⟨⟨A50, c50, q50⟩, ⟨A51, c51, q51⟩, ⟨A52, c52, q52⟩, ⟨A53, c53, q53⟩⟩ _ TB_10.out JT_0.out.in_ HB9.out).mono ?_; rintro e w10 ⟨A60, c60, rfl, hl10, h10⟩; have TB_11 := Lib.hid ((TB_10.out.next h10).next (below_box (o := .cells #[.int .i64 b1, .int .i64 m1, .int .i64 0, .slice A60 n1 c60] 24))); have BE_11 := Lib.hid ((BE_10.out.next h10).next (below_box (o := .cells #[.int .i64 b1, .int .i64 m1, .int .i64 0, .slice A60 n1 c60] 24))); have LX0_11 := Lib.hid ((LX0_10.out.next h10).next (below_box (o := .cells #[.int .i64 b1, .int .i64 m1, .int .i64 0, .slice A60 n1 c60] 24))); have LX1_11 := Lib.hid ((LX1_10.out.next h10).next (below_box (o := .cells #[.int .i64 b1, .int .i64 m1, .int .i64 0, .slice A60 n1 c60] 24))); have LX2_11 := Lib.hid ((LX2_10.out.next h10).next (below_box (o := .cells #[.int .i64 b1, .int .i64 m1, .int .i64 0, .slice A60 n1 c60] 24))); have X0_11 := Lib.hid ((X0_10.out.next h10).next (below_box (o := .cells #[.int .i64 b1, .int .i64 m1, .int .i64 0, .slice A60 n1 c60] 24))); have X1_11 := Lib.hid ((X1_10.out.next h10).next (below_box (o := .cells #[.int .i64 b1, .int .i64 m1, .int .i64 0, .slice A60 n1 c60] 24))); have X2_11 := Lib.hid ((X2_10.out.next h10).next (below_box (o := .cells #[.int .i64 b1, .int .i64 m1, .int .i64 0, .slice A60 n1 c60] 24))); have JA_3 := Lib.hid ((JA_2.out.next h10).next (below_box (o := .cells #[.int .i64 b1, .int .i64 m1, .int .i64 0, .slice A60 n1 c60] 24))); have J3_2 := Lib.hid ((J3_1.out.next h10).next (below_box (o := .cells #[.int .i64 b1, .int .i64 m1, .int .i64 0, .slice A60 n1 c60] 24))); have JT_1 := Lib.hid ((JT_0.out.next h10).next (below_box (o := .cells #[.int .i64 b1, .int .i64 m1, .int .i64 0, .slice A60 n1 c60] 24))); have MB_0 := Lib.hid (BxT.new w10 #[.int .i64 b1, .int .i64 m1, .int .i64 0, .slice A60 n1 c60] 24); have LM_0 := Lib.hid (hl10.next (below_box (o := .cells #[.int .i64 b1, .int .i64 m1, .int .i64 0, .slice A60 n1 c60] 24))); clear hl10; clear HL; clear TB_10 BE_10 LX0_10 LX1_10 LX2_10 X0_10 X1_10 X2_10 JA_2 J3_1 JT_0 h10; obtain ⟨x00, x01, x02, x03⟩ := X0_11.out.bx.c4; obtain ⟨x10, x11, x12, x13⟩ := X1_11.out.bx.c4; obtain ⟨x20, x21, x22, x23⟩ := X2_11.out.bx.c4; obtain ⟨d0, d1, d2, d3⟩ := JA_3.out.box.bx.c4; simp only [RowV.val] at d0 d1 d2 d3; obtain ⟨t0, t1, t2, t3⟩ := JT_1.out.box.bx.c4; simp only [RowV.val] at t0 t1 t2 t3; obtain ⟨r0, r1, r2, r3⟩ := MB_0.out.bx.c4))
                | (go_at_call 15; (refine (of_at LX1_11.out HN1.out b1 m1 k1).mono ?_; rintro e w11 ⟨A61, c61, rfl, hlw11, hw11⟩; have TB_12 := Lib.hid ((TB_11.out.next hw11).next (below_box (o := .cells #[.int .i64 b1, .int .i64 m1, .int .i64 0, .slice A61 n1 c61] 34))); have BE_12 := Lib.hid ((BE_11.out.next hw11).next (below_box (o := .cells #[.int .i64 b1, .int .i64 m1, .int .i64 0, .slice A61 n1 c61] 34))); have LX0_12 := Lib.hid ((LX0_11.out.next hw11).next (below_box (o := .cells #[.int .i64 b1, .int .i64 m1, .int .i64 0, .slice A61 n1 c61] 34))); have LX1_12 := Lib.hid ((LX1_11.out.next hw11).next (below_box (o := .cells #[.int .i64 b1, .int .i64 m1, .int .i64 0, .slice A61 n1 c61] 34))); have LX2_12 := Lib.hid ((LX2_11.out.next hw11).next (below_box (o := .cells #[.int .i64 b1, .int .i64 m1, .int .i64 0, .slice A61 n1 c61] 34))); have X0_12 := Lib.hid ((X0_11.out.next hw11).next (below_box (o := .cells #[.int .i64 b1, .int .i64 m1, .int .i64 0, .slice A61 n1 c61] 34))); have X1_12 := Lib.hid ((X1_11.out.next hw11).next (below_box (o := .cells #[.int .i64 b1, .int .i64 m1, .int .i64 0, .slice A61 n1 c61] 34))); have X2_12 := Lib.hid ((X2_11.out.next hw11).next (below_box (o := .cells #[.int .i64 b1, .int .i64 m1, .int .i64 0, .slice A61 n1 c61] 34))); have JA_4 := Lib.hid ((JA_3.out.next hw11).next (below_box (o := .cells #[.int .i64 b1, .int .i64 m1, .int .i64 0, .slice A61 n1 c61] 34))); have J3_3 := Lib.hid ((J3_2.out.next hw11).next (below_box (o := .cells #[.int .i64 b1, .int .i64 m1, .int .i64 0, .slice A61 n1 c61] 34))); have JT_2 := Lib.hid ((JT_1.out.next hw11).next (below_box (o := .cells #[.int .i64 b1, .int .i64 m1, .int .i64 0, .slice A61 n1 c61] 34))); have MB_1 := Lib.hid ((MB_0.out.next hw11).next (below_box (o := .cells #[.int .i64 b1, .int .i64 m1, .int .i64 0, .slice A61 n1 c61] 34))); have LM_1 := Lib.hid ((LM_0.out.next hw11).next (below_box (o := .cells #[.int .i64 b1, .int .i64 m1, .int .i64 0, .slice A61 n1 c61] 34))); have O1_0 := Lib.hid (BxT.new w11 #[.int .i64 b1, .int .i64 m1, .int .i64 0, .slice A61 n1 c61] 34); have LO1_0 := Lib.hid (hlw11.next (below_box (o := .cells #[.int .i64 b1, .int .i64 m1, .int .i64 0, .slice A61 n1 c61] 34))); clear hlw11; obtain ⟨mw110, mw111, mw112, mw113⟩ := (Bx.new w11 #[.int .i64 b1, .int .i64 m1, .int .i64 k1, .slice A61 n1 c61] 34).c4; obtain ⟨mw114, mw115, mw116, mw117⟩ := (Bx.new w11 #[.int .i64 b1, .int .i64 m1, .int .i64 k1, .slice A61 n1 c61] 34).f4; clear TB_11 BE_11 LX0_11 LX1_11 LX2_11 X0_11 X1_11 X2_11 JA_3 J3_2 JT_1 MB_0 LM_0 hw11; obtain ⟨x00, x01, x02, x03⟩ := X0_12.out.bx.c4; obtain ⟨x10, x11, x12, x13⟩ := X1_12.out.bx.c4; obtain ⟨x20, x21, x22, x23⟩ := X2_12.out.bx.c4; obtain ⟨d0, d1, d2, d3⟩ := JA_4.out.box.bx.c4; simp only [RowV.val] at d0 d1 d2 d3; obtain ⟨t0, t1, t2, t3⟩ := JT_2.out.box.bx.c4; simp only [RowV.val] at t0 t1 t2 t3; obtain ⟨r0, r1, r2, r3⟩ := MB_1.out.bx.c4; obtain ⟨o10, o11, o12, o13⟩ := O1_0.out.bx.c4))
                | (go_at_call 15; (refine (of_at LX2_12.out HN2.out b2 m2 k2).mono ?_; rintro e w12 ⟨A62, c62, rfl, hlw12, hw12⟩; have TB_13 := Lib.hid ((TB_12.out.next hw12).next (below_box (o := .cells #[.int .i64 b2, .int .i64 m2, .int .i64 0, .slice A62 n2 c62] 34))); have BE_13 := Lib.hid ((BE_12.out.next hw12).next (below_box (o := .cells #[.int .i64 b2, .int .i64 m2, .int .i64 0, .slice A62 n2 c62] 34))); have LX0_13 := Lib.hid ((LX0_12.out.next hw12).next (below_box (o := .cells #[.int .i64 b2, .int .i64 m2, .int .i64 0, .slice A62 n2 c62] 34))); have LX1_13 := Lib.hid ((LX1_12.out.next hw12).next (below_box (o := .cells #[.int .i64 b2, .int .i64 m2, .int .i64 0, .slice A62 n2 c62] 34))); have LX2_13 := Lib.hid ((LX2_12.out.next hw12).next (below_box (o := .cells #[.int .i64 b2, .int .i64 m2, .int .i64 0, .slice A62 n2 c62] 34))); have X0_13 := Lib.hid ((X0_12.out.next hw12).next (below_box (o := .cells #[.int .i64 b2, .int .i64 m2, .int .i64 0, .slice A62 n2 c62] 34))); have X1_13 := Lib.hid ((X1_12.out.next hw12).next (below_box (o := .cells #[.int .i64 b2, .int .i64 m2, .int .i64 0, .slice A62 n2 c62] 34))); have X2_13 := Lib.hid ((X2_12.out.next hw12).next (below_box (o := .cells #[.int .i64 b2, .int .i64 m2, .int .i64 0, .slice A62 n2 c62] 34))); have JA_5 := Lib.hid ((JA_4.out.next hw12).next (below_box (o := .cells #[.int .i64 b2, .int .i64 m2, .int .i64 0, .slice A62 n2 c62] 34))); have J3_4 := Lib.hid ((J3_3.out.next hw12).next (below_box (o := .cells #[.int .i64 b2, .int .i64 m2, .int .i64 0, .slice A62 n2 c62] 34))); have JT_3 := Lib.hid ((JT_2.out.next hw12).next (below_box (o := .cells #[.int .i64 b2, .int .i64 m2, .int .i64 0, .slice A62 n2 c62] 34))); have MB_2 := Lib.hid ((MB_1.out.next hw12).next (below_box (o := .cells #[.int .i64 b2, .int .i64 m2, .int .i64 0, .slice A62 n2 c62] 34))); have LM_2 := Lib.hid ((LM_1.out.next hw12).next (below_box (o := .cells #[.int .i64 b2, .int .i64 m2, .int .i64 0, .slice A62 n2 c62] 34))); have O1_1 := Lib.hid ((O1_0.out.next hw12).next (below_box (o := .cells #[.int .i64 b2, .int .i64 m2, .int .i64 0, .slice A62 n2 c62] 34))); have LO1_1 := Lib.hid ((LO1_0.out.next hw12).next (below_box (o := .cells #[.int .i64 b2, .int .i64 m2, .int .i64 0, .slice A62 n2 c62] 34))); have O2_0 := Lib.hid (BxT.new w12 #[.int .i64 b2, .int .i64 m2, .int .i64 0, .slice A62 n2 c62] 34); have LO2_0 := Lib.hid (hlw12.next (below_box (o := .cells #[.int .i64 b2, .int .i64 m2, .int .i64 0, .slice A62 n2 c62] 34))); clear hlw12; obtain ⟨mw120, mw121, mw122, mw123⟩ := (Bx.new w12 #[.int .i64 b2, .int .i64 m2, .int .i64 k2, .slice A62 n2 c62] 34).c4; obtain ⟨mw124, mw125, mw126, mw127⟩ := (Bx.new w12 #[.int .i64 b2, .int .i64 m2, .int .i64 k2, .slice A62 n2 c62] 34).f4; clear TB_12 BE_12 LX0_12 LX1_12 LX2_12 X0_12 X1_12 X2_12 JA_4 J3_3 JT_2 MB_1 LM_1 O1_0 LO1_0 hw12; obtain ⟨x00, x01, x02, x03⟩ := X0_13.out.bx.c4; obtain ⟨x10, x11, x12, x13⟩ := X1_13.out.bx.c4; obtain ⟨x20, x21, x22, x23⟩ := X2_13.out.bx.c4; obtain ⟨d0, d1, d2, d3⟩ := JA_5.out.box.bx.c4; simp only [RowV.val] at d0 d1 d2 d3; obtain ⟨t0, t1, t2, t3⟩ := JT_3.out.box.bx.c4; simp only [RowV.val] at t0 t1 t2 t3; obtain ⟨r0, r1, r2, r3⟩ := MB_2.out.bx.c4; obtain ⟨o10, o11, o12, o13⟩ := O1_1.out.bx.c4; obtain ⟨o20, o21, o22, o23⟩ := O2_0.out.bx.c4))
                | (go_at_call 20; (refine (slots_si p2 z p2 p1 ⟨⟨A50, c50, q50⟩, ⟨A51, c51, q51⟩, ⟨A52, c52, q52⟩, ⟨A53, c53, q53⟩⟩ JT_3.out.in_ HB9.out).mono ?_; rintro e w13 ⟨gs, cs, ⟨A63, c63, q63⟩, ⟨A64, c64, q64⟩, rfl, hs13, hb13, h13⟩; have TB_14 := Lib.hid (TB_13.out.next h13); have BE_14 := Lib.hid (BE_13.out.next h13); have LX0_14 := Lib.hid (LX0_13.out.next h13); have LX1_14 := Lib.hid (LX1_13.out.next h13); have LX2_14 := Lib.hid (LX2_13.out.next h13); have X0_14 := Lib.hid (X0_13.out.next h13); have X1_14 := Lib.hid (X1_13.out.next h13); have X2_14 := Lib.hid (X2_13.out.next h13); have JA_6 := Lib.hid (JA_5.out.next h13); have J3_5 := Lib.hid (J3_4.out.next h13); have JT_4 := Lib.hid (JT_3.out.next h13); have MB_3 := Lib.hid (MB_2.out.next h13); have LM_3 := Lib.hid (LM_2.out.next h13); have O1_2 := Lib.hid (O1_1.out.next h13); have LO1_2 := Lib.hid (LO1_1.out.next h13); have O2_1 := Lib.hid (O2_0.out.next h13); have LO2_1 := Lib.hid (LO2_0.out.next h13); have SS_0 := Lib.hid hs13; have HS13 := Lib.hid hb13; clear hb13 hs13; clear TB_13 BE_13 LX0_13 LX1_13 LX2_13 X0_13 X1_13 X2_13 JA_5 J3_4 JT_3 MB_2 LM_2 O1_1 LO1_1 O2_0 LO2_0 h13; obtain ⟨x00, x01, x02, x03⟩ := X0_14.out.bx.c4; obtain ⟨x10, x11, x12, x13⟩ := X1_14.out.bx.c4; obtain ⟨x20, x21, x22, x23⟩ := X2_14.out.bx.c4; obtain ⟨d0, d1, d2, d3⟩ := JA_6.out.box.bx.c4; simp only [RowV.val] at d0 d1 d2 d3; obtain ⟨t0, t1, t2, t3⟩ := JT_4.out.box.bx.c4; simp only [RowV.val] at t0 t1 t2 t3; obtain ⟨r0, r1, r2, r3⟩ := MB_3.out.bx.c4; obtain ⟨o10, o11, o12, o13⟩ := O1_2.out.bx.c4; obtain ⟨o20, o21, o22, o23⟩ := O2_1.out.bx.c4; obtain ⟨s0, s1⟩ := And.intro SS_0.out.h0 SS_0.out.h1; simp only [RowV.val] at s0 s1)))
              have HA : Hid (∀ W, Below w13.heap.size w13 W → (W.cell? ⟨w10.heap.size, 0, none⟩ = some (.int .i64 b1) ∧ W.cell? ⟨w10.heap.size, 1, none⟩ = some (.int .i64 m1) ∧ W.cell? ⟨w10.heap.size, 2, none⟩ = some (.int .i64 0) ∧ W.cell? ⟨w10.heap.size, 3, none⟩ = some (.slice A60 n1 c60)) ∧ (W.cell? ⟨w11.heap.size, 0, none⟩ = some (.int .i64 b1) ∧ W.cell? ⟨w11.heap.size, 1, none⟩ = some (.int .i64 m1) ∧ W.cell? ⟨w11.heap.size, 2, none⟩ = some (.int .i64 0) ∧ W.cell? ⟨w11.heap.size, 3, none⟩ = some (.slice A61 n1 c61)) ∧ LI W A60 c60 n1 l1 ∧ LI W A61 c61 n1 l1) := Lib.hid fun W hW => ⟨(MB_3.out.next hW).bx.c4, (O1_2.out.next hW).bx.c4, LM_3.out.next hW, LO1_2.out.next hW⟩
              clear x00 x01 x02 x03 x10 x11 x12 x13 x20 x21 x22 x23 d0 d1 d2 d3 t0 t1 t2 t3 r0 r1 r2 r3 s0 s1 o10 o11 o12 o13 o20 o21 o22 o23 mw110 mw111 mw112 mw113 mw114 mw115 mw116 mw117 mw120 mw121 mw122 mw123 mw124 mw125 mw126 mw127
              refine Slot.wp_region_slots (AhdG0 w10.heap.size w11.heap.size b1 m1 n1 l1 A60 A61 c60 c61) (by kernel_rfl) (by kernel_rfl) (by kernel_rfl) (by kernel_rfl) (fun k v W W' _ h hb => AhdG0_next w10.heap.size w11.heap.size b1 m1 n1 l1 A60 A61 c60 c61 k v W W' h hb) ?_ ?_
              · intro i o x W K A ho hB hd sl hbs hK
                have HX := Lib.hid (HA.out W hB)
                match i, ho with
                | 0, ho =>
                  obtain rfl := Option.some.inj ho
                  refine Slot.op_go ho rfl ?_
                  exact Slot.wp_value (Slot.run_move rfl (Slot.eval_at ((hbs 16 (Slot.off_of (by kernel_rfl))).trans rfl))) (hK _ _ (Below.refl _ _) rfl)
                | 1, ho =>
                  obtain rfl := Option.some.inj ho
                  refine Slot.op_go ho rfl ?_
                  have e0 : x 0 = .int .u64 2 := hd ⟨0, .data⟩ (by simp) rfl
                  exact Slot.wp_value (AhdG0_r1 A.eval _ W w10.heap.size w11.heap.size b1 m1 n1 l1 A60 A61 c60 c61  rfl (Slot.eval_at ((sl 0 _ 92 rfl rfl).trans (congrArg some e0))) rfl) (hK _ _ (Below.refl _ _) rfl)
                | 2, ho =>
                  obtain rfl := Option.some.inj ho
                  refine Slot.op_go ho rfl ?_
                  have e1 : x 1 = .bool true := hd ⟨1, .data⟩ (by simp) rfl
                  exact Slot.wp_value (Slot.run_move rfl (Slot.eval_at ((sl 1 _ 93 rfl rfl).trans (congrArg some e1)))) (hK _ _ (Below.refl _ _) rfl)
                | 3, ho =>
                  obtain rfl := Option.some.inj ho
                  have e2 : x 2 = .bool true := hd ⟨2, .guard⟩ (by simp) rfl
                  refine Slot.op_if ho rfl rfl rfl ((sl 2 _ 94 rfl rfl).trans (congrArg some e2)) ?_
                  exact Slot.wp_value (AhdG0_r3 A.eval _ W w10.heap.size w11.heap.size b1 m1 n1 l1 A60 A61 c60 c61  rfl (Slot.eval_at ((hbs 15 (Slot.off_of (by kernel_rfl))).trans rfl)) (HX.out.1.1) (HX.out.1.2.1) (HX.out.1.2.2.1) (HX.out.1.2.2.2)) (hK _ _ (Below.refl _ _) rfl)
                | 4, ho =>
                  obtain rfl := Option.some.inj ho
                  have e2 : x 2 = .bool true := hd ⟨2, .chain⟩ (by simp) rfl
                  refine Slot.op_if ho rfl rfl rfl ((sl 2 _ 94 rfl rfl).trans (congrArg some e2)) ?_
                  have e3 : x 3 = .agg #[.int .i64 b1, .int .i64 m1, .int .i64 0, .slice A60 n1 c60] := hd ⟨3, .data⟩ (by simp) rfl
                  have s0 : A.eval (Operand.tmp 95) = .agg #[.int .i64 b1, .int .i64 m1, .int .i64 0, .slice A60 n1 c60] := (Slot.eval_at ((sl 3 _ 95 rfl rfl).trans (congrArg some e3)))
                  have ha : (#[A.eval (Operand.tmp 95)] : Array Value) = #[.agg #[.int .i64 b1, .int .i64 m1, .int .i64 0, .slice A60 n1 c60]] := by rw [s0]
                  refine Slot.wp_call (f := 15) (by kernel_rfl) ha (of_at HX.out.2.2.1 HN1.out b1 m1 0) ?_
                  rintro e w2 ⟨A', c', rfl, h1, h2⟩
                  have hG : GV (.agg #[.int .i64 b1, .int .i64 m1, .int .i64 0, .slice A' n1 c']) w2 b1 m1 0 n1 l1 := ⟨A', c', rfl, h1⟩
                  exact ⟨_, rfl, hK _ _ h2 hG⟩
                | 5, ho =>
                  obtain rfl := Option.some.inj ho
                  have e2 : x 2 = .bool true := hd ⟨2, .guard⟩ (by simp) rfl
                  refine Slot.op_if ho rfl rfl rfl ((sl 2 _ 94 rfl rfl).trans (congrArg some e2)) ?_
                  exact Slot.wp_value (AhdG0_r5 A.eval _ W w10.heap.size w11.heap.size b1 m1 n1 l1 A60 A61 c60 c61  rfl (Slot.eval_at ((hbs 18 (Slot.off_of (by kernel_rfl))).trans rfl)) (HX.out.2.1.1) (HX.out.2.1.2.1) (HX.out.2.1.2.2.1) (HX.out.2.1.2.2.2)) (hK _ _ (Below.refl _ _) rfl)
                | 6, ho =>
                  obtain rfl := Option.some.inj ho
                  have e2 : x 2 = .bool true := hd ⟨2, .guard⟩ (by simp) rfl
                  refine Slot.op_if ho rfl rfl rfl ((sl 2 _ 94 rfl rfl).trans (congrArg some e2)) ?_
                  obtain ⟨A84, c84, e4, hl84⟩ := (hd ⟨4, .data⟩ (by simp) rfl : GV (x 4) W b1 m1 0 n1 l1)
                  have e5 : x 5 = .agg #[.int .i64 b1, .int .i64 m1, .int .i64 0, .slice A61 n1 c61] := hd ⟨5, .data⟩ (by simp) rfl
                  have s0 : A.eval (Operand.tmp 96) = .agg #[.int .i64 b1, .int .i64 m1, .int .i64 0, .slice A84 n1 c84] := (Slot.eval_at ((sl 4 _ 96 rfl rfl).trans (congrArg some e4)))
                  have s1 : A.eval (Operand.tmp 97) = .agg #[.int .i64 b1, .int .i64 m1, .int .i64 0, .slice A61 n1 c61] := (Slot.eval_at ((sl 5 _ 97 rfl rfl).trans (congrArg some e5)))
                  have ha : (#[A.eval (Operand.tmp 96), A.eval (Operand.tmp 97)] : Array Value) = #[.agg #[.int .i64 b1, .int .i64 m1, .int .i64 0, .slice A84 n1 c84], .agg #[.int .i64 b1, .int .i64 m1, .int .i64 0, .slice A61 n1 c61]] := by rw [s0, s1]
                  refine Slot.wp_call (f := 16) (by kernel_rfl) ha (same_at hl84 HX.out.2.2.2 HN1.out b1 m1 0) ?_
                  rintro e w2 ⟨rfl, h1⟩
                  exact ⟨_, rfl, hK _ _ h1 rfl⟩
                | 7, ho =>
                  obtain rfl := Option.some.inj ho
                  have e2 : x 2 = .bool true := hd ⟨2, .guard⟩ (by simp) rfl
                  refine Slot.op_if ho rfl rfl rfl ((sl 2 _ 94 rfl rfl).trans (congrArg some e2)) ?_
                  have e6 : x 6 = .bool true := hd ⟨6, .data⟩ (by simp) rfl
                  exact Slot.wp_value (AhdG0_r7 A.eval _ W w10.heap.size w11.heap.size b1 m1 n1 l1 A60 A61 c60 c61  rfl (Slot.eval_at ((sl 6 _ 98 rfl rfl).trans (congrArg some e6)))) (hK _ _ (Below.refl _ _) rfl)
                | 8, ho =>
                  obtain rfl := Option.some.inj ho
                  refine Slot.op_go ho rfl ?_
                  have e7 : x 7 = .bool false := hd ⟨7, .data⟩ (by simp) rfl
                  have e2 : x 2 = .bool true := hd ⟨2, .data⟩ (by simp) rfl
                  exact Slot.wp_value (Slot.run_pick rfl (Slot.eval_at ((sl 2 _ 94 rfl rfl).trans (congrArg some e2))) ((if_pos rfl).trans (Slot.eval_at ((sl 7 _ 99 rfl rfl).trans (congrArg some e7))))) (hK _ _ (Below.refl _ _) rfl)
                | 9, ho =>
                  obtain rfl := Option.some.inj ho
                  refine Slot.op_go ho rfl ?_
                  have e8 : x 8 = .bool false := hd ⟨8, .data⟩ (by simp) rfl
                  exact Slot.wp_value (Slot.run_move rfl (Slot.eval_at ((sl 8 _ 100 rfl rfl).trans (congrArg some e8)))) (hK _ _ (Below.refl _ _) rfl)
                | 10, ho =>
                  obtain rfl := Option.some.inj ho
                  have e9 : x 9 = .bool false := hd ⟨9, .guard⟩ (by simp) rfl
                  refine Slot.op_if ho rfl rfl rfl ((sl 9 _ 101 rfl rfl).trans (congrArg some e9)) ?_
                  exact Slot.wp_value (Slot.run_move rfl (Slot.eval_at ((hbs 16 (Slot.off_of (by kernel_rfl))).trans rfl))) (hK _ _ (Below.refl _ _) rfl)
                | 11, ho =>
                  obtain rfl := Option.some.inj ho
                  have e9 : x 9 = .bool false := hd ⟨9, .guard⟩ (by simp) rfl
                  refine Slot.op_if ho rfl rfl rfl ((sl 9 _ 101 rfl rfl).trans (congrArg some e9)) ?_
                  have e10 : x 10 = .int .u64 2 := hd ⟨10, .data⟩ (by simp) rfl
                  exact Slot.wp_value (AhdG0_r11 A.eval _ W w10.heap.size w11.heap.size b1 m1 n1 l1 A60 A61 c60 c61  rfl (Slot.eval_at ((sl 10 _ 102 rfl rfl).trans (congrArg some e10))) rfl) (hK _ _ (Below.refl _ _) rfl)
                | 12, ho =>
                  obtain rfl := Option.some.inj ho
                  have e9 : x 9 = .bool false := hd ⟨9, .chain⟩ (by simp) rfl
                  refine Slot.op_if ho rfl rfl rfl ((sl 9 _ 101 rfl rfl).trans (congrArg some e9)) ?_
                  have e11 : x 11 = .bool false := hd ⟨11, .data⟩ (by simp) rfl
                  exact Slot.wp_value (Slot.run_move rfl (Slot.eval_at ((sl 11 _ 103 rfl rfl).trans (congrArg some e11)))) (hK _ _ (Below.refl _ _) rfl)
                | 13, ho =>
                  obtain rfl := Option.some.inj ho
                  have e12 : x 12 = .bool false := hd ⟨12, .guard⟩ (by simp) rfl
                  exact Slot.op_not ho rfl rfl rfl ((sl 12 _ 104 rfl rfl).trans (congrArg some e12)) (hK _ _ (Below.refl _ _) rfl)
                | 14, ho =>
                  obtain rfl := Option.some.inj ho
                  have e12 : x 12 = .bool false := hd ⟨12, .guard⟩ (by simp) rfl
                  exact Slot.op_not ho rfl rfl rfl ((sl 12 _ 104 rfl rfl).trans (congrArg some e12)) (hK _ _ (Below.refl _ _) rfl)
                | 15, ho =>
                  obtain rfl := Option.some.inj ho
                  have e12 : x 12 = .bool false := hd ⟨12, .guard⟩ (by simp) rfl
                  exact Slot.op_not ho rfl rfl rfl ((sl 12 _ 104 rfl rfl).trans (congrArg some e12)) (hK _ _ (Below.refl _ _) rfl)
                | 16, ho =>
                  obtain rfl := Option.some.inj ho
                  have e12 : x 12 = .bool false := hd ⟨12, .guard⟩ (by simp) rfl
                  exact Slot.op_not ho rfl rfl rfl ((sl 12 _ 104 rfl rfl).trans (congrArg some e12)) (hK _ _ (Below.refl _ _) rfl)
                | 17, ho =>
                  obtain rfl := Option.some.inj ho
                  have e12 : x 12 = .bool false := hd ⟨12, .guard⟩ (by simp) rfl
                  exact Slot.op_not ho rfl rfl rfl ((sl 12 _ 104 rfl rfl).trans (congrArg some e12)) (hK _ _ (Below.refl _ _) rfl)
                | 18, ho =>
                  obtain rfl := Option.some.inj ho
                  have e12 : x 12 = .bool false := hd ⟨12, .chain⟩ (by simp) rfl
                  exact Slot.op_not ho rfl rfl rfl ((sl 12 _ 104 rfl rfl).trans (congrArg some e12)) (hK _ _ (Below.refl _ _) rfl)
                | 19, ho =>
                  obtain rfl := Option.some.inj ho
                  have e12 : x 12 = .bool false := hd ⟨12, .guard⟩ (by simp) rfl
                  exact Slot.op_not ho rfl rfl rfl ((sl 12 _ 104 rfl rfl).trans (congrArg some e12)) (hK _ _ (Below.refl _ _) rfl)
                | 20, ho =>
                  obtain rfl := Option.some.inj ho
                  have e12 : x 12 = .bool false := hd ⟨12, .guard⟩ (by simp) rfl
                  exact Slot.op_not ho rfl rfl rfl ((sl 12 _ 104 rfl rfl).trans (congrArg some e12)) (hK _ _ (Below.refl _ _) rfl)
                | 21, ho =>
                  obtain rfl := Option.some.inj ho
                  have e9 : x 9 = .bool false := hd ⟨9, .guard⟩ (by simp) rfl
                  refine Slot.op_if ho rfl rfl rfl ((sl 9 _ 101 rfl rfl).trans (congrArg some e9)) ?_
                  have e12 : x 12 = .bool false := hd ⟨12, .data⟩ (by simp) rfl
                  exact Slot.wp_value (Slot.run_pick rfl (Slot.eval_at ((sl 12 _ 104 rfl rfl).trans (congrArg some e12))) ((if_neg Bool.false_ne_true).trans rfl)) (hK _ _ (Below.refl _ _) rfl)
                | 22, ho =>
                  obtain rfl := Option.some.inj ho
                  have e9 : x 9 = .bool false := hd ⟨9, .guard⟩ (by simp) rfl
                  refine Slot.op_if ho rfl rfl rfl ((sl 9 _ 101 rfl rfl).trans (congrArg some e9)) ?_
                  have e21 : x 21 = .bool false := hd ⟨21, .data⟩ (by simp) rfl
                  exact Slot.wp_value (Slot.run_move rfl (Slot.eval_at ((sl 21 _ 113 rfl rfl).trans (congrArg some e21)))) (hK _ _ (Below.refl _ _) rfl)
                | 23, ho =>
                  obtain rfl := Option.some.inj ho
                  have e22 : x 22 = .bool false := hd ⟨22, .guard⟩ (by simp) rfl
                  exact Slot.op_not ho rfl rfl rfl ((sl 22 _ 114 rfl rfl).trans (congrArg some e22)) (hK _ _ (Below.refl _ _) rfl)
                | 24, ho =>
                  obtain rfl := Option.some.inj ho
                  have e22 : x 22 = .bool false := hd ⟨22, .chain⟩ (by simp) rfl
                  exact Slot.op_not ho rfl rfl rfl ((sl 22 _ 114 rfl rfl).trans (congrArg some e22)) (hK _ _ (Below.refl _ _) rfl)
                | 25, ho =>
                  obtain rfl := Option.some.inj ho
                  have e22 : x 22 = .bool false := hd ⟨22, .guard⟩ (by simp) rfl
                  exact Slot.op_not ho rfl rfl rfl ((sl 22 _ 114 rfl rfl).trans (congrArg some e22)) (hK _ _ (Below.refl _ _) rfl)
                | 26, ho =>
                  obtain rfl := Option.some.inj ho
                  have e22 : x 22 = .bool false := hd ⟨22, .guard⟩ (by simp) rfl
                  exact Slot.op_not ho rfl rfl rfl ((sl 22 _ 114 rfl rfl).trans (congrArg some e22)) (hK _ _ (Below.refl _ _) rfl)
                | 27, ho =>
                  obtain rfl := Option.some.inj ho
                  have e22 : x 22 = .bool false := hd ⟨22, .guard⟩ (by simp) rfl
                  exact Slot.op_not ho rfl rfl rfl ((sl 22 _ 114 rfl rfl).trans (congrArg some e22)) (hK _ _ (Below.refl _ _) rfl)
                | 28, ho =>
                  obtain rfl := Option.some.inj ho
                  have e9 : x 9 = .bool false := hd ⟨9, .guard⟩ (by simp) rfl
                  refine Slot.op_if ho rfl rfl rfl ((sl 9 _ 101 rfl rfl).trans (congrArg some e9)) ?_
                  have e22 : x 22 = .bool false := hd ⟨22, .data⟩ (by simp) rfl
                  exact Slot.wp_value (Slot.run_pick rfl (Slot.eval_at ((sl 22 _ 114 rfl rfl).trans (congrArg some e22))) ((if_neg Bool.false_ne_true).trans rfl)) (hK _ _ (Below.refl _ _) rfl)
                | 29, ho =>
                  obtain rfl := Option.some.inj ho
                  refine Slot.op_go ho rfl ?_
                  have e28 : x 28 = .bool false := hd ⟨28, .data⟩ (by simp) rfl
                  have e9 : x 9 = .bool false := hd ⟨9, .data⟩ (by simp) rfl
                  exact Slot.wp_value (Slot.run_pick rfl (Slot.eval_at ((sl 9 _ 101 rfl rfl).trans (congrArg some e9))) ((if_neg Bool.false_ne_true).trans (Slot.eval_at ((sl 28 _ 120 rfl rfl).trans (congrArg some e28))))) (hK _ _ (Below.refl _ _) rfl)
                | n + 30, ho => simp at ho
              · intro x W hB hx
                have e29 : x 29 = .bool false := hx 29 (by simp)
                simp only [Inv.fill, Act.put, List.setIfInBounds_toArray, List.set_cons_zero, List.set_cons_succ, e29]
                clear hx e29
                have TB_15 := Lib.hid (TB_14.out.next hB)
                have BE_15 := Lib.hid (BE_14.out.next hB)
                have LX0_15 := Lib.hid (LX0_14.out.next hB)
                have LX1_15 := Lib.hid (LX1_14.out.next hB)
                have LX2_15 := Lib.hid (LX2_14.out.next hB)
                have X0_15 := Lib.hid (X0_14.out.next hB)
                have X1_15 := Lib.hid (X1_14.out.next hB)
                have X2_15 := Lib.hid (X2_14.out.next hB)
                have JA_7 := Lib.hid (JA_6.out.next hB)
                have J3_6 := Lib.hid (J3_5.out.next hB)
                have JT_5 := Lib.hid (JT_4.out.next hB)
                have MB_4 := Lib.hid (MB_3.out.next hB)
                have LM_4 := Lib.hid (LM_3.out.next hB)
                have O1_3 := Lib.hid (O1_2.out.next hB)
                have LO1_3 := Lib.hid (LO1_2.out.next hB)
                have O2_2 := Lib.hid (O2_1.out.next hB)
                have LO2_2 := Lib.hid (LO2_1.out.next hB)
                have SS_1 := Lib.hid (SS_0.out.next hB)
                clear TB_14 BE_14 LX0_14 LX1_14 LX2_14 X0_14 X1_14 X2_14 JA_6 J3_5 JT_4 MB_3 LM_3 O1_2 LO1_2 O2_1 LO2_1 SS_0
                obtain ⟨x00, x01, x02, x03⟩ := X0_15.out.bx.c4
                obtain ⟨x10, x11, x12, x13⟩ := X1_15.out.bx.c4
                obtain ⟨x20, x21, x22, x23⟩ := X2_15.out.bx.c4
                obtain ⟨d0, d1, d2, d3⟩ := JA_7.out.box.bx.c4
                simp only [RowV.val] at d0 d1 d2 d3
                obtain ⟨t0, t1, t2, t3⟩ := JT_5.out.box.bx.c4
                simp only [RowV.val] at t0 t1 t2 t3
                obtain ⟨r0, r1, r2, r3⟩ := MB_4.out.bx.c4
                obtain ⟨o10, o11, o12, o13⟩ := O1_3.out.bx.c4
                obtain ⟨o20, o21, o22, o23⟩ := O2_2.out.bx.c4
                obtain ⟨s0, s1⟩ := And.intro SS_1.out.h0 SS_1.out.h1
                simp only [RowV.val] at s0 s1
                go_wp2_with (first
                  | (go_at_call 23; (refine (HW4.out ⟨⟨A50, c50, q50⟩, ⟨A51, c51, q51⟩, ⟨A52, c52, q52⟩, ⟨A53, c53, q53⟩⟩ _ TB_15.out JT_5.out.in_ HB9.out LX0_15.out).mono ?_; rintro e w14 ⟨⟨⟨A70, c70, q70⟩, ⟨A71, c71, q71⟩, ⟨A72, c72, q72⟩, ⟨A73, c73, q73⟩⟩, rfl, hi14, hb14, h14⟩; have TB_16 := Lib.hid (TB_15.out.next h14); have BE_16 := Lib.hid (BE_15.out.next h14); have LX0_16 := Lib.hid (LX0_15.out.next h14); have LX1_16 := Lib.hid (LX1_15.out.next h14); have LX2_16 := Lib.hid (LX2_15.out.next h14); have X0_16 := Lib.hid (X0_15.out.next h14); have X1_16 := Lib.hid (X1_15.out.next h14); have X2_16 := Lib.hid (X2_15.out.next h14); have JA_8 := Lib.hid (JA_7.out.next h14); have J3_7 := Lib.hid (J3_6.out.next h14); have JT_6 := Lib.hid (JT_5.out.next h14); have MB_5 := Lib.hid (MB_4.out.next h14); have LM_5 := Lib.hid (LM_4.out.next h14); have O1_4 := Lib.hid (O1_3.out.next h14); have LO1_4 := Lib.hid (LO1_3.out.next h14); have O2_3 := Lib.hid (O2_2.out.next h14); have LO2_3 := Lib.hid (LO2_2.out.next h14); have SS_2 := Lib.hid (SS_1.out.next h14); have J7_0 := Lib.hid hi14; have HB14 := Lib.hid hb14; clear hb14 hi14; simp only [Jr.val, Jr.arr, RowV.val]; clear TB_15 BE_15 LX0_15 LX1_15 LX2_15 X0_15 X1_15 X2_15 JA_7 J3_6 JT_5 MB_4 LM_4 O1_3 LO1_3 O2_2 LO2_2 SS_1 h14; obtain ⟨x00, x01, x02, x03⟩ := X0_16.out.bx.c4; obtain ⟨x10, x11, x12, x13⟩ := X1_16.out.bx.c4; obtain ⟨x20, x21, x22, x23⟩ := X2_16.out.bx.c4; obtain ⟨d0, d1, d2, d3⟩ := JA_8.out.box.bx.c4; simp only [RowV.val] at d0 d1 d2 d3; obtain ⟨t0, t1, t2, t3⟩ := JT_6.out.box.bx.c4; simp only [RowV.val] at t0 t1 t2 t3; obtain ⟨r0, r1, r2, r3⟩ := MB_5.out.bx.c4; obtain ⟨o10, o11, o12, o13⟩ := O1_4.out.bx.c4; obtain ⟨o20, o21, o22, o23⟩ := O2_3.out.bx.c4; obtain ⟨s0, s1⟩ := And.intro SS_2.out.h0 SS_2.out.h1; simp only [RowV.val] at s0 s1))
                  | (go_at_call 18; (refine (HL4.out ⟨⟨A70, c70, q70⟩, ⟨A71, c71, q71⟩, ⟨A72, c72, q72⟩, ⟨A73, c73, q73⟩⟩ _ TB_16.out J7_0.out HB14.out).mono ?_; rintro e w15 ⟨A80, c80, rfl, hl15, h15⟩; have TB_17 := Lib.hid ((TB_16.out.next h15).next (below_box (o := .cells #[.int .i64 b0, .int .i64 m0, .int .i64 0, .slice A80 n0 c80] 24))); have BE_17 := Lib.hid ((BE_16.out.next h15).next (below_box (o := .cells #[.int .i64 b0, .int .i64 m0, .int .i64 0, .slice A80 n0 c80] 24))); have LX0_17 := Lib.hid ((LX0_16.out.next h15).next (below_box (o := .cells #[.int .i64 b0, .int .i64 m0, .int .i64 0, .slice A80 n0 c80] 24))); have LX1_17 := Lib.hid ((LX1_16.out.next h15).next (below_box (o := .cells #[.int .i64 b0, .int .i64 m0, .int .i64 0, .slice A80 n0 c80] 24))); have LX2_17 := Lib.hid ((LX2_16.out.next h15).next (below_box (o := .cells #[.int .i64 b0, .int .i64 m0, .int .i64 0, .slice A80 n0 c80] 24))); have X0_17 := Lib.hid ((X0_16.out.next h15).next (below_box (o := .cells #[.int .i64 b0, .int .i64 m0, .int .i64 0, .slice A80 n0 c80] 24))); have X1_17 := Lib.hid ((X1_16.out.next h15).next (below_box (o := .cells #[.int .i64 b0, .int .i64 m0, .int .i64 0, .slice A80 n0 c80] 24))); have X2_17 := Lib.hid ((X2_16.out.next h15).next (below_box (o := .cells #[.int .i64 b0, .int .i64 m0, .int .i64 0, .slice A80 n0 c80] 24))); have JA_9 := Lib.hid ((JA_8.out.next h15).next (below_box (o := .cells #[.int .i64 b0, .int .i64 m0, .int .i64 0, .slice A80 n0 c80] 24))); have J3_8 := Lib.hid ((J3_7.out.next h15).next (below_box (o := .cells #[.int .i64 b0, .int .i64 m0, .int .i64 0, .slice A80 n0 c80] 24))); have JT_7 := Lib.hid ((JT_6.out.next h15).next (below_box (o := .cells #[.int .i64 b0, .int .i64 m0, .int .i64 0, .slice A80 n0 c80] 24))); have MB_6 := Lib.hid ((MB_5.out.next h15).next (below_box (o := .cells #[.int .i64 b0, .int .i64 m0, .int .i64 0, .slice A80 n0 c80] 24))); have LM_6 := Lib.hid ((LM_5.out.next h15).next (below_box (o := .cells #[.int .i64 b0, .int .i64 m0, .int .i64 0, .slice A80 n0 c80] 24))); have O1_5 := Lib.hid ((O1_4.out.next h15).next (below_box (o := .cells #[.int .i64 b0, .int .i64 m0, .int .i64 0, .slice A80 n0 c80] 24))); have LO1_5 := Lib.hid ((LO1_4.out.next h15).next (below_box (o := .cells #[.int .i64 b0, .int .i64 m0, .int .i64 0, .slice A80 n0 c80] 24))); have O2_4 := Lib.hid ((O2_3.out.next h15).next (below_box (o := .cells #[.int .i64 b0, .int .i64 m0, .int .i64 0, .slice A80 n0 c80] 24))); have LO2_4 := Lib.hid ((LO2_3.out.next h15).next (below_box (o := .cells #[.int .i64 b0, .int .i64 m0, .int .i64 0, .slice A80 n0 c80] 24))); have SS_3 := Lib.hid ((SS_2.out.next h15).next (below_box (o := .cells #[.int .i64 b0, .int .i64 m0, .int .i64 0, .slice A80 n0 c80] 24))); have J7_1 := Lib.hid ((J7_0.out.next h15).next (below_box (o := .cells #[.int .i64 b0, .int .i64 m0, .int .i64 0, .slice A80 n0 c80] 24))); clear hl15; clear TB_16 BE_16 LX0_16 LX1_16 LX2_16 X0_16 X1_16 X2_16 JA_8 J3_7 JT_6 MB_5 LM_5 O1_4 LO1_4 O2_3 LO2_3 SS_2 J7_0 h15; obtain ⟨x00, x01, x02, x03⟩ := X0_17.out.bx.c4; obtain ⟨x10, x11, x12, x13⟩ := X1_17.out.bx.c4; obtain ⟨x20, x21, x22, x23⟩ := X2_17.out.bx.c4; obtain ⟨d0, d1, d2, d3⟩ := JA_9.out.box.bx.c4; simp only [RowV.val] at d0 d1 d2 d3; obtain ⟨t0, t1, t2, t3⟩ := JT_7.out.box.bx.c4; simp only [RowV.val] at t0 t1 t2 t3; obtain ⟨r0, r1, r2, r3⟩ := MB_6.out.bx.c4; obtain ⟨o10, o11, o12, o13⟩ := O1_5.out.bx.c4; obtain ⟨o20, o21, o22, o23⟩ := O2_4.out.bx.c4; obtain ⟨s0, s1⟩ := And.intro SS_3.out.h0 SS_3.out.h1; simp only [RowV.val] at s0 s1)))
                refine Slot.wp_region_slots (AhdH0 ) (by kernel_rfl) (by kernel_rfl) (by kernel_rfl) (by kernel_rfl) (fun k v W W' _ h hb => AhdH0_next  k v W W' h hb) ?_ ?_
                · intro i o x W K A ho hB hd sl hbs hK
                  match i, ho with
                  | 0, ho =>
                    obtain rfl := Option.some.inj ho
                    refine Slot.op_go ho rfl ?_
                    exact Slot.wp_value (Slot.run_move rfl (Slot.eval_at ((hbs 22 (Slot.off_of (by kernel_rfl))).trans rfl))) (hK _ _ (Below.refl _ _) rfl)
                  | 1, ho =>
                    obtain rfl := Option.some.inj ho
                    refine Slot.op_go ho rfl ?_
                    exact Slot.wp_value (Slot.run_move rfl (Slot.eval_at ((hbs 16 (Slot.off_of (by kernel_rfl))).trans rfl))) (hK _ _ (Below.refl _ _) rfl)
                  | 2, ho =>
                    obtain rfl := Option.some.inj ho
                    refine Slot.op_go ho rfl ?_
                    have e1 : x 1 = .int .u64 2 := hd ⟨1, .data⟩ (by simp) rfl
                    exact Slot.wp_value (AhdH0_r2 A.eval _ W   rfl (Slot.eval_at ((sl 1 _ 131 rfl rfl).trans (congrArg some e1))) rfl) (hK _ _ (Below.refl _ _) rfl)
                  | 3, ho =>
                    obtain rfl := Option.some.inj ho
                    refine Slot.op_go ho rfl ?_
                    have e0 : x 0 = .int .u64 3 := hd ⟨0, .data⟩ (by simp) rfl
                    have e2 : x 2 = .int .u64 3 := hd ⟨2, .data⟩ (by simp) rfl
                    exact Slot.wp_value (AhdH0_r3 A.eval _ W   rfl (Slot.eval_at ((sl 0 _ 130 rfl rfl).trans (congrArg some e0))) (Slot.eval_at ((sl 2 _ 132 rfl rfl).trans (congrArg some e2)))) (hK _ _ (Below.refl _ _) rfl)
                  | 4, ho =>
                    obtain rfl := Option.some.inj ho
                    refine Slot.op_go ho rfl ?_
                    have e3 : x 3 = .bool true := hd ⟨3, .data⟩ (by simp) rfl
                    exact Slot.wp_value (Slot.run_move rfl (Slot.eval_at ((sl 3 _ 133 rfl rfl).trans (congrArg some e3)))) (hK _ _ (Below.refl _ _) rfl)
                  | 5, ho =>
                    obtain rfl := Option.some.inj ho
                    have e4 : x 4 = .bool true := hd ⟨4, .guard⟩ (by simp) rfl
                    exact Slot.op_not ho rfl rfl rfl ((sl 4 _ 134 rfl rfl).trans (congrArg some e4)) (hK _ _ (Below.refl _ _) rfl)
                  | 6, ho =>
                    obtain rfl := Option.some.inj ho
                    have e4 : x 4 = .bool true := hd ⟨4, .guard⟩ (by simp) rfl
                    exact Slot.op_not ho rfl rfl rfl ((sl 4 _ 134 rfl rfl).trans (congrArg some e4)) (hK _ _ (Below.refl _ _) rfl)
                  | 7, ho =>
                    obtain rfl := Option.some.inj ho
                    have e4 : x 4 = .bool true := hd ⟨4, .chain⟩ (by simp) rfl
                    exact Slot.op_not ho rfl rfl rfl ((sl 4 _ 134 rfl rfl).trans (congrArg some e4)) (hK _ _ (Below.refl _ _) rfl)
                  | 8, ho =>
                    obtain rfl := Option.some.inj ho
                    have e7 : x 7 = undef := hd ⟨7, .guard⟩ (by simp) rfl
                    exact Slot.op_none ho rfl rfl rfl ((sl 7 _ 137 rfl rfl).trans (congrArg some e7)) (hK _ _ (Below.refl _ _) rfl)
                  | 9, ho =>
                    obtain rfl := Option.some.inj ho
                    have e7 : x 7 = undef := hd ⟨7, .guard⟩ (by simp) rfl
                    exact Slot.op_none ho rfl rfl rfl ((sl 7 _ 137 rfl rfl).trans (congrArg some e7)) (hK _ _ (Below.refl _ _) rfl)
                  | 10, ho =>
                    obtain rfl := Option.some.inj ho
                    have e7 : x 7 = undef := hd ⟨7, .guard⟩ (by simp) rfl
                    exact Slot.op_none ho rfl rfl rfl ((sl 7 _ 137 rfl rfl).trans (congrArg some e7)) (hK _ _ (Below.refl _ _) rfl)
                  | 11, ho =>
                    obtain rfl := Option.some.inj ho
                    have e7 : x 7 = undef := hd ⟨7, .guard⟩ (by simp) rfl
                    exact Slot.op_none ho rfl rfl rfl ((sl 7 _ 137 rfl rfl).trans (congrArg some e7)) (hK _ _ (Below.refl _ _) rfl)
                  | 12, ho =>
                    obtain rfl := Option.some.inj ho
                    have e7 : x 7 = undef := hd ⟨7, .guard⟩ (by simp) rfl
                    exact Slot.op_none ho rfl rfl rfl ((sl 7 _ 137 rfl rfl).trans (congrArg some e7)) (hK _ _ (Below.refl _ _) rfl)
                  | 13, ho =>
                    obtain rfl := Option.some.inj ho
                    have e7 : x 7 = undef := hd ⟨7, .chain⟩ (by simp) rfl
                    exact Slot.op_none ho rfl rfl rfl ((sl 7 _ 137 rfl rfl).trans (congrArg some e7)) (hK _ _ (Below.refl _ _) rfl)
                  | 14, ho =>
                    obtain rfl := Option.some.inj ho
                    have e7 : x 7 = undef := hd ⟨7, .guard⟩ (by simp) rfl
                    exact Slot.op_none ho rfl rfl rfl ((sl 7 _ 137 rfl rfl).trans (congrArg some e7)) (hK _ _ (Below.refl _ _) rfl)
                  | 15, ho =>
                    obtain rfl := Option.some.inj ho
                    have e7 : x 7 = undef := hd ⟨7, .guard⟩ (by simp) rfl
                    exact Slot.op_none ho rfl rfl rfl ((sl 7 _ 137 rfl rfl).trans (congrArg some e7)) (hK _ _ (Below.refl _ _) rfl)
                  | 16, ho =>
                    obtain rfl := Option.some.inj ho
                    have e4 : x 4 = .bool true := hd ⟨4, .guard⟩ (by simp) rfl
                    exact Slot.op_not ho rfl rfl rfl ((sl 4 _ 134 rfl rfl).trans (congrArg some e4)) (hK _ _ (Below.refl _ _) rfl)
                  | 17, ho =>
                    obtain rfl := Option.some.inj ho
                    refine Slot.op_go ho rfl ?_
                    have e4 : x 4 = .bool true := hd ⟨4, .data⟩ (by simp) rfl
                    exact Slot.wp_value (Slot.run_pick rfl (Slot.eval_at ((sl 4 _ 134 rfl rfl).trans (congrArg some e4))) ((if_pos rfl).trans rfl)) (hK _ _ (Below.refl _ _) rfl)
                  | 18, ho =>
                    obtain rfl := Option.some.inj ho
                    refine Slot.op_go ho rfl ?_
                    have e17 : x 17 = .bool true := hd ⟨17, .data⟩ (by simp) rfl
                    exact Slot.wp_value (Slot.run_assign rfl (Slot.eval_at ((sl 17 _ 147 rfl rfl).trans (congrArg some e17)))) (hK _ _ (Below.refl _ _) rfl)
                  | n + 19, ho => simp at ho
                · intro x W hB hx
                  have e18 : x 18 = .bool true := hx 18 (by simp)
                  simp only [Inv.fill, Act.put, List.setIfInBounds_toArray, List.set_cons_zero, List.set_cons_succ, e18]
                  clear hx e18
                  go_wp2
                  go_ret
                  exact ⟨rfl, (BE_17.out.next hB).bel⟩
          · have HL : Hid (∀ j W, Tab W → Jr.In W j → (j.n0.bs = p2 ∧ j.n1.bs = z ∧ j.a0.bs = p2 ∧ j.a1.bs = p1) → Calls Tryd.prog 18 #[j.val] W fun e w' => ∃ A c, e = .returned (.tuple #[.agg #[.int .i64 b2, .int .i64 m2, .int .i64 0, .slice A n2 c], .int .u64 3, .bool true]) ∧ LI w' A c n2 l2 ∧ Below W.heap.size W w') := Lib.hid fun j W h1 h2 h3 => load_b p2 z p2 p1 j h1 h2 h3 hB hn2 rfl
            have HL4 : Hid (∀ j W, Tab W → Jr.In W j → (j.n0.bs = wr0 p2 z b0 m0 l0 ∧ j.n1.bs = wr1 p2 z b0 m0 l0 ∧ j.a0.bs = p2 ∧ j.a1.bs = z) → Calls Tryd.prog 18 #[j.val] W fun e w' => ∃ A c, e = .returned (.tuple #[.agg #[.int .i64 b0, .int .i64 m0, .int .i64 0, .slice A n0 c], .int .u64 4, .bool true]) ∧ LI w' A c n0 l0 ∧ Below W.heap.size W w') := HL4 3 (by rw [hB]) (by decide) (by decide)
            have hn100 : n2 ≤ 100 := by omega
            clear hB hbz hb2 hb3 hn0 hn1 hn2
            generalize wr0 p2 z b0 m0 l0 = o0 at *
            generalize wr1 p2 z b0 m0 l0 = o1 at *
            have HZP := Lib.hid hz
            clear hz
            go_enter Tryd.func6, Tryd.ntmps6
            go_wp2_with (first
              | (go_at_call 9; (refine (awake_any _ TB_0.out).mono ?_; rintro e w1 ⟨rfl, h1⟩; have TB_1 := Lib.hid (TB_0.out.next h1); have BE_1 := Lib.hid (BE_0.out.next h1); have LX0_1 := Lib.hid (LX0_0.out.next h1); have LX1_1 := Lib.hid (LX1_0.out.next h1); have LX2_1 := Lib.hid (LX2_0.out.next h1); have X0_1 := Lib.hid (X0_0.out.next h1); have X1_1 := Lib.hid (X1_0.out.next h1); have X2_1 := Lib.hid (X2_0.out.next h1); clear TB_0 BE_0 LX0_0 LX1_0 LX2_0 X0_0 X1_0 X2_0 h1; obtain ⟨x00, x01, x02, x03⟩ := X0_1.out.bx.c4; obtain ⟨x10, x11, x12, x13⟩ := X1_1.out.bx.c4; obtain ⟨x20, x21, x22, x23⟩ := X2_1.out.bx.c4))
              | (go_at_call 10; (refine (few_at LX0_1.out b0 m0 k0).mono ?_; rintro e w2 ⟨rfl, h2⟩; have TB_2 := Lib.hid (TB_1.out.next h2); have BE_2 := Lib.hid (BE_1.out.next h2); have LX0_2 := Lib.hid (LX0_1.out.next h2); have LX1_2 := Lib.hid (LX1_1.out.next h2); have LX2_2 := Lib.hid (LX2_1.out.next h2); have X0_2 := Lib.hid (X0_1.out.next h2); have X1_2 := Lib.hid (X1_1.out.next h2); have X2_2 := Lib.hid (X2_1.out.next h2); rw [f0]; clear TB_1 BE_1 LX0_1 LX1_1 LX2_1 X0_1 X1_1 X2_1 h2; obtain ⟨x00, x01, x02, x03⟩ := X0_2.out.bx.c4; obtain ⟨x10, x11, x12, x13⟩ := X1_2.out.bx.c4; obtain ⟨x20, x21, x22, x23⟩ := X2_2.out.bx.c4))
              | (go_at_call 10; (refine (few_at LX1_2.out b1 m1 k1).mono ?_; rintro e w3 ⟨rfl, h3⟩; have TB_3 := Lib.hid (TB_2.out.next h3); have BE_3 := Lib.hid (BE_2.out.next h3); have LX0_3 := Lib.hid (LX0_2.out.next h3); have LX1_3 := Lib.hid (LX1_2.out.next h3); have LX2_3 := Lib.hid (LX2_2.out.next h3); have X0_3 := Lib.hid (X0_2.out.next h3); have X1_3 := Lib.hid (X1_2.out.next h3); have X2_3 := Lib.hid (X2_2.out.next h3); rw [f1]; clear TB_2 BE_2 LX0_2 LX1_2 LX2_2 X0_2 X1_2 X2_2 h3; obtain ⟨x00, x01, x02, x03⟩ := X0_3.out.bx.c4; obtain ⟨x10, x11, x12, x13⟩ := X1_3.out.bx.c4; obtain ⟨x20, x21, x22, x23⟩ := X2_3.out.bx.c4))
              | (go_at_call 10; (refine (few_at LX2_3.out b2 m2 k2).mono ?_; rintro e w4 ⟨rfl, h4⟩; have TB_4 := Lib.hid (TB_3.out.next h4); have BE_4 := Lib.hid (BE_3.out.next h4); have LX0_4 := Lib.hid (LX0_3.out.next h4); have LX1_4 := Lib.hid (LX1_3.out.next h4); have LX2_4 := Lib.hid (LX2_3.out.next h4); have X0_4 := Lib.hid (X0_3.out.next h4); have X1_4 := Lib.hid (X1_3.out.next h4); have X2_4 := Lib.hid (X2_3.out.next h4); rw [f2]; clear TB_3 BE_3 LX0_3 LX1_3 LX2_3 X0_3 X1_3 X2_3 h4; obtain ⟨x00, x01, x02, x03⟩ := X0_4.out.bx.c4; obtain ⟨x10, x11, x12, x13⟩ := X1_4.out.bx.c4; obtain ⟨x20, x21, x22, x23⟩ := X2_4.out.bx.c4))
              | (go_at_call 25; (refine (check_at LX0_4.out (by omega) b0 m0 k0).mono ?_; rintro e w5 ⟨rfl, h5⟩; have TB_5 := Lib.hid (TB_4.out.next h5); have BE_5 := Lib.hid (BE_4.out.next h5); have LX0_5 := Lib.hid (LX0_4.out.next h5); have LX1_5 := Lib.hid (LX1_4.out.next h5); have LX2_5 := Lib.hid (LX2_4.out.next h5); have X0_5 := Lib.hid (X0_4.out.next h5); have X1_5 := Lib.hid (X1_4.out.next h5); have X2_5 := Lib.hid (X2_4.out.next h5); rw [HM0.out]; clear TB_4 BE_4 LX0_4 LX1_4 LX2_4 X0_4 X1_4 X2_4 h5; obtain ⟨x00, x01, x02, x03⟩ := X0_5.out.bx.c4; obtain ⟨x10, x11, x12, x13⟩ := X1_5.out.bx.c4; obtain ⟨x20, x21, x22, x23⟩ := X2_5.out.bx.c4))
              | (go_at_call 25; (refine (check_at LX1_5.out (by omega) b1 m1 k1).mono ?_; rintro e w6 ⟨rfl, h6⟩; have TB_6 := Lib.hid (TB_5.out.next h6); have BE_6 := Lib.hid (BE_5.out.next h6); have LX0_6 := Lib.hid (LX0_5.out.next h6); have LX1_6 := Lib.hid (LX1_5.out.next h6); have LX2_6 := Lib.hid (LX2_5.out.next h6); have X0_6 := Lib.hid (X0_5.out.next h6); have X1_6 := Lib.hid (X1_5.out.next h6); have X2_6 := Lib.hid (X2_5.out.next h6); rw [HM1.out]; clear TB_5 BE_5 LX0_5 LX1_5 LX2_5 X0_5 X1_5 X2_5 h6; obtain ⟨x00, x01, x02, x03⟩ := X0_6.out.bx.c4; obtain ⟨x10, x11, x12, x13⟩ := X1_6.out.bx.c4; obtain ⟨x20, x21, x22, x23⟩ := X2_6.out.bx.c4))
              | (go_at_call 25; (refine (check_at LX2_6.out (by omega) b2 m2 k2).mono ?_; rintro e w7 ⟨rfl, h7⟩; have TB_7 := Lib.hid (TB_6.out.next h7); have BE_7 := Lib.hid (BE_6.out.next h7); have LX0_7 := Lib.hid (LX0_6.out.next h7); have LX1_7 := Lib.hid (LX1_6.out.next h7); have LX2_7 := Lib.hid (LX2_6.out.next h7); have X0_7 := Lib.hid (X0_6.out.next h7); have X1_7 := Lib.hid (X1_6.out.next h7); have X2_7 := Lib.hid (X2_6.out.next h7); rw [HM2.out]; clear TB_6 BE_6 LX0_6 LX1_6 LX2_6 X0_6 X1_6 X2_6 h7; obtain ⟨x00, x01, x02, x03⟩ := X0_7.out.bx.c4; obtain ⟨x10, x11, x12, x13⟩ := X1_7.out.bx.c4; obtain ⟨x20, x21, x22, x23⟩ := X2_7.out.bx.c4)))
            have HA : Hid (∀ W, Below w7.heap.size w7 W → Tab W ∧ LI W B0 p0' n0 l0 ∧ LI W B1 p1' n1 l1 ∧ BxT W (w.heap.size) #[.int .i64 b0, .int .i64 m0, .int .i64 k0, .slice B0 n0 p0'] 24 ∧ BxT W (w.heap.size + 1) #[.int .i64 b1, .int .i64 m1, .int .i64 k1, .slice B1 n1 p1'] 24 ∧ w7.heap.size ≤ W.heap.size) := Lib.hid fun W hW => ⟨TB_7.out.next hW, LX0_7.out.next hW, LX1_7.out.next hW, X0_7.out.next hW, X1_7.out.next hW, hW.size⟩
            refine Held.wp_region_invt 6 (AhdF w7.heap.size b0 m0 k0 b1 m1 k1 B0 B1 n0 n1 p0' p1' p1 p2) (by kernel_rfl) (by kernel_rfl) ?_ ?_ ?_
            · intro i v W W' h hb
              unfold AhdF at h ⊢
              split at h <;> first | exact h | exact JV.next h hb | exact AV.next h hb 
            · intro i o x W K hi ho hB hd hK
              have HX := Lib.hid (HA.out W hB)
              match i, ho with
              | 0, ho =>
                obtain rfl := Option.some.inj ho
                simp only [Inv.fill, Act.put, List.setIfInBounds_toArray, List.set_cons_zero, List.set_cons_succ, List.take_succ_cons, List.take_zero] at hK ⊢
                clear hd ho
                rw [wpOp]
                refine (if_pos rfl).mpr (.inl ?_)
                have hc := from_nil W
                go_simp
                refine hc.mono ?_
                rintro e w2 ⟨q, rfl, h1, h2, h3⟩
                exact hK _ _ h3 ⟨q, rfl, h1, h2⟩
              | 1, ho =>
                obtain rfl := Option.some.inj ho
                simp only [Inv.fill, Act.put, List.setIfInBounds_toArray, List.set_cons_zero, List.set_cons_succ, List.take_succ_cons, List.take_zero] at hK ⊢
                clear hd ho
                rw [wpOp]
                refine (if_pos rfl).mpr (.inl ?_)
                obtain ⟨k0', k1', k2', k3'⟩ := HX.out.2.2.2.1.bx.c4
                go_simp
                exact hK _ _ (Below.refl _ _) rfl
              | 2, ho =>
                obtain rfl := Option.some.inj ho
                obtain ⟨j0, e0, hi0, hb0⟩ := (hd ⟨0, .data⟩ (by simp) rfl : JV (x 0) W [] [] [] [])
                have e1 : x 1 = .agg #[.int .i64 b0, .int .i64 m0, .int .i64 k0, .slice B0 n0 p0'] := hd ⟨1, .data⟩ (by simp) rfl
                simp only [Inv.fill, Act.put, List.setIfInBounds_toArray, List.set_cons_zero, List.set_cons_succ, List.take_succ_cons, List.take_zero, e0, e1] at hK ⊢
                clear hd ho e0 e1
                rw [wpOp]
                refine (if_pos rfl).mpr (.inl ?_)
                have hc := HW1.out j0 W HX.out.1 hi0 hb0 HX.out.2.1
                go_simp
                refine hc.mono ?_
                rintro e w2 ⟨q, rfl, h1, h2, h3⟩
                exact hK _ _ h3 ⟨q, rfl, h1, h2⟩
              | 3, ho =>
                obtain rfl := Option.some.inj ho
                simp only [Inv.fill, Act.put, List.setIfInBounds_toArray, List.set_cons_zero, List.set_cons_succ, List.take_succ_cons, List.take_zero] at hK ⊢
                clear hd ho
                rw [wpOp]
                refine (if_pos rfl).mpr (.inl ?_)
                obtain ⟨k0', k1', k2', k3'⟩ := HX.out.2.2.2.2.1.bx.c4
                go_simp
                exact hK _ _ (Below.refl _ _) rfl
              | 4, ho =>
                obtain rfl := Option.some.inj ho
                obtain ⟨j2, e2, hi2, hb2⟩ := (hd ⟨2, .data⟩ (by simp) rfl : JV (x 2) W [] p1 [] [])
                have e3 : x 3 = .agg #[.int .i64 b1, .int .i64 m1, .int .i64 k1, .slice B1 n1 p1'] := hd ⟨3, .data⟩ (by simp) rfl
                simp only [Inv.fill, Act.put, List.setIfInBounds_toArray, List.set_cons_zero, List.set_cons_succ, List.take_succ_cons, List.take_zero, e2, e3] at hK ⊢
                clear hd ho e2 e3
                rw [wpOp]
                refine (if_pos rfl).mpr (.inl ?_)
                have hc := HW2.out j2 W HX.out.1 hi2 hb2 HX.out.2.2.1
                go_simp
                refine hc.mono ?_
                rintro e w2 ⟨q, rfl, h1, h2, h3⟩
                exact hK _ _ h3 ⟨q, rfl, h1, h2⟩
              | 5, ho =>
                obtain rfl := Option.some.inj ho
                simp only [Inv.fill, Act.put, List.setIfInBounds_toArray, List.set_cons_zero, List.set_cons_succ, List.take_succ_cons, List.take_zero] at hK ⊢
                clear hd ho
                rw [wpOp]
                refine (if_pos rfl).mpr (.inl ?_)
                go_simp
                exact hK _ _ below_box ⟨W.heap.size, rfl, BxT.new _ _ _, HX.out.2.2.2.2.2⟩
              | n + 6, ho => exact absurd hi (by omega)
            · intro x W hB hx
              obtain ⟨j4, e4, hi4, hb4⟩ := (hx 4 (by simp) : JV (x 4) W p2 p1 [] p1)
              obtain ⟨B, e5, hB5, hn5⟩ := (hx 5 (by simp) : AV (x 5) W w7.heap.size)
              simp only [Inv.fill, Act.put, List.setIfInBounds_toArray, List.set_cons_zero, List.set_cons_succ, List.take_succ_cons, List.take_zero, List.drop_succ_cons, List.drop_zero, e4, e5]
              clear hx e4 e5
              obtain ⟨⟨A10, c10, q10⟩, ⟨A11, c11, q11⟩, ⟨A12, c12, q12⟩, ⟨A13, c13, q13⟩⟩ := j4
              obtain ⟨k0', k1', k2', k3'⟩ := hB5.bx.c4
              obtain ⟨g0, g1, g2, g3⟩ := hB5.bx.f4
              have hW4 : Below w7.heap.size w7 ((((W.setCell ⟨B, 0, none⟩ (.slice A10 q10.length c10)).setCell ⟨B, 1, none⟩ (.slice A11 q11.length c11)).setCell ⟨B, 2, none⟩ (.slice A12 q12.length c12)).setCell ⟨B, 3, none⟩ (.slice A13 q13.length c13)) := below4 hB hn5 _ _ _ _
              have JA_0 : Hid (JB ((((W.setCell ⟨B, 0, none⟩ (.slice A10 q10.length c10)).setCell ⟨B, 1, none⟩ (.slice A11 q11.length c11)).setCell ⟨B, 2, none⟩ (.slice A12 q12.length c12)).setCell ⟨B, 3, none⟩ (.slice A13 q13.length c13)) B ⟨⟨A10, c10, q10⟩, ⟨A11, c11, q11⟩, ⟨A12, c12, q12⟩, ⟨A13, c13, q13⟩⟩) := Lib.hid ⟨set4 hB5, in4 hi4 hB5 (by decide) _ _ _ _⟩
              have HB4 := Lib.hid hb4
              obtain ⟨y0, y1, y2, y3⟩ := (X2_7.out.next hB).bx.c4
              have hlt := X2_7.out.bx.lt
              have nn1 : B ≠ w.heap.size + 1 + 1 := by omega
              have nn2 : w.heap.size + 1 + 1 ≠ B := by omega
              have TB_8 := Lib.hid (TB_7.out.next hW4)
              have BE_8 := Lib.hid (BE_7.out.next hW4)
              have LX0_8 := Lib.hid (LX0_7.out.next hW4)
              have LX1_8 := Lib.hid (LX1_7.out.next hW4)
              have LX2_8 := Lib.hid (LX2_7.out.next hW4)
              have X0_8 := Lib.hid (X0_7.out.next hW4)
              have X1_8 := Lib.hid (X1_7.out.next hW4)
              have X2_8 := Lib.hid (X2_7.out.next hW4)
              clear TB_7 BE_7 LX0_7 LX1_7 LX2_7 X0_7 X1_7 X2_7
              clear HA hb4 hi4 hB5 hn5 hW4 hB hlt x00 x01 x02 x03 x10 x11 x12 x13 x20 x21 x22 x23
              have HN1 : Hid (n1 ≤ 100) := Lib.hid (by omega)
              have HN2 : Hid (n2 ≤ 100) := Lib.hid (by omega)
              clear h80 h81 h82 hn100
              simp only [Jr.val, Jr.arr, RowV.val]
              change wpList _ _ _ _ _ _
              go_wp2_with (first
                | (go_at_call 23; (refine (HW3.out ⟨⟨A10, c10, q10⟩, ⟨A11, c11, q11⟩, ⟨A12, c12, q12⟩, ⟨A13, c13, q13⟩⟩ _ TB_8.out JA_0.out.in_ HB4.out LX2_8.out).mono ?_; rintro e w8 ⟨⟨⟨A30, c30, q30⟩, ⟨A31, c31, q31⟩, ⟨A32, c32, q32⟩, ⟨A33, c33, q33⟩⟩, rfl, hi8, hb8, h8⟩; have TB_9 := Lib.hid (TB_8.out.next h8); have BE_9 := Lib.hid (BE_8.out.next h8); have LX0_9 := Lib.hid (LX0_8.out.next h8); have LX1_9 := Lib.hid (LX1_8.out.next h8); have LX2_9 := Lib.hid (LX2_8.out.next h8); have X0_9 := Lib.hid (X0_8.out.next h8); have X1_9 := Lib.hid (X1_8.out.next h8); have X2_9 := Lib.hid (X2_8.out.next h8); have JA_1 := Lib.hid (JA_0.out.next h8); have J3_0 := Lib.hid hi8; have HB8 := Lib.hid hb8; clear hb8 hi8; simp only [Jr.val, Jr.arr, RowV.val]; clear TB_8 BE_8 LX0_8 LX1_8 LX2_8 X0_8 X1_8 X2_8 JA_0 h8; obtain ⟨x00, x01, x02, x03⟩ := X0_9.out.bx.c4; obtain ⟨x10, x11, x12, x13⟩ := X1_9.out.bx.c4; obtain ⟨x20, x21, x22, x23⟩ := X2_9.out.bx.c4; obtain ⟨d0, d1, d2, d3⟩ := JA_1.out.box.bx.c4; simp only [RowV.val] at d0 d1 d2 d3))
                | (go_at_call 21; (refine (HT.out ⟨⟨A30, c30, q30⟩, ⟨A31, c31, q31⟩, ⟨A32, c32, q32⟩, ⟨A33, c33, q33⟩⟩ _ J3_0.out HB8.out).mono ?_; rintro e w9 ⟨⟨⟨A50, c50, q50⟩, ⟨A51, c51, q51⟩, ⟨A52, c52, q52⟩, ⟨A53, c53, q53⟩⟩, rfl, hi9, hb9, h9⟩; have TB_10 := Lib.hid ((TB_9.out.next h9).next (below_box (o := .cells #[.slice A50 q50.length c50, .slice A51 q51.length c51, .slice A52 q52.length c52, .slice A53 q53.length c53] 45))); have BE_10 := Lib.hid ((BE_9.out.next h9).next (below_box (o := .cells #[.slice A50 q50.length c50, .slice A51 q51.length c51, .slice A52 q52.length c52, .slice A53 q53.length c53] 45))); have LX0_10 := Lib.hid ((LX0_9.out.next h9).next (below_box (o := .cells #[.slice A50 q50.length c50, .slice A51 q51.length c51, .slice A52 q52.length c52, .slice A53 q53.length c53] 45))); have LX1_10 := Lib.hid ((LX1_9.out.next h9).next (below_box (o := .cells #[.slice A50 q50.length c50, .slice A51 q51.length c51, .slice A52 q52.length c52, .slice A53 q53.length c53] 45))); have LX2_10 := Lib.hid ((LX2_9.out.next h9).next (below_box (o := .cells #[.slice A50 q50.length c50, .slice A51 q51.length c51, .slice A52 q52.length c52, .slice A53 q53.length c53] 45))); have X0_10 := Lib.hid ((X0_9.out.next h9).next (below_box (o := .cells #[.slice A50 q50.length c50, .slice A51 q51.length c51, .slice A52 q52.length c52, .slice A53 q53.length c53] 45))); have X1_10 := Lib.hid ((X1_9.out.next h9).next (below_box (o := .cells #[.slice A50 q50.length c50, .slice A51 q51.length c51, .slice A52 q52.length c52, .slice A53 q53.length c53] 45))); have X2_10 := Lib.hid ((X2_9.out.next h9).next (below_box (o := .cells #[.slice A50 q50.length c50, .slice A51 q51.length c51, .slice A52 q52.length c52, .slice A53 q53.length c53] 45))); have JA_2 := Lib.hid ((JA_1.out.next h9).next (below_box (o := .cells #[.slice A50 q50.length c50, .slice A51 q51.length c51, .slice A52 q52.length c52, .slice A53 q53.length c53] 45))); have J3_1 := Lib.hid ((J3_0.out.next h9).next (below_box (o := .cells #[.slice A50 q50.length c50, .slice A51 q51.length c51, .slice A52 q52.length c52, .slice A53 q53.length c53] 45))); have JT_0 := Lib.hid (JB.mk (BxT.new w9 #[.slice A50 q50.length c50, .slice A51 q51.length c51, .slice A52 q52.length c52, .slice A53 q53.length c53] 45) (hi9.next (below_box (o := .cells #[.slice A50 q50.length c50, .slice A51 q51.length c51, .slice A52 q52.length c52, .slice A53 q53.length c53] 45)))); have HB9 := Lib.hid hb9; clear hb9 hi9; simp only [Jr.val, Jr.arr, RowV.val]; clear TB_9 BE_9 LX0_9 LX1_9 LX2_9 X0_9 X1_9 X2_9 JA_1 J3_0 h9; obtain ⟨x00, x01, x02, x03⟩ := X0_10.out.bx.c4; obtain ⟨x10, x11, x12, x13⟩ := X1_10.out.bx.c4; obtain ⟨x20, x21, x22, x23⟩ := X2_10.out.bx.c4; obtain ⟨d0, d1, d2, d3⟩ := JA_2.out.box.bx.c4; simp only [RowV.val] at d0 d1 d2 d3; obtain ⟨t0, t1, t2, t3⟩ := JT_0.out.box.bx.c4; simp only [RowV.val] at t0 t1 t2 t3))
                | (go_at_call 18; (refine (HL.out ⟨⟨A50, c50, q50⟩, ⟨A51, c51, q51⟩, ⟨A52, c52, q52⟩, ⟨A53, c53, q53⟩⟩ _ TB_10.out JT_0.out.in_ HB9.out).mono ?_; rintro e w10 ⟨A60, c60, rfl, hl10, h10⟩; have TB_11 := Lib.hid ((TB_10.out.next h10).next (below_box (o := .cells #[.int .i64 b2, .int .i64 m2, .int .i64 0, .slice A60 n2 c60] 24))); have BE_11 := Lib.hid ((BE_10.out.next h10).next (below_box (o := .cells #[.int .i64 b2, .int .i64 m2, .int .i64 0, .slice A60 n2 c60] 24))); have LX0_11 := Lib.hid ((LX0_10.out.next h10).next (below_box (o := .cells #[.int .i64 b2, .int .i64 m2, .int .i64 0, .slice A60 n2 c60] 24))); have LX1_11 := Lib.hid ((LX1_10.out.next h10).next (below_box (o := .cells #[.int .i64 b2, .int .i64 m2, .int .i64 0, .slice A60 n2 c60] 24))); have LX2_11 := Lib.hid ((LX2_10.out.next h10).next (below_box (o := .cells #[.int .i64 b2, .int .i64 m2, .int .i64 0, .slice A60 n2 c60] 24))); have X0_11 := Lib.hid ((X0_10.out.next h10).next (below_box (o := .cells #[.int .i64 b2, .int .i64 m2, .int .i64 0, .slice A60 n2 c60] 24))); have X1_11 := Lib.hid ((X1_10.out.next h10).next (below_box (o := .cells #[.int .i64 b2, .int .i64 m2, .int .i64 0, .slice A60 n2 c60] 24))); have X2_11 := Lib.hid ((X2_10.out.next h10).next (below_box (o := .cells #[.int .i64 b2, .int .i64 m2, .int .i64 0, .slice A60 n2 c60] 24))); have JA_3 := Lib.hid ((JA_2.out.next h10).next (below_box (o := .cells #[.int .i64 b2, .int .i64 m2, .int .i64 0, .slice A60 n2 c60] 24))); have J3_2 := Lib.hid ((J3_1.out.next h10).next (below_box (o := .cells #[.int .i64 b2, .int .i64 m2, .int .i64 0, .slice A60 n2 c60] 24))); have JT_1 := Lib.hid ((JT_0.out.next h10).next (below_box (o := .cells #[.int .i64 b2, .int .i64 m2, .int .i64 0, .slice A60 n2 c60] 24))); have MB_0 := Lib.hid (BxT.new w10 #[.int .i64 b2, .int .i64 m2, .int .i64 0, .slice A60 n2 c60] 24); have LM_0 := Lib.hid (hl10.next (below_box (o := .cells #[.int .i64 b2, .int .i64 m2, .int .i64 0, .slice A60 n2 c60] 24))); clear hl10; clear HL; clear TB_10 BE_10 LX0_10 LX1_10 LX2_10 X0_10 X1_10 X2_10 JA_2 J3_1 JT_0 h10; obtain ⟨x00, x01, x02, x03⟩ := X0_11.out.bx.c4; obtain ⟨x10, x11, x12, x13⟩ := X1_11.out.bx.c4; obtain ⟨x20, x21, x22, x23⟩ := X2_11.out.bx.c4; obtain ⟨d0, d1, d2, d3⟩ := JA_3.out.box.bx.c4; simp only [RowV.val] at d0 d1 d2 d3; obtain ⟨t0, t1, t2, t3⟩ := JT_1.out.box.bx.c4; simp only [RowV.val] at t0 t1 t2 t3; obtain ⟨r0, r1, r2, r3⟩ := MB_0.out.bx.c4))
                | (go_at_call 15; (refine (of_at LX1_11.out HN1.out b1 m1 k1).mono ?_; rintro e w11 ⟨A61, c61, rfl, hlw11, hw11⟩; have TB_12 := Lib.hid ((TB_11.out.next hw11).next (below_box (o := .cells #[.int .i64 b1, .int .i64 m1, .int .i64 0, .slice A61 n1 c61] 34))); have BE_12 := Lib.hid ((BE_11.out.next hw11).next (below_box (o := .cells #[.int .i64 b1, .int .i64 m1, .int .i64 0, .slice A61 n1 c61] 34))); have LX0_12 := Lib.hid ((LX0_11.out.next hw11).next (below_box (o := .cells #[.int .i64 b1, .int .i64 m1, .int .i64 0, .slice A61 n1 c61] 34))); have LX1_12 := Lib.hid ((LX1_11.out.next hw11).next (below_box (o := .cells #[.int .i64 b1, .int .i64 m1, .int .i64 0, .slice A61 n1 c61] 34))); have LX2_12 := Lib.hid ((LX2_11.out.next hw11).next (below_box (o := .cells #[.int .i64 b1, .int .i64 m1, .int .i64 0, .slice A61 n1 c61] 34))); have X0_12 := Lib.hid ((X0_11.out.next hw11).next (below_box (o := .cells #[.int .i64 b1, .int .i64 m1, .int .i64 0, .slice A61 n1 c61] 34))); have X1_12 := Lib.hid ((X1_11.out.next hw11).next (below_box (o := .cells #[.int .i64 b1, .int .i64 m1, .int .i64 0, .slice A61 n1 c61] 34))); have X2_12 := Lib.hid ((X2_11.out.next hw11).next (below_box (o := .cells #[.int .i64 b1, .int .i64 m1, .int .i64 0, .slice A61 n1 c61] 34))); have JA_4 := Lib.hid ((JA_3.out.next hw11).next (below_box (o := .cells #[.int .i64 b1, .int .i64 m1, .int .i64 0, .slice A61 n1 c61] 34))); have J3_3 := Lib.hid ((J3_2.out.next hw11).next (below_box (o := .cells #[.int .i64 b1, .int .i64 m1, .int .i64 0, .slice A61 n1 c61] 34))); have JT_2 := Lib.hid ((JT_1.out.next hw11).next (below_box (o := .cells #[.int .i64 b1, .int .i64 m1, .int .i64 0, .slice A61 n1 c61] 34))); have MB_1 := Lib.hid ((MB_0.out.next hw11).next (below_box (o := .cells #[.int .i64 b1, .int .i64 m1, .int .i64 0, .slice A61 n1 c61] 34))); have LM_1 := Lib.hid ((LM_0.out.next hw11).next (below_box (o := .cells #[.int .i64 b1, .int .i64 m1, .int .i64 0, .slice A61 n1 c61] 34))); have O1_0 := Lib.hid (BxT.new w11 #[.int .i64 b1, .int .i64 m1, .int .i64 0, .slice A61 n1 c61] 34); have LO1_0 := Lib.hid (hlw11.next (below_box (o := .cells #[.int .i64 b1, .int .i64 m1, .int .i64 0, .slice A61 n1 c61] 34))); clear hlw11; obtain ⟨mw110, mw111, mw112, mw113⟩ := (Bx.new w11 #[.int .i64 b1, .int .i64 m1, .int .i64 k1, .slice A61 n1 c61] 34).c4; obtain ⟨mw114, mw115, mw116, mw117⟩ := (Bx.new w11 #[.int .i64 b1, .int .i64 m1, .int .i64 k1, .slice A61 n1 c61] 34).f4; clear TB_11 BE_11 LX0_11 LX1_11 LX2_11 X0_11 X1_11 X2_11 JA_3 J3_2 JT_1 MB_0 LM_0 hw11; obtain ⟨x00, x01, x02, x03⟩ := X0_12.out.bx.c4; obtain ⟨x10, x11, x12, x13⟩ := X1_12.out.bx.c4; obtain ⟨x20, x21, x22, x23⟩ := X2_12.out.bx.c4; obtain ⟨d0, d1, d2, d3⟩ := JA_4.out.box.bx.c4; simp only [RowV.val] at d0 d1 d2 d3; obtain ⟨t0, t1, t2, t3⟩ := JT_2.out.box.bx.c4; simp only [RowV.val] at t0 t1 t2 t3; obtain ⟨r0, r1, r2, r3⟩ := MB_1.out.bx.c4; obtain ⟨o10, o11, o12, o13⟩ := O1_0.out.bx.c4))
                | (go_at_call 15; (refine (of_at LX2_12.out HN2.out b2 m2 k2).mono ?_; rintro e w12 ⟨A62, c62, rfl, hlw12, hw12⟩; have TB_13 := Lib.hid ((TB_12.out.next hw12).next (below_box (o := .cells #[.int .i64 b2, .int .i64 m2, .int .i64 0, .slice A62 n2 c62] 34))); have BE_13 := Lib.hid ((BE_12.out.next hw12).next (below_box (o := .cells #[.int .i64 b2, .int .i64 m2, .int .i64 0, .slice A62 n2 c62] 34))); have LX0_13 := Lib.hid ((LX0_12.out.next hw12).next (below_box (o := .cells #[.int .i64 b2, .int .i64 m2, .int .i64 0, .slice A62 n2 c62] 34))); have LX1_13 := Lib.hid ((LX1_12.out.next hw12).next (below_box (o := .cells #[.int .i64 b2, .int .i64 m2, .int .i64 0, .slice A62 n2 c62] 34))); have LX2_13 := Lib.hid ((LX2_12.out.next hw12).next (below_box (o := .cells #[.int .i64 b2, .int .i64 m2, .int .i64 0, .slice A62 n2 c62] 34))); have X0_13 := Lib.hid ((X0_12.out.next hw12).next (below_box (o := .cells #[.int .i64 b2, .int .i64 m2, .int .i64 0, .slice A62 n2 c62] 34))); have X1_13 := Lib.hid ((X1_12.out.next hw12).next (below_box (o := .cells #[.int .i64 b2, .int .i64 m2, .int .i64 0, .slice A62 n2 c62] 34))); have X2_13 := Lib.hid ((X2_12.out.next hw12).next (below_box (o := .cells #[.int .i64 b2, .int .i64 m2, .int .i64 0, .slice A62 n2 c62] 34))); have JA_5 := Lib.hid ((JA_4.out.next hw12).next (below_box (o := .cells #[.int .i64 b2, .int .i64 m2, .int .i64 0, .slice A62 n2 c62] 34))); have J3_4 := Lib.hid ((J3_3.out.next hw12).next (below_box (o := .cells #[.int .i64 b2, .int .i64 m2, .int .i64 0, .slice A62 n2 c62] 34))); have JT_3 := Lib.hid ((JT_2.out.next hw12).next (below_box (o := .cells #[.int .i64 b2, .int .i64 m2, .int .i64 0, .slice A62 n2 c62] 34))); have MB_2 := Lib.hid ((MB_1.out.next hw12).next (below_box (o := .cells #[.int .i64 b2, .int .i64 m2, .int .i64 0, .slice A62 n2 c62] 34))); have LM_2 := Lib.hid ((LM_1.out.next hw12).next (below_box (o := .cells #[.int .i64 b2, .int .i64 m2, .int .i64 0, .slice A62 n2 c62] 34))); have O1_1 := Lib.hid ((O1_0.out.next hw12).next (below_box (o := .cells #[.int .i64 b2, .int .i64 m2, .int .i64 0, .slice A62 n2 c62] 34))); have LO1_1 := Lib.hid ((LO1_0.out.next hw12).next (below_box (o := .cells #[.int .i64 b2, .int .i64 m2, .int .i64 0, .slice A62 n2 c62] 34))); have O2_0 := Lib.hid (BxT.new w12 #[.int .i64 b2, .int .i64 m2, .int .i64 0, .slice A62 n2 c62] 34); have LO2_0 := Lib.hid (hlw12.next (below_box (o := .cells #[.int .i64 b2, .int .i64 m2, .int .i64 0, .slice A62 n2 c62] 34))); clear hlw12; obtain ⟨mw120, mw121, mw122, mw123⟩ := (Bx.new w12 #[.int .i64 b2, .int .i64 m2, .int .i64 k2, .slice A62 n2 c62] 34).c4; obtain ⟨mw124, mw125, mw126, mw127⟩ := (Bx.new w12 #[.int .i64 b2, .int .i64 m2, .int .i64 k2, .slice A62 n2 c62] 34).f4; clear TB_12 BE_12 LX0_12 LX1_12 LX2_12 X0_12 X1_12 X2_12 JA_4 J3_3 JT_2 MB_1 LM_1 O1_0 LO1_0 hw12; obtain ⟨x00, x01, x02, x03⟩ := X0_13.out.bx.c4; obtain ⟨x10, x11, x12, x13⟩ := X1_13.out.bx.c4; obtain ⟨x20, x21, x22, x23⟩ := X2_13.out.bx.c4; obtain ⟨d0, d1, d2, d3⟩ := JA_5.out.box.bx.c4; simp only [RowV.val] at d0 d1 d2 d3; obtain ⟨t0, t1, t2, t3⟩ := JT_3.out.box.bx.c4; simp only [RowV.val] at t0 t1 t2 t3; obtain ⟨r0, r1, r2, r3⟩ := MB_2.out.bx.c4; obtain ⟨o10, o11, o12, o13⟩ := O1_1.out.bx.c4; obtain ⟨o20, o21, o22, o23⟩ := O2_0.out.bx.c4))
                | (go_at_call 20; (refine (slots_si p2 z p2 p1 ⟨⟨A50, c50, q50⟩, ⟨A51, c51, q51⟩, ⟨A52, c52, q52⟩, ⟨A53, c53, q53⟩⟩ JT_3.out.in_ HB9.out).mono ?_; rintro e w13 ⟨gs, cs, ⟨A63, c63, q63⟩, ⟨A64, c64, q64⟩, rfl, hs13, hb13, h13⟩; have TB_14 := Lib.hid (TB_13.out.next h13); have BE_14 := Lib.hid (BE_13.out.next h13); have LX0_14 := Lib.hid (LX0_13.out.next h13); have LX1_14 := Lib.hid (LX1_13.out.next h13); have LX2_14 := Lib.hid (LX2_13.out.next h13); have X0_14 := Lib.hid (X0_13.out.next h13); have X1_14 := Lib.hid (X1_13.out.next h13); have X2_14 := Lib.hid (X2_13.out.next h13); have JA_6 := Lib.hid (JA_5.out.next h13); have J3_5 := Lib.hid (J3_4.out.next h13); have JT_4 := Lib.hid (JT_3.out.next h13); have MB_3 := Lib.hid (MB_2.out.next h13); have LM_3 := Lib.hid (LM_2.out.next h13); have O1_2 := Lib.hid (O1_1.out.next h13); have LO1_2 := Lib.hid (LO1_1.out.next h13); have O2_1 := Lib.hid (O2_0.out.next h13); have LO2_1 := Lib.hid (LO2_0.out.next h13); have SS_0 := Lib.hid hs13; have HS13 := Lib.hid hb13; clear hb13 hs13; clear TB_13 BE_13 LX0_13 LX1_13 LX2_13 X0_13 X1_13 X2_13 JA_5 J3_4 JT_3 MB_2 LM_2 O1_1 LO1_1 O2_0 LO2_0 h13; obtain ⟨x00, x01, x02, x03⟩ := X0_14.out.bx.c4; obtain ⟨x10, x11, x12, x13⟩ := X1_14.out.bx.c4; obtain ⟨x20, x21, x22, x23⟩ := X2_14.out.bx.c4; obtain ⟨d0, d1, d2, d3⟩ := JA_6.out.box.bx.c4; simp only [RowV.val] at d0 d1 d2 d3; obtain ⟨t0, t1, t2, t3⟩ := JT_4.out.box.bx.c4; simp only [RowV.val] at t0 t1 t2 t3; obtain ⟨r0, r1, r2, r3⟩ := MB_3.out.bx.c4; obtain ⟨o10, o11, o12, o13⟩ := O1_2.out.bx.c4; obtain ⟨o20, o21, o22, o23⟩ := O2_1.out.bx.c4; obtain ⟨s0, s1⟩ := And.intro SS_0.out.h0 SS_0.out.h1; simp only [RowV.val] at s0 s1)))
              have HA : Hid (∀ W, Below w13.heap.size w13 W → (W.cell? ⟨w10.heap.size, 0, none⟩ = some (.int .i64 b2) ∧ W.cell? ⟨w10.heap.size, 1, none⟩ = some (.int .i64 m2) ∧ W.cell? ⟨w10.heap.size, 2, none⟩ = some (.int .i64 0) ∧ W.cell? ⟨w10.heap.size, 3, none⟩ = some (.slice A60 n2 c60)) ∧ (W.cell? ⟨w12.heap.size, 0, none⟩ = some (.int .i64 b2) ∧ W.cell? ⟨w12.heap.size, 1, none⟩ = some (.int .i64 m2) ∧ W.cell? ⟨w12.heap.size, 2, none⟩ = some (.int .i64 0) ∧ W.cell? ⟨w12.heap.size, 3, none⟩ = some (.slice A62 n2 c62)) ∧ LI W A62 c62 n2 l2 ∧ SI W gs cs ⟨A63, c63, q63⟩ ⟨A64, c64, q64⟩ ∧ (W.cell? ⟨(w.heap.size + 1 + 1), 0, none⟩ = some (.int .i64 b2) ∧ W.cell? ⟨(w.heap.size + 1 + 1), 1, none⟩ = some (.int .i64 m2) ∧ W.cell? ⟨(w.heap.size + 1 + 1), 2, none⟩ = some (.int .i64 k2) ∧ W.cell? ⟨(w.heap.size + 1 + 1), 3, none⟩ = some (.slice B2 n2 p2')) ∧ Tab W ∧ LI W B2 p2' n2 l2 ∧ LI W A60 c60 n2 l2) := Lib.hid fun W hW => ⟨(MB_3.out.next hW).bx.c4, (O2_1.out.next hW).bx.c4, LO2_1.out.next hW, SS_0.out.next hW, (X2_14.out.next hW).bx.c4, TB_14.out.next hW, LX2_14.out.next hW, LM_3.out.next hW⟩
              have HZ : Hid (q64 = z) := Lib.hid HS13.out.2
              clear x00 x01 x02 x03 x10 x11 x12 x13 x20 x21 x22 x23 d0 d1 d2 d3 t0 t1 t2 t3 r0 r1 r2 r3 s0 s1 o10 o11 o12 o13 o20 o21 o22 o23 mw110 mw111 mw112 mw113 mw114 mw115 mw116 mw117 mw120 mw121 mw122 mw123 mw124 mw125 mw126 mw127
              refine Slot.wp_region_slots (AhdG1 (w.heap.size + 1 + 1) w10.heap.size w12.heap.size b2 m2 k2 n2 p2' l2 B2 A60 A62 A64 c60 c62 c64 gs cs q64 z p3) (by kernel_rfl) (by kernel_rfl) (by kernel_rfl) (by kernel_rfl) (fun k v W W' _ h hb => AhdG1_next (w.heap.size + 1 + 1) w10.heap.size w12.heap.size b2 m2 k2 n2 p2' l2 B2 A60 A62 A64 c60 c62 c64 gs cs q64 z p3 k v W W' h hb) ?_ ?_
              · intro i o x W K A ho hB hd sl hbs hK
                have HX := Lib.hid (HA.out W hB)
                match i, ho with
                | 0, ho =>
                  obtain rfl := Option.some.inj ho
                  refine Slot.op_go ho rfl ?_
                  exact Slot.wp_value (Slot.run_move rfl (Slot.eval_at ((hbs 16 (Slot.off_of (by kernel_rfl))).trans rfl))) (hK _ _ (Below.refl _ _) rfl)
                | 1, ho =>
                  obtain rfl := Option.some.inj ho
                  refine Slot.op_go ho rfl ?_
                  have e0 : x 0 = .int .u64 3 := hd ⟨0, .data⟩ (by simp) rfl
                  exact Slot.wp_value (AhdG1_r1 A.eval _ W (w.heap.size + 1 + 1) w10.heap.size w12.heap.size b2 m2 k2 n2 p2' l2 B2 A60 A62 A64 c60 c62 c64 gs cs q64 z p3  rfl (Slot.eval_at ((sl 0 _ 92 rfl rfl).trans (congrArg some e0))) rfl) (hK _ _ (Below.refl _ _) rfl)
                | 2, ho =>
                  obtain rfl := Option.some.inj ho
                  refine Slot.op_go ho rfl ?_
                  have e1 : x 1 = .bool false := hd ⟨1, .data⟩ (by simp) rfl
                  exact Slot.wp_value (Slot.run_move rfl (Slot.eval_at ((sl 1 _ 93 rfl rfl).trans (congrArg some e1)))) (hK _ _ (Below.refl _ _) rfl)
                | 3, ho =>
                  obtain rfl := Option.some.inj ho
                  have e2 : x 2 = .bool false := hd ⟨2, .guard⟩ (by simp) rfl
                  exact Slot.op_not ho rfl rfl rfl ((sl 2 _ 94 rfl rfl).trans (congrArg some e2)) (hK _ _ (Below.refl _ _) rfl)
                | 4, ho =>
                  obtain rfl := Option.some.inj ho
                  have e2 : x 2 = .bool false := hd ⟨2, .chain⟩ (by simp) rfl
                  exact Slot.op_not ho rfl rfl rfl ((sl 2 _ 94 rfl rfl).trans (congrArg some e2)) (hK _ _ (Below.refl _ _) rfl)
                | 5, ho =>
                  obtain rfl := Option.some.inj ho
                  have e2 : x 2 = .bool false := hd ⟨2, .guard⟩ (by simp) rfl
                  exact Slot.op_not ho rfl rfl rfl ((sl 2 _ 94 rfl rfl).trans (congrArg some e2)) (hK _ _ (Below.refl _ _) rfl)
                | 6, ho =>
                  obtain rfl := Option.some.inj ho
                  have e2 : x 2 = .bool false := hd ⟨2, .guard⟩ (by simp) rfl
                  exact Slot.op_not ho rfl rfl rfl ((sl 2 _ 94 rfl rfl).trans (congrArg some e2)) (hK _ _ (Below.refl _ _) rfl)
                | 7, ho =>
                  obtain rfl := Option.some.inj ho
                  have e2 : x 2 = .bool false := hd ⟨2, .guard⟩ (by simp) rfl
                  exact Slot.op_not ho rfl rfl rfl ((sl 2 _ 94 rfl rfl).trans (congrArg some e2)) (hK _ _ (Below.refl _ _) rfl)
                | 8, ho =>
                  obtain rfl := Option.some.inj ho
                  refine Slot.op_go ho rfl ?_
                  have e2 : x 2 = .bool false := hd ⟨2, .data⟩ (by simp) rfl
                  exact Slot.wp_value (Slot.run_pick rfl (Slot.eval_at ((sl 2 _ 94 rfl rfl).trans (congrArg some e2))) ((if_neg Bool.false_ne_true).trans rfl)) (hK _ _ (Below.refl _ _) rfl)
                | 9, ho =>
                  obtain rfl := Option.some.inj ho
                  refine Slot.op_go ho rfl ?_
                  have e8 : x 8 = .bool false := hd ⟨8, .data⟩ (by simp) rfl
                  exact Slot.wp_value (Slot.run_move rfl (Slot.eval_at ((sl 8 _ 100 rfl rfl).trans (congrArg some e8)))) (hK _ _ (Below.refl _ _) rfl)
                | 10, ho =>
                  obtain rfl := Option.some.inj ho
                  have e9 : x 9 = .bool false := hd ⟨9, .guard⟩ (by simp) rfl
                  refine Slot.op_if ho rfl rfl rfl ((sl 9 _ 101 rfl rfl).trans (congrArg some e9)) ?_
                  exact Slot.wp_value (Slot.run_move rfl (Slot.eval_at ((hbs 16 (Slot.off_of (by kernel_rfl))).trans rfl))) (hK _ _ (Below.refl _ _) rfl)
                | 11, ho =>
                  obtain rfl := Option.some.inj ho
                  have e9 : x 9 = .bool false := hd ⟨9, .guard⟩ (by simp) rfl
                  refine Slot.op_if ho rfl rfl rfl ((sl 9 _ 101 rfl rfl).trans (congrArg some e9)) ?_
                  have e10 : x 10 = .int .u64 3 := hd ⟨10, .data⟩ (by simp) rfl
                  exact Slot.wp_value (AhdG1_r11 A.eval _ W (w.heap.size + 1 + 1) w10.heap.size w12.heap.size b2 m2 k2 n2 p2' l2 B2 A60 A62 A64 c60 c62 c64 gs cs q64 z p3  rfl (Slot.eval_at ((sl 10 _ 102 rfl rfl).trans (congrArg some e10))) rfl) (hK _ _ (Below.refl _ _) rfl)
                | 12, ho =>
                  obtain rfl := Option.some.inj ho
                  have e9 : x 9 = .bool false := hd ⟨9, .chain⟩ (by simp) rfl
                  refine Slot.op_if ho rfl rfl rfl ((sl 9 _ 101 rfl rfl).trans (congrArg some e9)) ?_
                  have e11 : x 11 = .bool true := hd ⟨11, .data⟩ (by simp) rfl
                  exact Slot.wp_value (Slot.run_move rfl (Slot.eval_at ((sl 11 _ 103 rfl rfl).trans (congrArg some e11)))) (hK _ _ (Below.refl _ _) rfl)
                | 13, ho =>
                  obtain rfl := Option.some.inj ho
                  have e12 : x 12 = .bool true := hd ⟨12, .guard⟩ (by simp) rfl
                  refine Slot.op_if ho rfl rfl rfl ((sl 12 _ 104 rfl rfl).trans (congrArg some e12)) ?_
                  exact Slot.wp_value (Slot.run_move rfl (Slot.eval_at ((hbs 20 (Slot.off_of (by kernel_rfl))).trans rfl))) (hK _ _ (Below.refl _ _) rfl)
                | 14, ho =>
                  obtain rfl := Option.some.inj ho
                  have e12 : x 12 = .bool true := hd ⟨12, .guard⟩ (by simp) rfl
                  refine Slot.op_if ho rfl rfl rfl ((sl 12 _ 104 rfl rfl).trans (congrArg some e12)) ?_
                  have e13 : x 13 = .slice (some ⟨gs, 0, none⟩) 2 cs := hd ⟨13, .data⟩ (by simp) rfl
                  exact Slot.wp_value (AhdG1_r14 A.eval _ W (w.heap.size + 1 + 1) w10.heap.size w12.heap.size b2 m2 k2 n2 p2' l2 B2 A60 A62 A64 c60 c62 c64 gs cs q64 z p3  rfl (Slot.eval_at ((sl 13 _ 105 rfl rfl).trans (congrArg some e13))) rfl) (hK _ _ (Below.refl _ _) rfl)
                | 15, ho =>
                  obtain rfl := Option.some.inj ho
                  have e12 : x 12 = .bool true := hd ⟨12, .guard⟩ (by simp) rfl
                  refine Slot.op_if ho rfl rfl rfl ((sl 12 _ 104 rfl rfl).trans (congrArg some e12)) ?_
                  have e14 : x 14 = .pointer (some ⟨gs, 1, none⟩) := hd ⟨14, .data⟩ (by simp) rfl
                  exact Slot.wp_value (AhdG1_r15 A.eval _ W (w.heap.size + 1 + 1) w10.heap.size w12.heap.size b2 m2 k2 n2 p2' l2 B2 A60 A62 A64 c60 c62 c64 gs cs q64 z p3  rfl (Slot.eval_at ((sl 14 _ 106 rfl rfl).trans (congrArg some e14))) (HX.out.2.2.2.1.h1)) (hK _ _ (Below.refl _ _) rfl)
                | 16, ho =>
                  obtain rfl := Option.some.inj ho
                  have e12 : x 12 = .bool true := hd ⟨12, .guard⟩ (by simp) rfl
                  refine Slot.op_if ho rfl rfl rfl ((sl 12 _ 104 rfl rfl).trans (congrArg some e12)) ?_
                  have e15 : x 15 = .slice A64 q64.length c64 := hd ⟨15, .data⟩ (by simp) rfl
                  exact Slot.wp_value (Slot.run_convert rfl (Slot.eval_at ((sl 15 _ 107 rfl rfl).trans (congrArg some e15))) (conv_row0 HX.out.2.2.2.1.t1 HZ.out)) (hK _ _ (Below.refl _ _) rfl)
                | 17, ho =>
                  obtain rfl := Option.some.inj ho
                  have e12 : x 12 = .bool true := hd ⟨12, .guard⟩ (by simp) rfl
                  refine Slot.op_if ho rfl rfl rfl ((sl 12 _ 104 rfl rfl).trans (congrArg some e12)) ?_
                  exact Slot.wp_value (AhdG1_r17 A.eval _ W (w.heap.size + 1 + 1) w10.heap.size w12.heap.size b2 m2 k2 n2 p2' l2 B2 A60 A62 A64 c60 c62 c64 gs cs q64 z p3  rfl (Slot.eval_at ((hbs 6 (Slot.off_of (by kernel_rfl))).trans rfl)) (HX.out.2.2.2.2.1.1) (HX.out.2.2.2.2.1.2.1) (HX.out.2.2.2.2.1.2.2.1) (HX.out.2.2.2.2.1.2.2.2)) (hK _ _ (Below.refl _ _) rfl)
                | 18, ho =>
                  obtain rfl := Option.some.inj ho
                  have e12 : x 12 = .bool true := hd ⟨12, .chain⟩ (by simp) rfl
                  refine Slot.op_if ho rfl rfl rfl ((sl 12 _ 104 rfl rfl).trans (congrArg some e12)) ?_
                  have e17 : x 17 = .agg #[.int .i64 b2, .int .i64 m2, .int .i64 k2, .slice B2 n2 p2'] := hd ⟨17, .data⟩ (by simp) rfl
                  have s0 : A.eval (Operand.tmp 109) = .agg #[.int .i64 b2, .int .i64 m2, .int .i64 k2, .slice B2 n2 p2'] := (Slot.eval_at ((sl 17 _ 109 rfl rfl).trans (congrArg some e17)))
                  have s1 : A.eval (Operand.const (Value.int IntKind.u64 3)) = .int .u64 3 := rfl
                  have ha : (#[A.eval (Operand.tmp 109), A.eval (Operand.const (Value.int IntKind.u64 3))] : Array Value) = #[.agg #[.int .i64 b2, .int .i64 m2, .int .i64 k2, .slice B2 n2 p2'], .int .u64 3] := by rw [s0, s1]
                  refine Slot.wp_call (f := 13) (by kernel_rfl) ha (HP.out W HX.out.2.2.2.2.2.1 HX.out.2.2.2.2.2.2.1) ?_
                  rintro e w2 ⟨⟨A, c, q⟩, rfl, ⟨h1, h2⟩, h3⟩
                  have hG : PS (.slice A q.length c) w2 p3 := ⟨A, c, q, rfl, h1, h2⟩
                  exact ⟨_, rfl, hK _ _ h3 hG⟩
                | 19, ho =>
                  obtain rfl := Option.some.inj ho
                  have e12 : x 12 = .bool true := hd ⟨12, .guard⟩ (by simp) rfl
                  refine Slot.op_if ho rfl rfl rfl ((sl 12 _ 104 rfl rfl).trans (congrArg some e12)) ?_
                  obtain ⟨A90, c90, q90, e18, hr18, hq18⟩ := (hd ⟨18, .data⟩ (by simp) rfl : PS (x 18) W p3)
                  exact Slot.wp_value (Slot.run_convert rfl (Slot.eval_at ((sl 18 _ 110 rfl rfl).trans (congrArg some e18))) (conv_row0 hr18 hq18)) (hK _ _ (Below.refl _ _) rfl)
                | 20, ho =>
                  obtain rfl := Option.some.inj ho
                  have e12 : x 12 = .bool true := hd ⟨12, .guard⟩ (by simp) rfl
                  refine Slot.op_if ho rfl rfl rfl ((sl 12 _ 104 rfl rfl).trans (congrArg some e12)) ?_
                  have e16 : x 16 = .string (strOfNums z) := hd ⟨16, .data⟩ (by simp) rfl
                  have e19 : x 19 = .string (strOfNums p3) := hd ⟨19, .data⟩ (by simp) rfl
                  exact Slot.wp_value (AhdG1_r20 A.eval _ W (w.heap.size + 1 + 1) w10.heap.size w12.heap.size b2 m2 k2 n2 p2' l2 B2 A60 A62 A64 c60 c62 c64 gs cs q64 z p3  rfl (Slot.eval_at ((sl 16 _ 108 rfl rfl).trans (congrArg some e16))) (Slot.eval_at ((sl 19 _ 111 rfl rfl).trans (congrArg some e19))) (HZP.out)) (hK _ _ (Below.refl _ _) rfl)
                | 21, ho =>
                  obtain rfl := Option.some.inj ho
                  have e9 : x 9 = .bool false := hd ⟨9, .guard⟩ (by simp) rfl
                  refine Slot.op_if ho rfl rfl rfl ((sl 9 _ 101 rfl rfl).trans (congrArg some e9)) ?_
                  have e20 : x 20 = .bool true := hd ⟨20, .data⟩ (by simp) rfl
                  have e12 : x 12 = .bool true := hd ⟨12, .data⟩ (by simp) rfl
                  exact Slot.wp_value (Slot.run_pick rfl (Slot.eval_at ((sl 12 _ 104 rfl rfl).trans (congrArg some e12))) ((if_pos rfl).trans (Slot.eval_at ((sl 20 _ 112 rfl rfl).trans (congrArg some e20))))) (hK _ _ (Below.refl _ _) rfl)
                | 22, ho =>
                  obtain rfl := Option.some.inj ho
                  have e9 : x 9 = .bool false := hd ⟨9, .guard⟩ (by simp) rfl
                  refine Slot.op_if ho rfl rfl rfl ((sl 9 _ 101 rfl rfl).trans (congrArg some e9)) ?_
                  have e21 : x 21 = .bool true := hd ⟨21, .data⟩ (by simp) rfl
                  exact Slot.wp_value (Slot.run_move rfl (Slot.eval_at ((sl 21 _ 113 rfl rfl).trans (congrArg some e21)))) (hK _ _ (Below.refl _ _) rfl)
                | 23, ho =>
                  obtain rfl := Option.some.inj ho
                  have e22 : x 22 = .bool true := hd ⟨22, .guard⟩ (by simp) rfl
                  refine Slot.op_if ho rfl rfl rfl ((sl 22 _ 114 rfl rfl).trans (congrArg some e22)) ?_
                  exact Slot.wp_value (AhdG1_r23 A.eval _ W (w.heap.size + 1 + 1) w10.heap.size w12.heap.size b2 m2 k2 n2 p2' l2 B2 A60 A62 A64 c60 c62 c64 gs cs q64 z p3  rfl (Slot.eval_at ((hbs 15 (Slot.off_of (by kernel_rfl))).trans rfl)) (HX.out.1.1) (HX.out.1.2.1) (HX.out.1.2.2.1) (HX.out.1.2.2.2)) (hK _ _ (Below.refl _ _) rfl)
                | 24, ho =>
                  obtain rfl := Option.some.inj ho
                  have e22 : x 22 = .bool true := hd ⟨22, .chain⟩ (by simp) rfl
                  refine Slot.op_if ho rfl rfl rfl ((sl 22 _ 114 rfl rfl).trans (congrArg some e22)) ?_
                  have e23 : x 23 = .agg #[.int .i64 b2, .int .i64 m2, .int .i64 0, .slice A60 n2 c60] := hd ⟨23, .data⟩ (by simp) rfl
                  have s0 : A.eval (Operand.tmp 115) = .agg #[.int .i64 b2, .int .i64 m2, .int .i64 0, .slice A60 n2 c60] := (Slot.eval_at ((sl 23 _ 115 rfl rfl).trans (congrArg some e23)))
                  have ha : (#[A.eval (Operand.tmp 115)] : Array Value) = #[.agg #[.int .i64 b2, .int .i64 m2, .int .i64 0, .slice A60 n2 c60]] := by rw [s0]
                  refine Slot.wp_call (f := 15) (by kernel_rfl) ha (of_at HX.out.2.2.2.2.2.2.2 HN2.out b2 m2 0) ?_
                  rintro e w2 ⟨A', c', rfl, h1, h2⟩
                  have hG : GV (.agg #[.int .i64 b2, .int .i64 m2, .int .i64 0, .slice A' n2 c']) w2 b2 m2 0 n2 l2 := ⟨A', c', rfl, h1⟩
                  exact ⟨_, rfl, hK _ _ h2 hG⟩
                | 25, ho =>
                  obtain rfl := Option.some.inj ho
                  have e22 : x 22 = .bool true := hd ⟨22, .guard⟩ (by simp) rfl
                  refine Slot.op_if ho rfl rfl rfl ((sl 22 _ 114 rfl rfl).trans (congrArg some e22)) ?_
                  exact Slot.wp_value (AhdG1_r25 A.eval _ W (w.heap.size + 1 + 1) w10.heap.size w12.heap.size b2 m2 k2 n2 p2' l2 B2 A60 A62 A64 c60 c62 c64 gs cs q64 z p3  rfl (Slot.eval_at ((hbs 19 (Slot.off_of (by kernel_rfl))).trans rfl)) (HX.out.2.1.1) (HX.out.2.1.2.1) (HX.out.2.1.2.2.1) (HX.out.2.1.2.2.2)) (hK _ _ (Below.refl _ _) rfl)
                | 26, ho =>
                  obtain rfl := Option.some.inj ho
                  have e22 : x 22 = .bool true := hd ⟨22, .guard⟩ (by simp) rfl
                  refine Slot.op_if ho rfl rfl rfl ((sl 22 _ 114 rfl rfl).trans (congrArg some e22)) ?_
                  obtain ⟨A84, c84, e24, hl84⟩ := (hd ⟨24, .data⟩ (by simp) rfl : GV (x 24) W b2 m2 0 n2 l2)
                  have e25 : x 25 = .agg #[.int .i64 b2, .int .i64 m2, .int .i64 0, .slice A62 n2 c62] := hd ⟨25, .data⟩ (by simp) rfl
                  have s0 : A.eval (Operand.tmp 116) = .agg #[.int .i64 b2, .int .i64 m2, .int .i64 0, .slice A84 n2 c84] := (Slot.eval_at ((sl 24 _ 116 rfl rfl).trans (congrArg some e24)))
                  have s1 : A.eval (Operand.tmp 117) = .agg #[.int .i64 b2, .int .i64 m2, .int .i64 0, .slice A62 n2 c62] := (Slot.eval_at ((sl 25 _ 117 rfl rfl).trans (congrArg some e25)))
                  have ha : (#[A.eval (Operand.tmp 116), A.eval (Operand.tmp 117)] : Array Value) = #[.agg #[.int .i64 b2, .int .i64 m2, .int .i64 0, .slice A84 n2 c84], .agg #[.int .i64 b2, .int .i64 m2, .int .i64 0, .slice A62 n2 c62]] := by rw [s0, s1]
                  refine Slot.wp_call (f := 16) (by kernel_rfl) ha (same_at hl84 HX.out.2.2.1 HN2.out b2 m2 0) ?_
                  rintro e w2 ⟨rfl, h1⟩
                  exact ⟨_, rfl, hK _ _ h1 rfl⟩
                | 27, ho =>
                  obtain rfl := Option.some.inj ho
                  have e22 : x 22 = .bool true := hd ⟨22, .guard⟩ (by simp) rfl
                  refine Slot.op_if ho rfl rfl rfl ((sl 22 _ 114 rfl rfl).trans (congrArg some e22)) ?_
                  have e26 : x 26 = .bool true := hd ⟨26, .data⟩ (by simp) rfl
                  exact Slot.wp_value (AhdG1_r27 A.eval _ W (w.heap.size + 1 + 1) w10.heap.size w12.heap.size b2 m2 k2 n2 p2' l2 B2 A60 A62 A64 c60 c62 c64 gs cs q64 z p3  rfl (Slot.eval_at ((sl 26 _ 118 rfl rfl).trans (congrArg some e26)))) (hK _ _ (Below.refl _ _) rfl)
                | 28, ho =>
                  obtain rfl := Option.some.inj ho
                  have e9 : x 9 = .bool false := hd ⟨9, .guard⟩ (by simp) rfl
                  refine Slot.op_if ho rfl rfl rfl ((sl 9 _ 101 rfl rfl).trans (congrArg some e9)) ?_
                  have e27 : x 27 = .bool false := hd ⟨27, .data⟩ (by simp) rfl
                  have e22 : x 22 = .bool true := hd ⟨22, .data⟩ (by simp) rfl
                  exact Slot.wp_value (Slot.run_pick rfl (Slot.eval_at ((sl 22 _ 114 rfl rfl).trans (congrArg some e22))) ((if_pos rfl).trans (Slot.eval_at ((sl 27 _ 119 rfl rfl).trans (congrArg some e27))))) (hK _ _ (Below.refl _ _) rfl)
                | 29, ho =>
                  obtain rfl := Option.some.inj ho
                  refine Slot.op_go ho rfl ?_
                  have e28 : x 28 = .bool false := hd ⟨28, .data⟩ (by simp) rfl
                  have e9 : x 9 = .bool false := hd ⟨9, .data⟩ (by simp) rfl
                  exact Slot.wp_value (Slot.run_pick rfl (Slot.eval_at ((sl 9 _ 101 rfl rfl).trans (congrArg some e9))) ((if_neg Bool.false_ne_true).trans (Slot.eval_at ((sl 28 _ 120 rfl rfl).trans (congrArg some e28))))) (hK _ _ (Below.refl _ _) rfl)
                | n + 30, ho => simp at ho
              · intro x W hB hx
                have e29 : x 29 = .bool false := hx 29 (by simp)
                simp only [Inv.fill, Act.put, List.setIfInBounds_toArray, List.set_cons_zero, List.set_cons_succ, e29]
                clear hx e29
                have TB_15 := Lib.hid (TB_14.out.next hB)
                have BE_15 := Lib.hid (BE_14.out.next hB)
                have LX0_15 := Lib.hid (LX0_14.out.next hB)
                have LX1_15 := Lib.hid (LX1_14.out.next hB)
                have LX2_15 := Lib.hid (LX2_14.out.next hB)
                have X0_15 := Lib.hid (X0_14.out.next hB)
                have X1_15 := Lib.hid (X1_14.out.next hB)
                have X2_15 := Lib.hid (X2_14.out.next hB)
                have JA_7 := Lib.hid (JA_6.out.next hB)
                have J3_6 := Lib.hid (J3_5.out.next hB)
                have JT_5 := Lib.hid (JT_4.out.next hB)
                have MB_4 := Lib.hid (MB_3.out.next hB)
                have LM_4 := Lib.hid (LM_3.out.next hB)
                have O1_3 := Lib.hid (O1_2.out.next hB)
                have LO1_3 := Lib.hid (LO1_2.out.next hB)
                have O2_2 := Lib.hid (O2_1.out.next hB)
                have LO2_2 := Lib.hid (LO2_1.out.next hB)
                have SS_1 := Lib.hid (SS_0.out.next hB)
                clear TB_14 BE_14 LX0_14 LX1_14 LX2_14 X0_14 X1_14 X2_14 JA_6 J3_5 JT_4 MB_3 LM_3 O1_2 LO1_2 O2_1 LO2_1 SS_0
                obtain ⟨x00, x01, x02, x03⟩ := X0_15.out.bx.c4
                obtain ⟨x10, x11, x12, x13⟩ := X1_15.out.bx.c4
                obtain ⟨x20, x21, x22, x23⟩ := X2_15.out.bx.c4
                obtain ⟨d0, d1, d2, d3⟩ := JA_7.out.box.bx.c4
                simp only [RowV.val] at d0 d1 d2 d3
                obtain ⟨t0, t1, t2, t3⟩ := JT_5.out.box.bx.c4
                simp only [RowV.val] at t0 t1 t2 t3
                obtain ⟨r0, r1, r2, r3⟩ := MB_4.out.bx.c4
                obtain ⟨o10, o11, o12, o13⟩ := O1_3.out.bx.c4
                obtain ⟨o20, o21, o22, o23⟩ := O2_2.out.bx.c4
                obtain ⟨s0, s1⟩ := And.intro SS_1.out.h0 SS_1.out.h1
                simp only [RowV.val] at s0 s1
                go_wp2_with (first
                  | (go_at_call 23; (refine (HW4.out ⟨⟨A50, c50, q50⟩, ⟨A51, c51, q51⟩, ⟨A52, c52, q52⟩, ⟨A53, c53, q53⟩⟩ _ TB_15.out JT_5.out.in_ HB9.out LX0_15.out).mono ?_; rintro e w14 ⟨⟨⟨A70, c70, q70⟩, ⟨A71, c71, q71⟩, ⟨A72, c72, q72⟩, ⟨A73, c73, q73⟩⟩, rfl, hi14, hb14, h14⟩; have TB_16 := Lib.hid (TB_15.out.next h14); have BE_16 := Lib.hid (BE_15.out.next h14); have LX0_16 := Lib.hid (LX0_15.out.next h14); have LX1_16 := Lib.hid (LX1_15.out.next h14); have LX2_16 := Lib.hid (LX2_15.out.next h14); have X0_16 := Lib.hid (X0_15.out.next h14); have X1_16 := Lib.hid (X1_15.out.next h14); have X2_16 := Lib.hid (X2_15.out.next h14); have JA_8 := Lib.hid (JA_7.out.next h14); have J3_7 := Lib.hid (J3_6.out.next h14); have JT_6 := Lib.hid (JT_5.out.next h14); have MB_5 := Lib.hid (MB_4.out.next h14); have LM_5 := Lib.hid (LM_4.out.next h14); have O1_4 := Lib.hid (O1_3.out.next h14); have LO1_4 := Lib.hid (LO1_3.out.next h14); have O2_3 := Lib.hid (O2_2.out.next h14); have LO2_3 := Lib.hid (LO2_2.out.next h14); have SS_2 := Lib.hid (SS_1.out.next h14); have J7_0 := Lib.hid hi14; have HB14 := Lib.hid hb14; clear hb14 hi14; simp only [Jr.val, Jr.arr, RowV.val]; clear TB_15 BE_15 LX0_15 LX1_15 LX2_15 X0_15 X1_15 X2_15 JA_7 J3_6 JT_5 MB_4 LM_4 O1_3 LO1_3 O2_2 LO2_2 SS_1 h14; obtain ⟨x00, x01, x02, x03⟩ := X0_16.out.bx.c4; obtain ⟨x10, x11, x12, x13⟩ := X1_16.out.bx.c4; obtain ⟨x20, x21, x22, x23⟩ := X2_16.out.bx.c4; obtain ⟨d0, d1, d2, d3⟩ := JA_8.out.box.bx.c4; simp only [RowV.val] at d0 d1 d2 d3; obtain ⟨t0, t1, t2, t3⟩ := JT_6.out.box.bx.c4; simp only [RowV.val] at t0 t1 t2 t3; obtain ⟨r0, r1, r2, r3⟩ := MB_5.out.bx.c4; obtain ⟨o10, o11, o12, o13⟩ := O1_4.out.bx.c4; obtain ⟨o20, o21, o22, o23⟩ := O2_3.out.bx.c4; obtain ⟨s0, s1⟩ := And.intro SS_2.out.h0 SS_2.out.h1; simp only [RowV.val] at s0 s1))
                  | (go_at_call 18; (refine (HL4.out ⟨⟨A70, c70, q70⟩, ⟨A71, c71, q71⟩, ⟨A72, c72, q72⟩, ⟨A73, c73, q73⟩⟩ _ TB_16.out J7_0.out HB14.out).mono ?_; rintro e w15 ⟨A80, c80, rfl, hl15, h15⟩; have TB_17 := Lib.hid ((TB_16.out.next h15).next (below_box (o := .cells #[.int .i64 b0, .int .i64 m0, .int .i64 0, .slice A80 n0 c80] 24))); have BE_17 := Lib.hid ((BE_16.out.next h15).next (below_box (o := .cells #[.int .i64 b0, .int .i64 m0, .int .i64 0, .slice A80 n0 c80] 24))); have LX0_17 := Lib.hid ((LX0_16.out.next h15).next (below_box (o := .cells #[.int .i64 b0, .int .i64 m0, .int .i64 0, .slice A80 n0 c80] 24))); have LX1_17 := Lib.hid ((LX1_16.out.next h15).next (below_box (o := .cells #[.int .i64 b0, .int .i64 m0, .int .i64 0, .slice A80 n0 c80] 24))); have LX2_17 := Lib.hid ((LX2_16.out.next h15).next (below_box (o := .cells #[.int .i64 b0, .int .i64 m0, .int .i64 0, .slice A80 n0 c80] 24))); have X0_17 := Lib.hid ((X0_16.out.next h15).next (below_box (o := .cells #[.int .i64 b0, .int .i64 m0, .int .i64 0, .slice A80 n0 c80] 24))); have X1_17 := Lib.hid ((X1_16.out.next h15).next (below_box (o := .cells #[.int .i64 b0, .int .i64 m0, .int .i64 0, .slice A80 n0 c80] 24))); have X2_17 := Lib.hid ((X2_16.out.next h15).next (below_box (o := .cells #[.int .i64 b0, .int .i64 m0, .int .i64 0, .slice A80 n0 c80] 24))); have JA_9 := Lib.hid ((JA_8.out.next h15).next (below_box (o := .cells #[.int .i64 b0, .int .i64 m0, .int .i64 0, .slice A80 n0 c80] 24))); have J3_8 := Lib.hid ((J3_7.out.next h15).next (below_box (o := .cells #[.int .i64 b0, .int .i64 m0, .int .i64 0, .slice A80 n0 c80] 24))); have JT_7 := Lib.hid ((JT_6.out.next h15).next (below_box (o := .cells #[.int .i64 b0, .int .i64 m0, .int .i64 0, .slice A80 n0 c80] 24))); have MB_6 := Lib.hid ((MB_5.out.next h15).next (below_box (o := .cells #[.int .i64 b0, .int .i64 m0, .int .i64 0, .slice A80 n0 c80] 24))); have LM_6 := Lib.hid ((LM_5.out.next h15).next (below_box (o := .cells #[.int .i64 b0, .int .i64 m0, .int .i64 0, .slice A80 n0 c80] 24))); have O1_5 := Lib.hid ((O1_4.out.next h15).next (below_box (o := .cells #[.int .i64 b0, .int .i64 m0, .int .i64 0, .slice A80 n0 c80] 24))); have LO1_5 := Lib.hid ((LO1_4.out.next h15).next (below_box (o := .cells #[.int .i64 b0, .int .i64 m0, .int .i64 0, .slice A80 n0 c80] 24))); have O2_4 := Lib.hid ((O2_3.out.next h15).next (below_box (o := .cells #[.int .i64 b0, .int .i64 m0, .int .i64 0, .slice A80 n0 c80] 24))); have LO2_4 := Lib.hid ((LO2_3.out.next h15).next (below_box (o := .cells #[.int .i64 b0, .int .i64 m0, .int .i64 0, .slice A80 n0 c80] 24))); have SS_3 := Lib.hid ((SS_2.out.next h15).next (below_box (o := .cells #[.int .i64 b0, .int .i64 m0, .int .i64 0, .slice A80 n0 c80] 24))); have J7_1 := Lib.hid ((J7_0.out.next h15).next (below_box (o := .cells #[.int .i64 b0, .int .i64 m0, .int .i64 0, .slice A80 n0 c80] 24))); clear hl15; clear TB_16 BE_16 LX0_16 LX1_16 LX2_16 X0_16 X1_16 X2_16 JA_8 J3_7 JT_6 MB_5 LM_5 O1_4 LO1_4 O2_3 LO2_3 SS_2 J7_0 h15; obtain ⟨x00, x01, x02, x03⟩ := X0_17.out.bx.c4; obtain ⟨x10, x11, x12, x13⟩ := X1_17.out.bx.c4; obtain ⟨x20, x21, x22, x23⟩ := X2_17.out.bx.c4; obtain ⟨d0, d1, d2, d3⟩ := JA_9.out.box.bx.c4; simp only [RowV.val] at d0 d1 d2 d3; obtain ⟨t0, t1, t2, t3⟩ := JT_7.out.box.bx.c4; simp only [RowV.val] at t0 t1 t2 t3; obtain ⟨r0, r1, r2, r3⟩ := MB_6.out.bx.c4; obtain ⟨o10, o11, o12, o13⟩ := O1_5.out.bx.c4; obtain ⟨o20, o21, o22, o23⟩ := O2_4.out.bx.c4; obtain ⟨s0, s1⟩ := And.intro SS_3.out.h0 SS_3.out.h1; simp only [RowV.val] at s0 s1)))
                refine Slot.wp_region_slots (AhdH1 ) (by kernel_rfl) (by kernel_rfl) (by kernel_rfl) (by kernel_rfl) (fun k v W W' _ h hb => AhdH1_next  k v W W' h hb) ?_ ?_
                · intro i o x W K A ho hB hd sl hbs hK
                  match i, ho with
                  | 0, ho =>
                    obtain rfl := Option.some.inj ho
                    refine Slot.op_go ho rfl ?_
                    exact Slot.wp_value (Slot.run_move rfl (Slot.eval_at ((hbs 22 (Slot.off_of (by kernel_rfl))).trans rfl))) (hK _ _ (Below.refl _ _) rfl)
                  | 1, ho =>
                    obtain rfl := Option.some.inj ho
                    refine Slot.op_go ho rfl ?_
                    exact Slot.wp_value (Slot.run_move rfl (Slot.eval_at ((hbs 16 (Slot.off_of (by kernel_rfl))).trans rfl))) (hK _ _ (Below.refl _ _) rfl)
                  | 2, ho =>
                    obtain rfl := Option.some.inj ho
                    refine Slot.op_go ho rfl ?_
                    have e1 : x 1 = .int .u64 3 := hd ⟨1, .data⟩ (by simp) rfl
                    exact Slot.wp_value (AhdH1_r2 A.eval _ W   rfl (Slot.eval_at ((sl 1 _ 131 rfl rfl).trans (congrArg some e1))) rfl) (hK _ _ (Below.refl _ _) rfl)
                  | 3, ho =>
                    obtain rfl := Option.some.inj ho
                    refine Slot.op_go ho rfl ?_
                    have e0 : x 0 = .int .u64 4 := hd ⟨0, .data⟩ (by simp) rfl
                    have e2 : x 2 = .int .u64 4 := hd ⟨2, .data⟩ (by simp) rfl
                    exact Slot.wp_value (AhdH1_r3 A.eval _ W   rfl (Slot.eval_at ((sl 0 _ 130 rfl rfl).trans (congrArg some e0))) (Slot.eval_at ((sl 2 _ 132 rfl rfl).trans (congrArg some e2)))) (hK _ _ (Below.refl _ _) rfl)
                  | 4, ho =>
                    obtain rfl := Option.some.inj ho
                    refine Slot.op_go ho rfl ?_
                    have e3 : x 3 = .bool true := hd ⟨3, .data⟩ (by simp) rfl
                    exact Slot.wp_value (Slot.run_move rfl (Slot.eval_at ((sl 3 _ 133 rfl rfl).trans (congrArg some e3)))) (hK _ _ (Below.refl _ _) rfl)
                  | 5, ho =>
                    obtain rfl := Option.some.inj ho
                    have e4 : x 4 = .bool true := hd ⟨4, .guard⟩ (by simp) rfl
                    exact Slot.op_not ho rfl rfl rfl ((sl 4 _ 134 rfl rfl).trans (congrArg some e4)) (hK _ _ (Below.refl _ _) rfl)
                  | 6, ho =>
                    obtain rfl := Option.some.inj ho
                    have e4 : x 4 = .bool true := hd ⟨4, .guard⟩ (by simp) rfl
                    exact Slot.op_not ho rfl rfl rfl ((sl 4 _ 134 rfl rfl).trans (congrArg some e4)) (hK _ _ (Below.refl _ _) rfl)
                  | 7, ho =>
                    obtain rfl := Option.some.inj ho
                    have e4 : x 4 = .bool true := hd ⟨4, .chain⟩ (by simp) rfl
                    exact Slot.op_not ho rfl rfl rfl ((sl 4 _ 134 rfl rfl).trans (congrArg some e4)) (hK _ _ (Below.refl _ _) rfl)
                  | 8, ho =>
                    obtain rfl := Option.some.inj ho
                    have e7 : x 7 = undef := hd ⟨7, .guard⟩ (by simp) rfl
                    exact Slot.op_none ho rfl rfl rfl ((sl 7 _ 137 rfl rfl).trans (congrArg some e7)) (hK _ _ (Below.refl _ _) rfl)
                  | 9, ho =>
                    obtain rfl := Option.some.inj ho
                    have e7 : x 7 = undef := hd ⟨7, .guard⟩ (by simp) rfl
                    exact Slot.op_none ho rfl rfl rfl ((sl 7 _ 137 rfl rfl).trans (congrArg some e7)) (hK _ _ (Below.refl _ _) rfl)
                  | 10, ho =>
                    obtain rfl := Option.some.inj ho
                    have e7 : x 7 = undef := hd ⟨7, .guard⟩ (by simp) rfl
                    exact Slot.op_none ho rfl rfl rfl ((sl 7 _ 137 rfl rfl).trans (congrArg some e7)) (hK _ _ (Below.refl _ _) rfl)
                  | 11, ho =>
                    obtain rfl := Option.some.inj ho
                    have e7 : x 7 = undef := hd ⟨7, .guard⟩ (by simp) rfl
                    exact Slot.op_none ho rfl rfl rfl ((sl 7 _ 137 rfl rfl).trans (congrArg some e7)) (hK _ _ (Below.refl _ _) rfl)
                  | 12, ho =>
                    obtain rfl := Option.some.inj ho
                    have e7 : x 7 = undef := hd ⟨7, .guard⟩ (by simp) rfl
                    exact Slot.op_none ho rfl rfl rfl ((sl 7 _ 137 rfl rfl).trans (congrArg some e7)) (hK _ _ (Below.refl _ _) rfl)
                  | 13, ho =>
                    obtain rfl := Option.some.inj ho
                    have e7 : x 7 = undef := hd ⟨7, .chain⟩ (by simp) rfl
                    exact Slot.op_none ho rfl rfl rfl ((sl 7 _ 137 rfl rfl).trans (congrArg some e7)) (hK _ _ (Below.refl _ _) rfl)
                  | 14, ho =>
                    obtain rfl := Option.some.inj ho
                    have e7 : x 7 = undef := hd ⟨7, .guard⟩ (by simp) rfl
                    exact Slot.op_none ho rfl rfl rfl ((sl 7 _ 137 rfl rfl).trans (congrArg some e7)) (hK _ _ (Below.refl _ _) rfl)
                  | 15, ho =>
                    obtain rfl := Option.some.inj ho
                    have e7 : x 7 = undef := hd ⟨7, .guard⟩ (by simp) rfl
                    exact Slot.op_none ho rfl rfl rfl ((sl 7 _ 137 rfl rfl).trans (congrArg some e7)) (hK _ _ (Below.refl _ _) rfl)
                  | 16, ho =>
                    obtain rfl := Option.some.inj ho
                    have e4 : x 4 = .bool true := hd ⟨4, .guard⟩ (by simp) rfl
                    exact Slot.op_not ho rfl rfl rfl ((sl 4 _ 134 rfl rfl).trans (congrArg some e4)) (hK _ _ (Below.refl _ _) rfl)
                  | 17, ho =>
                    obtain rfl := Option.some.inj ho
                    refine Slot.op_go ho rfl ?_
                    have e4 : x 4 = .bool true := hd ⟨4, .data⟩ (by simp) rfl
                    exact Slot.wp_value (Slot.run_pick rfl (Slot.eval_at ((sl 4 _ 134 rfl rfl).trans (congrArg some e4))) ((if_pos rfl).trans rfl)) (hK _ _ (Below.refl _ _) rfl)
                  | 18, ho =>
                    obtain rfl := Option.some.inj ho
                    refine Slot.op_go ho rfl ?_
                    have e17 : x 17 = .bool true := hd ⟨17, .data⟩ (by simp) rfl
                    exact Slot.wp_value (Slot.run_assign rfl (Slot.eval_at ((sl 17 _ 147 rfl rfl).trans (congrArg some e17)))) (hK _ _ (Below.refl _ _) rfl)
                  | n + 19, ho => simp at ho
                · intro x W hB hx
                  have e18 : x 18 = .bool true := hx 18 (by simp)
                  simp only [Inv.fill, Act.put, List.setIfInBounds_toArray, List.set_cons_zero, List.set_cons_succ, e18]
                  clear hx e18
                  go_wp2
                  go_ret
                  exact ⟨rfl, (BE_17.out.next hB).bel⟩
          · obtain ⟨nc, hnc⟩ : ∃ n, lc.length = n := ⟨_, rfl⟩
            have HL : Hid (∀ j W, Tab W → Jr.In W j → (j.n0.bs = p2 ∧ j.n1.bs = z ∧ j.a0.bs = p2 ∧ j.a1.bs = p1) → Calls Tryd.prog 18 #[j.val] W fun e w' => ∃ A c, e = .returned (.tuple #[.agg #[.int .i64 bc, .int .i64 mc, .int .i64 0, .slice A nc c], .int .u64 3, .bool true]) ∧ LI w' A c nc lc ∧ Below W.heap.size W w') := Lib.hid fun j W h1 h2 h3 => load_b p2 z p2 p1 j h1 h2 h3 hC hnc rfl
            have HL4 : Hid (∀ j W, Tab W → Jr.In W j → (j.n0.bs = wr0 p2 z b0 m0 l0 ∧ j.n1.bs = wr1 p2 z b0 m0 l0 ∧ j.a0.bs = p2 ∧ j.a1.bs = z) → Calls Tryd.prog 18 #[j.val] W fun e w' => ∃ A c, e = .returned (.tuple #[.agg #[.int .i64 b0, .int .i64 m0, .int .i64 0, .slice A n0 c], .int .u64 4, .bool true]) ∧ LI w' A c n0 l0 ∧ Below W.heap.size W w') := HL4 3 (by rw [hC]) (by decide) (by decide)
            have hs0 : (strOfNums z).toList ≠ (strOfNums p3).toList := fun h => hz (map_inj z p3 hbz hb3 (by rwa [str_toList, str_toList] at h))
            have HZP := Lib.hid hs0
            have hn100 : n2 ≤ 100 := by omega
            clear hC hbz hb2 hb3 hn0 hn1 hn2 hnc hz hs0
            generalize wr0 p2 z b0 m0 l0 = o0 at *
            generalize wr1 p2 z b0 m0 l0 = o1 at *
            go_enter Tryd.func6, Tryd.ntmps6
            go_wp2_with (first
              | (go_at_call 9; (refine (awake_any _ TB_0.out).mono ?_; rintro e w1 ⟨rfl, h1⟩; have TB_1 := Lib.hid (TB_0.out.next h1); have BE_1 := Lib.hid (BE_0.out.next h1); have LX0_1 := Lib.hid (LX0_0.out.next h1); have LX1_1 := Lib.hid (LX1_0.out.next h1); have LX2_1 := Lib.hid (LX2_0.out.next h1); have X0_1 := Lib.hid (X0_0.out.next h1); have X1_1 := Lib.hid (X1_0.out.next h1); have X2_1 := Lib.hid (X2_0.out.next h1); clear TB_0 BE_0 LX0_0 LX1_0 LX2_0 X0_0 X1_0 X2_0 h1; obtain ⟨x00, x01, x02, x03⟩ := X0_1.out.bx.c4; obtain ⟨x10, x11, x12, x13⟩ := X1_1.out.bx.c4; obtain ⟨x20, x21, x22, x23⟩ := X2_1.out.bx.c4))
              | (go_at_call 10; (refine (few_at LX0_1.out b0 m0 k0).mono ?_; rintro e w2 ⟨rfl, h2⟩; have TB_2 := Lib.hid (TB_1.out.next h2); have BE_2 := Lib.hid (BE_1.out.next h2); have LX0_2 := Lib.hid (LX0_1.out.next h2); have LX1_2 := Lib.hid (LX1_1.out.next h2); have LX2_2 := Lib.hid (LX2_1.out.next h2); have X0_2 := Lib.hid (X0_1.out.next h2); have X1_2 := Lib.hid (X1_1.out.next h2); have X2_2 := Lib.hid (X2_1.out.next h2); rw [f0]; clear TB_1 BE_1 LX0_1 LX1_1 LX2_1 X0_1 X1_1 X2_1 h2; obtain ⟨x00, x01, x02, x03⟩ := X0_2.out.bx.c4; obtain ⟨x10, x11, x12, x13⟩ := X1_2.out.bx.c4; obtain ⟨x20, x21, x22, x23⟩ := X2_2.out.bx.c4))
              | (go_at_call 10; (refine (few_at LX1_2.out b1 m1 k1).mono ?_; rintro e w3 ⟨rfl, h3⟩; have TB_3 := Lib.hid (TB_2.out.next h3); have BE_3 := Lib.hid (BE_2.out.next h3); have LX0_3 := Lib.hid (LX0_2.out.next h3); have LX1_3 := Lib.hid (LX1_2.out.next h3); have LX2_3 := Lib.hid (LX2_2.out.next h3); have X0_3 := Lib.hid (X0_2.out.next h3); have X1_3 := Lib.hid (X1_2.out.next h3); have X2_3 := Lib.hid (X2_2.out.next h3); rw [f1]; clear TB_2 BE_2 LX0_2 LX1_2 LX2_2 X0_2 X1_2 X2_2 h3; obtain ⟨x00, x01, x02, x03⟩ := X0_3.out.bx.c4; obtain ⟨x10, x11, x12, x13⟩ := X1_3.out.bx.c4; obtain ⟨x20, x21, x22, x23⟩ := X2_3.out.bx.c4))
              | (go_at_call 10; (refine (few_at LX2_3.out b2 m2 k2).mono ?_; rintro e w4 ⟨rfl, h4⟩; have TB_4 := Lib.hid (TB_3.out.next h4); have BE_4 := Lib.hid (BE_3.out.next h4); have LX0_4 := Lib.hid (LX0_3.out.next h4); have LX1_4 := Lib.hid (LX1_3.out.next h4); have LX2_4 := Lib.hid (LX2_3.out.next h4); have X0_4 := Lib.hid (X0_3.out.next h4); have X1_4 := Lib.hid (X1_3.out.next h4); have X2_4 := Lib.hid (X2_3.out.next h4); rw [f2]; clear TB_3 BE_3 LX0_3 LX1_3 LX2_3 X0_3 X1_3 X2_3 h4; obtain ⟨x00, x01, x02, x03⟩ := X0_4.out.bx.c4; obtain ⟨x10, x11, x12, x13⟩ := X1_4.out.bx.c4; obtain ⟨x20, x21, x22, x23⟩ := X2_4.out.bx.c4))
              | (go_at_call 25; (refine (check_at LX0_4.out (by omega) b0 m0 k0).mono ?_; rintro e w5 ⟨rfl, h5⟩; have TB_5 := Lib.hid (TB_4.out.next h5); have BE_5 := Lib.hid (BE_4.out.next h5); have LX0_5 := Lib.hid (LX0_4.out.next h5); have LX1_5 := Lib.hid (LX1_4.out.next h5); have LX2_5 := Lib.hid (LX2_4.out.next h5); have X0_5 := Lib.hid (X0_4.out.next h5); have X1_5 := Lib.hid (X1_4.out.next h5); have X2_5 := Lib.hid (X2_4.out.next h5); rw [HM0.out]; clear TB_4 BE_4 LX0_4 LX1_4 LX2_4 X0_4 X1_4 X2_4 h5; obtain ⟨x00, x01, x02, x03⟩ := X0_5.out.bx.c4; obtain ⟨x10, x11, x12, x13⟩ := X1_5.out.bx.c4; obtain ⟨x20, x21, x22, x23⟩ := X2_5.out.bx.c4))
              | (go_at_call 25; (refine (check_at LX1_5.out (by omega) b1 m1 k1).mono ?_; rintro e w6 ⟨rfl, h6⟩; have TB_6 := Lib.hid (TB_5.out.next h6); have BE_6 := Lib.hid (BE_5.out.next h6); have LX0_6 := Lib.hid (LX0_5.out.next h6); have LX1_6 := Lib.hid (LX1_5.out.next h6); have LX2_6 := Lib.hid (LX2_5.out.next h6); have X0_6 := Lib.hid (X0_5.out.next h6); have X1_6 := Lib.hid (X1_5.out.next h6); have X2_6 := Lib.hid (X2_5.out.next h6); rw [HM1.out]; clear TB_5 BE_5 LX0_5 LX1_5 LX2_5 X0_5 X1_5 X2_5 h6; obtain ⟨x00, x01, x02, x03⟩ := X0_6.out.bx.c4; obtain ⟨x10, x11, x12, x13⟩ := X1_6.out.bx.c4; obtain ⟨x20, x21, x22, x23⟩ := X2_6.out.bx.c4))
              | (go_at_call 25; (refine (check_at LX2_6.out (by omega) b2 m2 k2).mono ?_; rintro e w7 ⟨rfl, h7⟩; have TB_7 := Lib.hid (TB_6.out.next h7); have BE_7 := Lib.hid (BE_6.out.next h7); have LX0_7 := Lib.hid (LX0_6.out.next h7); have LX1_7 := Lib.hid (LX1_6.out.next h7); have LX2_7 := Lib.hid (LX2_6.out.next h7); have X0_7 := Lib.hid (X0_6.out.next h7); have X1_7 := Lib.hid (X1_6.out.next h7); have X2_7 := Lib.hid (X2_6.out.next h7); rw [HM2.out]; clear TB_6 BE_6 LX0_6 LX1_6 LX2_6 X0_6 X1_6 X2_6 h7; obtain ⟨x00, x01, x02, x03⟩ := X0_7.out.bx.c4; obtain ⟨x10, x11, x12, x13⟩ := X1_7.out.bx.c4; obtain ⟨x20, x21, x22, x23⟩ := X2_7.out.bx.c4)))
            have HA : Hid (∀ W, Below w7.heap.size w7 W → Tab W ∧ LI W B0 p0' n0 l0 ∧ LI W B1 p1' n1 l1 ∧ BxT W (w.heap.size) #[.int .i64 b0, .int .i64 m0, .int .i64 k0, .slice B0 n0 p0'] 24 ∧ BxT W (w.heap.size + 1) #[.int .i64 b1, .int .i64 m1, .int .i64 k1, .slice B1 n1 p1'] 24 ∧ w7.heap.size ≤ W.heap.size) := Lib.hid fun W hW => ⟨TB_7.out.next hW, LX0_7.out.next hW, LX1_7.out.next hW, X0_7.out.next hW, X1_7.out.next hW, hW.size⟩
            refine Held.wp_region_invt 6 (AhdF w7.heap.size b0 m0 k0 b1 m1 k1 B0 B1 n0 n1 p0' p1' p1 p2) (by kernel_rfl) (by kernel_rfl) ?_ ?_ ?_
            · intro i v W W' h hb
              unfold AhdF at h ⊢
              split at h <;> first | exact h | exact JV.next h hb | exact AV.next h hb 
            · intro i o x W K hi ho hB hd hK
              have HX := Lib.hid (HA.out W hB)
              match i, ho with
              | 0, ho =>
                obtain rfl := Option.some.inj ho
                simp only [Inv.fill, Act.put, List.setIfInBounds_toArray, List.set_cons_zero, List.set_cons_succ, List.take_succ_cons, List.take_zero] at hK ⊢
                clear hd ho
                rw [wpOp]
                refine (if_pos rfl).mpr (.inl ?_)
                have hc := from_nil W
                go_simp
                refine hc.mono ?_
                rintro e w2 ⟨q, rfl, h1, h2, h3⟩
                exact hK _ _ h3 ⟨q, rfl, h1, h2⟩
              | 1, ho =>
                obtain rfl := Option.some.inj ho
                simp only [Inv.fill, Act.put, List.setIfInBounds_toArray, List.set_cons_zero, List.set_cons_succ, List.take_succ_cons, List.take_zero] at hK ⊢
                clear hd ho
                rw [wpOp]
                refine (if_pos rfl).mpr (.inl ?_)
                obtain ⟨k0', k1', k2', k3'⟩ := HX.out.2.2.2.1.bx.c4
                go_simp
                exact hK _ _ (Below.refl _ _) rfl
              | 2, ho =>
                obtain rfl := Option.some.inj ho
                obtain ⟨j0, e0, hi0, hb0⟩ := (hd ⟨0, .data⟩ (by simp) rfl : JV (x 0) W [] [] [] [])
                have e1 : x 1 = .agg #[.int .i64 b0, .int .i64 m0, .int .i64 k0, .slice B0 n0 p0'] := hd ⟨1, .data⟩ (by simp) rfl
                simp only [Inv.fill, Act.put, List.setIfInBounds_toArray, List.set_cons_zero, List.set_cons_succ, List.take_succ_cons, List.take_zero, e0, e1] at hK ⊢
                clear hd ho e0 e1
                rw [wpOp]
                refine (if_pos rfl).mpr (.inl ?_)
                have hc := HW1.out j0 W HX.out.1 hi0 hb0 HX.out.2.1
                go_simp
                refine hc.mono ?_
                rintro e w2 ⟨q, rfl, h1, h2, h3⟩
                exact hK _ _ h3 ⟨q, rfl, h1, h2⟩
              | 3, ho =>
                obtain rfl := Option.some.inj ho
                simp only [Inv.fill, Act.put, List.setIfInBounds_toArray, List.set_cons_zero, List.set_cons_succ, List.take_succ_cons, List.take_zero] at hK ⊢
                clear hd ho
                rw [wpOp]
                refine (if_pos rfl).mpr (.inl ?_)
                obtain ⟨k0', k1', k2', k3'⟩ := HX.out.2.2.2.2.1.bx.c4
                go_simp
                exact hK _ _ (Below.refl _ _) rfl
              | 4, ho =>
                obtain rfl := Option.some.inj ho
                obtain ⟨j2, e2, hi2, hb2⟩ := (hd ⟨2, .data⟩ (by simp) rfl : JV (x 2) W [] p1 [] [])
                have e3 : x 3 = .agg #[.int .i64 b1, .int .i64 m1, .int .i64 k1, .slice B1 n1 p1'] := hd ⟨3, .data⟩ (by simp) rfl
                simp only [Inv.fill, Act.put, List.setIfInBounds_toArray, List.set_cons_zero, List.set_cons_succ, List.take_succ_cons, List.take_zero, e2, e3] at hK ⊢
                clear hd ho e2 e3
                rw [wpOp]
                refine (if_pos rfl).mpr (.inl ?_)
                have hc := HW2.out j2 W HX.out.1 hi2 hb2 HX.out.2.2.1
                go_simp
                refine hc.mono ?_
                rintro e w2 ⟨q, rfl, h1, h2, h3⟩
                exact hK _ _ h3 ⟨q, rfl, h1, h2⟩
              | 5, ho =>
                obtain rfl := Option.some.inj ho
                simp only [Inv.fill, Act.put, List.setIfInBounds_toArray, List.set_cons_zero, List.set_cons_succ, List.take_succ_cons, List.take_zero] at hK ⊢
                clear hd ho
                rw [wpOp]
                refine (if_pos rfl).mpr (.inl ?_)
                go_simp
                exact hK _ _ below_box ⟨W.heap.size, rfl, BxT.new _ _ _, HX.out.2.2.2.2.2⟩
              | n + 6, ho => exact absurd hi (by omega)
            · intro x W hB hx
              obtain ⟨j4, e4, hi4, hb4⟩ := (hx 4 (by simp) : JV (x 4) W p2 p1 [] p1)
              obtain ⟨B, e5, hB5, hn5⟩ := (hx 5 (by simp) : AV (x 5) W w7.heap.size)
              simp only [Inv.fill, Act.put, List.setIfInBounds_toArray, List.set_cons_zero, List.set_cons_succ, List.take_succ_cons, List.take_zero, List.drop_succ_cons, List.drop_zero, e4, e5]
              clear hx e4 e5
              obtain ⟨⟨A10, c10, q10⟩, ⟨A11, c11, q11⟩, ⟨A12, c12, q12⟩, ⟨A13, c13, q13⟩⟩ := j4
              obtain ⟨k0', k1', k2', k3'⟩ := hB5.bx.c4
              obtain ⟨g0, g1, g2, g3⟩ := hB5.bx.f4
              have hW4 : Below w7.heap.size w7 ((((W.setCell ⟨B, 0, none⟩ (.slice A10 q10.length c10)).setCell ⟨B, 1, none⟩ (.slice A11 q11.length c11)).setCell ⟨B, 2, none⟩ (.slice A12 q12.length c12)).setCell ⟨B, 3, none⟩ (.slice A13 q13.length c13)) := below4 hB hn5 _ _ _ _
              have JA_0 : Hid (JB ((((W.setCell ⟨B, 0, none⟩ (.slice A10 q10.length c10)).setCell ⟨B, 1, none⟩ (.slice A11 q11.length c11)).setCell ⟨B, 2, none⟩ (.slice A12 q12.length c12)).setCell ⟨B, 3, none⟩ (.slice A13 q13.length c13)) B ⟨⟨A10, c10, q10⟩, ⟨A11, c11, q11⟩, ⟨A12, c12, q12⟩, ⟨A13, c13, q13⟩⟩) := Lib.hid ⟨set4 hB5, in4 hi4 hB5 (by decide) _ _ _ _⟩
              have HB4 := Lib.hid hb4
              obtain ⟨y0, y1, y2, y3⟩ := (X2_7.out.next hB).bx.c4
              have hlt := X2_7.out.bx.lt
              have nn1 : B ≠ w.heap.size + 1 + 1 := by omega
              have nn2 : w.heap.size + 1 + 1 ≠ B := by omega
              have TB_8 := Lib.hid (TB_7.out.next hW4)
              have BE_8 := Lib.hid (BE_7.out.next hW4)
              have LX0_8 := Lib.hid (LX0_7.out.next hW4)
              have LX1_8 := Lib.hid (LX1_7.out.next hW4)
              have LX2_8 := Lib.hid (LX2_7.out.next hW4)
              have X0_8 := Lib.hid (X0_7.out.next hW4)
              have X1_8 := Lib.hid (X1_7.out.next hW4)
              have X2_8 := Lib.hid (X2_7.out.next hW4)
              clear TB_7 BE_7 LX0_7 LX1_7 LX2_7 X0_7 X1_7 X2_7
              clear HA hb4 hi4 hB5 hn5 hW4 hB hlt x00 x01 x02 x03 x10 x11 x12 x13 x20 x21 x22 x23
              have HN1 : Hid (n1 ≤ 100) := Lib.hid (by omega)
              have HN2 : Hid (n2 ≤ 100) := Lib.hid (by omega)
              clear h80 h81 h82 hn100
              simp only [Jr.val, Jr.arr, RowV.val]
              change wpList _ _ _ _ _ _
              go_wp2_with (first
                | (go_at_call 23; (refine (HW3.out ⟨⟨A10, c10, q10⟩, ⟨A11, c11, q11⟩, ⟨A12, c12, q12⟩, ⟨A13, c13, q13⟩⟩ _ TB_8.out JA_0.out.in_ HB4.out LX2_8.out).mono ?_; rintro e w8 ⟨⟨⟨A30, c30, q30⟩, ⟨A31, c31, q31⟩, ⟨A32, c32, q32⟩, ⟨A33, c33, q33⟩⟩, rfl, hi8, hb8, h8⟩; have TB_9 := Lib.hid (TB_8.out.next h8); have BE_9 := Lib.hid (BE_8.out.next h8); have LX0_9 := Lib.hid (LX0_8.out.next h8); have LX1_9 := Lib.hid (LX1_8.out.next h8); have LX2_9 := Lib.hid (LX2_8.out.next h8); have X0_9 := Lib.hid (X0_8.out.next h8); have X1_9 := Lib.hid (X1_8.out.next h8); have X2_9 := Lib.hid (X2_8.out.next h8); have JA_1 := Lib.hid (JA_0.out.next h8); have J3_0 := Lib.hid hi8; have HB8 := Lib.hid hb8; clear hb8 hi8; simp only [Jr.val, Jr.arr, RowV.val]; clear TB_8 BE_8 LX0_8 LX1_8 LX2_8 X0_8 X1_8 X2_8 JA_0 h8; obtain ⟨x00, x01, x02, x03⟩ := X0_9.out.bx.c4; obtain ⟨x10, x11, x12, x13⟩ := X1_9.out.bx.c4; obtain ⟨x20, x21, x22, x23⟩ := X2_9.out.bx.c4; obtain ⟨d0, d1, d2, d3⟩ := JA_1.out.box.bx.c4; simp only [RowV.val] at d0 d1 d2 d3))
                | (go_at_call 21; (refine (HT.out ⟨⟨A30, c30, q30⟩, ⟨A31, c31, q31⟩, ⟨A32, c32, q32⟩, ⟨A33, c33, q33⟩⟩ _ J3_0.out HB8.out).mono ?_; rintro e w9 ⟨⟨⟨A50, c50, q50⟩, ⟨A51, c51, q51⟩, ⟨A52, c52, q52⟩, ⟨A53, c53, q53⟩⟩, rfl, hi9, hb9, h9⟩; have TB_10 := Lib.hid ((TB_9.out.next h9).next (below_box (o := .cells #[.slice A50 q50.length c50, .slice A51 q51.length c51, .slice A52 q52.length c52, .slice A53 q53.length c53] 45))); have BE_10 := Lib.hid ((BE_9.out.next h9).next (below_box (o := .cells #[.slice A50 q50.length c50, .slice A51 q51.length c51, .slice A52 q52.length c52, .slice A53 q53.length c53] 45))); have LX0_10 := Lib.hid ((LX0_9.out.next h9).next (below_box (o := .cells #[.slice A50 q50.length c50, .slice A51 q51.length c51, .slice A52 q52.length c52, .slice A53 q53.length c53] 45))); have LX1_10 := Lib.hid ((LX1_9.out.next h9).next (below_box (o := .cells #[.slice A50 q50.length c50, .slice A51 q51.length c51, .slice A52 q52.length c52, .slice A53 q53.length c53] 45))); have LX2_10 := Lib.hid ((LX2_9.out.next h9).next (below_box (o := .cells #[.slice A50 q50.length c50, .slice A51 q51.length c51, .slice A52 q52.length c52, .slice A53 q53.length c53] 45))); have X0_10 := Lib.hid ((X0_9.out.next h9).next (below_box (o := .cells #[.slice A50 q50.length c50, .slice A51 q51.length c51, .slice A52 q52.length c52, .slice A53 q53.length c53] 45))); have X1_10 := Lib.hid ((X1_9.out.next h9).next (below_box (o := .cells #[.slice A50 q50.length c50, .slice A51 q51.length c51, .slice A52 q52.length c52, .slice A53 q53.length c53] 45))); have X2_10 := Lib.hid ((X2_9.out.next h9).next (below_box (o := .cells #[.slice A50 q50.length c50, .slice A51 q51.length c51, .slice A52 q52.length c52, .slice A53 q53.length c53] 45))); have JA_2 := Lib.hid ((JA_1.out.next h9).next (below_box (o := .cells #[.slice A50 q50.length c50, .slice A51 q51.length c51, .slice A52 q52.length c52, .slice A53 q53.length c53] 45))); have J3_1 := Lib.hid ((J3_0.out.next h9).next (below_box (o := .cells #[.slice A50 q50.length c50, .slice A51 q51.length c51, .slice A52 q52.length c52, .slice A53 q53.length c53] 45))); have JT_0 := Lib.hid (JB.mk (BxT.new w9 #[.slice A50 q50.length c50, .slice A51 q51.length c51, .slice A52 q52.length c52, .slice A53 q53.length c53] 45) (hi9.next (below_box (o := .cells #[.slice A50 q50.length c50, .slice A51 q51.length c51, .slice A52 q52.length c52, .slice A53 q53.length c53] 45)))); have HB9 := Lib.hid hb9; clear hb9 hi9; simp only [Jr.val, Jr.arr, RowV.val]; clear TB_9 BE_9 LX0_9 LX1_9 LX2_9 X0_9 X1_9 X2_9 JA_1 J3_0 h9; obtain ⟨x00, x01, x02, x03⟩ := X0_10.out.bx.c4; obtain ⟨x10, x11, x12, x13⟩ := X1_10.out.bx.c4; obtain ⟨x20, x21, x22, x23⟩ := X2_10.out.bx.c4; obtain ⟨d0, d1, d2, d3⟩ := JA_2.out.box.bx.c4; simp only [RowV.val] at d0 d1 d2 d3; obtain ⟨t0, t1, t2, t3⟩ := JT_0.out.box.bx.c4; simp only [RowV.val] at t0 t1 t2 t3))
                | (go_at_call 18; (refine (HL.out ⟨⟨A50, c50, q50⟩, ⟨A51, c51, q51⟩, ⟨A52, c52, q52⟩, ⟨A53, c53, q53⟩⟩ _ TB_10.out JT_0.out.in_ HB9.out).mono ?_; rintro e w10 ⟨A60, c60, rfl, hl10, h10⟩; have TB_11 := Lib.hid ((TB_10.out.next h10).next (below_box (o := .cells #[.int .i64 bc, .int .i64 mc, .int .i64 0, .slice A60 nc c60] 24))); have BE_11 := Lib.hid ((BE_10.out.next h10).next (below_box (o := .cells #[.int .i64 bc, .int .i64 mc, .int .i64 0, .slice A60 nc c60] 24))); have LX0_11 := Lib.hid ((LX0_10.out.next h10).next (below_box (o := .cells #[.int .i64 bc, .int .i64 mc, .int .i64 0, .slice A60 nc c60] 24))); have LX1_11 := Lib.hid ((LX1_10.out.next h10).next (below_box (o := .cells #[.int .i64 bc, .int .i64 mc, .int .i64 0, .slice A60 nc c60] 24))); have LX2_11 := Lib.hid ((LX2_10.out.next h10).next (below_box (o := .cells #[.int .i64 bc, .int .i64 mc, .int .i64 0, .slice A60 nc c60] 24))); have X0_11 := Lib.hid ((X0_10.out.next h10).next (below_box (o := .cells #[.int .i64 bc, .int .i64 mc, .int .i64 0, .slice A60 nc c60] 24))); have X1_11 := Lib.hid ((X1_10.out.next h10).next (below_box (o := .cells #[.int .i64 bc, .int .i64 mc, .int .i64 0, .slice A60 nc c60] 24))); have X2_11 := Lib.hid ((X2_10.out.next h10).next (below_box (o := .cells #[.int .i64 bc, .int .i64 mc, .int .i64 0, .slice A60 nc c60] 24))); have JA_3 := Lib.hid ((JA_2.out.next h10).next (below_box (o := .cells #[.int .i64 bc, .int .i64 mc, .int .i64 0, .slice A60 nc c60] 24))); have J3_2 := Lib.hid ((J3_1.out.next h10).next (below_box (o := .cells #[.int .i64 bc, .int .i64 mc, .int .i64 0, .slice A60 nc c60] 24))); have JT_1 := Lib.hid ((JT_0.out.next h10).next (below_box (o := .cells #[.int .i64 bc, .int .i64 mc, .int .i64 0, .slice A60 nc c60] 24))); have MB_0 := Lib.hid (BxT.new w10 #[.int .i64 bc, .int .i64 mc, .int .i64 0, .slice A60 nc c60] 24); have LM_0 := Lib.hid (hl10.next (below_box (o := .cells #[.int .i64 bc, .int .i64 mc, .int .i64 0, .slice A60 nc c60] 24))); clear hl10; clear HL; clear TB_10 BE_10 LX0_10 LX1_10 LX2_10 X0_10 X1_10 X2_10 JA_2 J3_1 JT_0 h10; obtain ⟨x00, x01, x02, x03⟩ := X0_11.out.bx.c4; obtain ⟨x10, x11, x12, x13⟩ := X1_11.out.bx.c4; obtain ⟨x20, x21, x22, x23⟩ := X2_11.out.bx.c4; obtain ⟨d0, d1, d2, d3⟩ := JA_3.out.box.bx.c4; simp only [RowV.val] at d0 d1 d2 d3; obtain ⟨t0, t1, t2, t3⟩ := JT_1.out.box.bx.c4; simp only [RowV.val] at t0 t1 t2 t3; obtain ⟨r0, r1, r2, r3⟩ := MB_0.out.bx.c4))
                | (go_at_call 15; (refine (of_at LX1_11.out HN1.out b1 m1 k1).mono ?_; rintro e w11 ⟨A61, c61, rfl, hlw11, hw11⟩; have TB_12 := Lib.hid ((TB_11.out.next hw11).next (below_box (o := .cells #[.int .i64 b1, .int .i64 m1, .int .i64 0, .slice A61 n1 c61] 34))); have BE_12 := Lib.hid ((BE_11.out.next hw11).next (below_box (o := .cells #[.int .i64 b1, .int .i64 m1, .int .i64 0, .slice A61 n1 c61] 34))); have LX0_12 := Lib.hid ((LX0_11.out.next hw11).next (below_box (o := .cells #[.int .i64 b1, .int .i64 m1, .int .i64 0, .slice A61 n1 c61] 34))); have LX1_12 := Lib.hid ((LX1_11.out.next hw11).next (below_box (o := .cells #[.int .i64 b1, .int .i64 m1, .int .i64 0, .slice A61 n1 c61] 34))); have LX2_12 := Lib.hid ((LX2_11.out.next hw11).next (below_box (o := .cells #[.int .i64 b1, .int .i64 m1, .int .i64 0, .slice A61 n1 c61] 34))); have X0_12 := Lib.hid ((X0_11.out.next hw11).next (below_box (o := .cells #[.int .i64 b1, .int .i64 m1, .int .i64 0, .slice A61 n1 c61] 34))); have X1_12 := Lib.hid ((X1_11.out.next hw11).next (below_box (o := .cells #[.int .i64 b1, .int .i64 m1, .int .i64 0, .slice A61 n1 c61] 34))); have X2_12 := Lib.hid ((X2_11.out.next hw11).next (below_box (o := .cells #[.int .i64 b1, .int .i64 m1, .int .i64 0, .slice A61 n1 c61] 34))); have JA_4 := Lib.hid ((JA_3.out.next hw11).next (below_box (o := .cells #[.int .i64 b1, .int .i64 m1, .int .i64 0, .slice A61 n1 c61] 34))); have J3_3 := Lib.hid ((J3_2.out.next hw11).next (below_box (o := .cells #[.int .i64 b1, .int .i64 m1, .int .i64 0, .slice A61 n1 c61] 34))); have JT_2 := Lib.hid ((JT_1.out.next hw11).next (below_box (o := .cells #[.int .i64 b1, .int .i64 m1, .int .i64 0, .slice A61 n1 c61] 34))); have MB_1 := Lib.hid ((MB_0.out.next hw11).next (below_box (o := .cells #[.int .i64 b1, .int .i64 m1, .int .i64 0, .slice A61 n1 c61] 34))); have LM_1 := Lib.hid ((LM_0.out.next hw11).next (below_box (o := .cells #[.int .i64 b1, .int .i64 m1, .int .i64 0, .slice A61 n1 c61] 34))); have O1_0 := Lib.hid (BxT.new w11 #[.int .i64 b1, .int .i64 m1, .int .i64 0, .slice A61 n1 c61] 34); have LO1_0 := Lib.hid (hlw11.next (below_box (o := .cells #[.int .i64 b1, .int .i64 m1, .int .i64 0, .slice A61 n1 c61] 34))); clear hlw11; obtain ⟨mw110, mw111, mw112, mw113⟩ := (Bx.new w11 #[.int .i64 b1, .int .i64 m1, .int .i64 k1, .slice A61 n1 c61] 34).c4; obtain ⟨mw114, mw115, mw116, mw117⟩ := (Bx.new w11 #[.int .i64 b1, .int .i64 m1, .int .i64 k1, .slice A61 n1 c61] 34).f4; clear TB_11 BE_11 LX0_11 LX1_11 LX2_11 X0_11 X1_11 X2_11 JA_3 J3_2 JT_1 MB_0 LM_0 hw11; obtain ⟨x00, x01, x02, x03⟩ := X0_12.out.bx.c4; obtain ⟨x10, x11, x12, x13⟩ := X1_12.out.bx.c4; obtain ⟨x20, x21, x22, x23⟩ := X2_12.out.bx.c4; obtain ⟨d0, d1, d2, d3⟩ := JA_4.out.box.bx.c4; simp only [RowV.val] at d0 d1 d2 d3; obtain ⟨t0, t1, t2, t3⟩ := JT_2.out.box.bx.c4; simp only [RowV.val] at t0 t1 t2 t3; obtain ⟨r0, r1, r2, r3⟩ := MB_1.out.bx.c4; obtain ⟨o10, o11, o12, o13⟩ := O1_0.out.bx.c4))
                | (go_at_call 15; (refine (of_at LX2_12.out HN2.out b2 m2 k2).mono ?_; rintro e w12 ⟨A62, c62, rfl, hlw12, hw12⟩; have TB_13 := Lib.hid ((TB_12.out.next hw12).next (below_box (o := .cells #[.int .i64 b2, .int .i64 m2, .int .i64 0, .slice A62 n2 c62] 34))); have BE_13 := Lib.hid ((BE_12.out.next hw12).next (below_box (o := .cells #[.int .i64 b2, .int .i64 m2, .int .i64 0, .slice A62 n2 c62] 34))); have LX0_13 := Lib.hid ((LX0_12.out.next hw12).next (below_box (o := .cells #[.int .i64 b2, .int .i64 m2, .int .i64 0, .slice A62 n2 c62] 34))); have LX1_13 := Lib.hid ((LX1_12.out.next hw12).next (below_box (o := .cells #[.int .i64 b2, .int .i64 m2, .int .i64 0, .slice A62 n2 c62] 34))); have LX2_13 := Lib.hid ((LX2_12.out.next hw12).next (below_box (o := .cells #[.int .i64 b2, .int .i64 m2, .int .i64 0, .slice A62 n2 c62] 34))); have X0_13 := Lib.hid ((X0_12.out.next hw12).next (below_box (o := .cells #[.int .i64 b2, .int .i64 m2, .int .i64 0, .slice A62 n2 c62] 34))); have X1_13 := Lib.hid ((X1_12.out.next hw12).next (below_box (o := .cells #[.int .i64 b2, .int .i64 m2, .int .i64 0, .slice A62 n2 c62] 34))); have X2_13 := Lib.hid ((X2_12.out.next hw12).next (below_box (o := .cells #[.int .i64 b2, .int .i64 m2, .int .i64 0, .slice A62 n2 c62] 34))); have JA_5 := Lib.hid ((JA_4.out.next hw12).next (below_box (o := .cells #[.int .i64 b2, .int .i64 m2, .int .i64 0, .slice A62 n2 c62] 34))); have J3_4 := Lib.hid ((J3_3.out.next hw12).next (below_box (o := .cells #[.int .i64 b2, .int .i64 m2, .int .i64 0, .slice A62 n2 c62] 34))); have JT_3 := Lib.hid ((JT_2.out.next hw12).next (below_box (o := .cells #[.int .i64 b2, .int .i64 m2, .int .i64 0, .slice A62 n2 c62] 34))); have MB_2 := Lib.hid ((MB_1.out.next hw12).next (below_box (o := .cells #[.int .i64 b2, .int .i64 m2, .int .i64 0, .slice A62 n2 c62] 34))); have LM_2 := Lib.hid ((LM_1.out.next hw12).next (below_box (o := .cells #[.int .i64 b2, .int .i64 m2, .int .i64 0, .slice A62 n2 c62] 34))); have O1_1 := Lib.hid ((O1_0.out.next hw12).next (below_box (o := .cells #[.int .i64 b2, .int .i64 m2, .int .i64 0, .slice A62 n2 c62] 34))); have LO1_1 := Lib.hid ((LO1_0.out.next hw12).next (below_box (o := .cells #[.int .i64 b2, .int .i64 m2, .int .i64 0, .slice A62 n2 c62] 34))); have O2_0 := Lib.hid (BxT.new w12 #[.int .i64 b2, .int .i64 m2, .int .i64 0, .slice A62 n2 c62] 34); have LO2_0 := Lib.hid (hlw12.next (below_box (o := .cells #[.int .i64 b2, .int .i64 m2, .int .i64 0, .slice A62 n2 c62] 34))); clear hlw12; obtain ⟨mw120, mw121, mw122, mw123⟩ := (Bx.new w12 #[.int .i64 b2, .int .i64 m2, .int .i64 k2, .slice A62 n2 c62] 34).c4; obtain ⟨mw124, mw125, mw126, mw127⟩ := (Bx.new w12 #[.int .i64 b2, .int .i64 m2, .int .i64 k2, .slice A62 n2 c62] 34).f4; clear TB_12 BE_12 LX0_12 LX1_12 LX2_12 X0_12 X1_12 X2_12 JA_4 J3_3 JT_2 MB_1 LM_1 O1_0 LO1_0 hw12; obtain ⟨x00, x01, x02, x03⟩ := X0_13.out.bx.c4; obtain ⟨x10, x11, x12, x13⟩ := X1_13.out.bx.c4; obtain ⟨x20, x21, x22, x23⟩ := X2_13.out.bx.c4; obtain ⟨d0, d1, d2, d3⟩ := JA_5.out.box.bx.c4; simp only [RowV.val] at d0 d1 d2 d3; obtain ⟨t0, t1, t2, t3⟩ := JT_3.out.box.bx.c4; simp only [RowV.val] at t0 t1 t2 t3; obtain ⟨r0, r1, r2, r3⟩ := MB_2.out.bx.c4; obtain ⟨o10, o11, o12, o13⟩ := O1_1.out.bx.c4; obtain ⟨o20, o21, o22, o23⟩ := O2_0.out.bx.c4))
                | (go_at_call 20; (refine (slots_si p2 z p2 p1 ⟨⟨A50, c50, q50⟩, ⟨A51, c51, q51⟩, ⟨A52, c52, q52⟩, ⟨A53, c53, q53⟩⟩ JT_3.out.in_ HB9.out).mono ?_; rintro e w13 ⟨gs, cs, ⟨A63, c63, q63⟩, ⟨A64, c64, q64⟩, rfl, hs13, hb13, h13⟩; have TB_14 := Lib.hid (TB_13.out.next h13); have BE_14 := Lib.hid (BE_13.out.next h13); have LX0_14 := Lib.hid (LX0_13.out.next h13); have LX1_14 := Lib.hid (LX1_13.out.next h13); have LX2_14 := Lib.hid (LX2_13.out.next h13); have X0_14 := Lib.hid (X0_13.out.next h13); have X1_14 := Lib.hid (X1_13.out.next h13); have X2_14 := Lib.hid (X2_13.out.next h13); have JA_6 := Lib.hid (JA_5.out.next h13); have J3_5 := Lib.hid (J3_4.out.next h13); have JT_4 := Lib.hid (JT_3.out.next h13); have MB_3 := Lib.hid (MB_2.out.next h13); have LM_3 := Lib.hid (LM_2.out.next h13); have O1_2 := Lib.hid (O1_1.out.next h13); have LO1_2 := Lib.hid (LO1_1.out.next h13); have O2_1 := Lib.hid (O2_0.out.next h13); have LO2_1 := Lib.hid (LO2_0.out.next h13); have SS_0 := Lib.hid hs13; have HS13 := Lib.hid hb13; clear hb13 hs13; clear TB_13 BE_13 LX0_13 LX1_13 LX2_13 X0_13 X1_13 X2_13 JA_5 J3_4 JT_3 MB_2 LM_2 O1_1 LO1_1 O2_0 LO2_0 h13; obtain ⟨x00, x01, x02, x03⟩ := X0_14.out.bx.c4; obtain ⟨x10, x11, x12, x13⟩ := X1_14.out.bx.c4; obtain ⟨x20, x21, x22, x23⟩ := X2_14.out.bx.c4; obtain ⟨d0, d1, d2, d3⟩ := JA_6.out.box.bx.c4; simp only [RowV.val] at d0 d1 d2 d3; obtain ⟨t0, t1, t2, t3⟩ := JT_4.out.box.bx.c4; simp only [RowV.val] at t0 t1 t2 t3; obtain ⟨r0, r1, r2, r3⟩ := MB_3.out.bx.c4; obtain ⟨o10, o11, o12, o13⟩ := O1_2.out.bx.c4; obtain ⟨o20, o21, o22, o23⟩ := O2_1.out.bx.c4; obtain ⟨s0, s1⟩ := And.intro SS_0.out.h0 SS_0.out.h1; simp only [RowV.val] at s0 s1)))
              have HA : Hid (∀ W, Below w13.heap.size w13 W → (W.cell? ⟨w10.heap.size, 0, none⟩ = some (.int .i64 bc) ∧ W.cell? ⟨w10.heap.size, 1, none⟩ = some (.int .i64 mc) ∧ W.cell? ⟨w10.heap.size, 2, none⟩ = some (.int .i64 0) ∧ W.cell? ⟨w10.heap.size, 3, none⟩ = some (.slice A60 nc c60)) ∧ (W.cell? ⟨w12.heap.size, 0, none⟩ = some (.int .i64 b2) ∧ W.cell? ⟨w12.heap.size, 1, none⟩ = some (.int .i64 m2) ∧ W.cell? ⟨w12.heap.size, 2, none⟩ = some (.int .i64 0) ∧ W.cell? ⟨w12.heap.size, 3, none⟩ = some (.slice A62 n2 c62)) ∧ LI W A62 c62 n2 l2 ∧ SI W gs cs ⟨A63, c63, q63⟩ ⟨A64, c64, q64⟩ ∧ (W.cell? ⟨(w.heap.size + 1 + 1), 0, none⟩ = some (.int .i64 b2) ∧ W.cell? ⟨(w.heap.size + 1 + 1), 1, none⟩ = some (.int .i64 m2) ∧ W.cell? ⟨(w.heap.size + 1 + 1), 2, none⟩ = some (.int .i64 k2) ∧ W.cell? ⟨(w.heap.size + 1 + 1), 3, none⟩ = some (.slice B2 n2 p2')) ∧ Tab W ∧ LI W B2 p2' n2 l2 ∧ True) := Lib.hid fun W hW => ⟨(MB_3.out.next hW).bx.c4, (O2_1.out.next hW).bx.c4, LO2_1.out.next hW, SS_0.out.next hW, (X2_14.out.next hW).bx.c4, TB_14.out.next hW, LX2_14.out.next hW, trivial⟩
              have HZ : Hid (q64 = z) := Lib.hid HS13.out.2
              clear x00 x01 x02 x03 x10 x11 x12 x13 x20 x21 x22 x23 d0 d1 d2 d3 t0 t1 t2 t3 r0 r1 r2 r3 s0 s1 o10 o11 o12 o13 o20 o21 o22 o23 mw110 mw111 mw112 mw113 mw114 mw115 mw116 mw117 mw120 mw121 mw122 mw123 mw124 mw125 mw126 mw127
              refine Slot.wp_region_slots (AhdG2 (w.heap.size + 1 + 1) w10.heap.size w12.heap.size b2 m2 k2 n2 p2' l2 B2 A60 A62 A64 c60 c62 c64 gs cs q64 z p3) (by kernel_rfl) (by kernel_rfl) (by kernel_rfl) (by kernel_rfl) (fun k v W W' _ h hb => AhdG2_next (w.heap.size + 1 + 1) w10.heap.size w12.heap.size b2 m2 k2 n2 p2' l2 B2 A60 A62 A64 c60 c62 c64 gs cs q64 z p3 k v W W' h hb) ?_ ?_
              · intro i o x W K A ho hB hd sl hbs hK
                have HX := Lib.hid (HA.out W hB)
                match i, ho with
                | 0, ho =>
                  obtain rfl := Option.some.inj ho
                  refine Slot.op_go ho rfl ?_
                  exact Slot.wp_value (Slot.run_move rfl (Slot.eval_at ((hbs 16 (Slot.off_of (by kernel_rfl))).trans rfl))) (hK _ _ (Below.refl _ _) rfl)
                | 1, ho =>
                  obtain rfl := Option.some.inj ho
                  refine Slot.op_go ho rfl ?_
                  have e0 : x 0 = .int .u64 3 := hd ⟨0, .data⟩ (by simp) rfl
                  exact Slot.wp_value (AhdG2_r1 A.eval _ W (w.heap.size + 1 + 1) w10.heap.size w12.heap.size b2 m2 k2 n2 p2' l2 B2 A60 A62 A64 c60 c62 c64 gs cs q64 z p3  rfl (Slot.eval_at ((sl 0 _ 92 rfl rfl).trans (congrArg some e0))) rfl) (hK _ _ (Below.refl _ _) rfl)
                | 2, ho =>
                  obtain rfl := Option.some.inj ho
                  refine Slot.op_go ho rfl ?_
                  have e1 : x 1 = .bool false := hd ⟨1, .data⟩ (by simp) rfl
                  exact Slot.wp_value (Slot.run_move rfl (Slot.eval_at ((sl 1 _ 93 rfl rfl).trans (congrArg some e1)))) (hK _ _ (Below.refl _ _) rfl)
                | 3, ho =>
                  obtain rfl := Option.some.inj ho
                  have e2 : x 2 = .bool false := hd ⟨2, .guard⟩ (by simp) rfl
                  exact Slot.op_not ho rfl rfl rfl ((sl 2 _ 94 rfl rfl).trans (congrArg some e2)) (hK _ _ (Below.refl _ _) rfl)
                | 4, ho =>
                  obtain rfl := Option.some.inj ho
                  have e2 : x 2 = .bool false := hd ⟨2, .chain⟩ (by simp) rfl
                  exact Slot.op_not ho rfl rfl rfl ((sl 2 _ 94 rfl rfl).trans (congrArg some e2)) (hK _ _ (Below.refl _ _) rfl)
                | 5, ho =>
                  obtain rfl := Option.some.inj ho
                  have e2 : x 2 = .bool false := hd ⟨2, .guard⟩ (by simp) rfl
                  exact Slot.op_not ho rfl rfl rfl ((sl 2 _ 94 rfl rfl).trans (congrArg some e2)) (hK _ _ (Below.refl _ _) rfl)
                | 6, ho =>
                  obtain rfl := Option.some.inj ho
                  have e2 : x 2 = .bool false := hd ⟨2, .guard⟩ (by simp) rfl
                  exact Slot.op_not ho rfl rfl rfl ((sl 2 _ 94 rfl rfl).trans (congrArg some e2)) (hK _ _ (Below.refl _ _) rfl)
                | 7, ho =>
                  obtain rfl := Option.some.inj ho
                  have e2 : x 2 = .bool false := hd ⟨2, .guard⟩ (by simp) rfl
                  exact Slot.op_not ho rfl rfl rfl ((sl 2 _ 94 rfl rfl).trans (congrArg some e2)) (hK _ _ (Below.refl _ _) rfl)
                | 8, ho =>
                  obtain rfl := Option.some.inj ho
                  refine Slot.op_go ho rfl ?_
                  have e2 : x 2 = .bool false := hd ⟨2, .data⟩ (by simp) rfl
                  exact Slot.wp_value (Slot.run_pick rfl (Slot.eval_at ((sl 2 _ 94 rfl rfl).trans (congrArg some e2))) ((if_neg Bool.false_ne_true).trans rfl)) (hK _ _ (Below.refl _ _) rfl)
                | 9, ho =>
                  obtain rfl := Option.some.inj ho
                  refine Slot.op_go ho rfl ?_
                  have e8 : x 8 = .bool false := hd ⟨8, .data⟩ (by simp) rfl
                  exact Slot.wp_value (Slot.run_move rfl (Slot.eval_at ((sl 8 _ 100 rfl rfl).trans (congrArg some e8)))) (hK _ _ (Below.refl _ _) rfl)
                | 10, ho =>
                  obtain rfl := Option.some.inj ho
                  have e9 : x 9 = .bool false := hd ⟨9, .guard⟩ (by simp) rfl
                  refine Slot.op_if ho rfl rfl rfl ((sl 9 _ 101 rfl rfl).trans (congrArg some e9)) ?_
                  exact Slot.wp_value (Slot.run_move rfl (Slot.eval_at ((hbs 16 (Slot.off_of (by kernel_rfl))).trans rfl))) (hK _ _ (Below.refl _ _) rfl)
                | 11, ho =>
                  obtain rfl := Option.some.inj ho
                  have e9 : x 9 = .bool false := hd ⟨9, .guard⟩ (by simp) rfl
                  refine Slot.op_if ho rfl rfl rfl ((sl 9 _ 101 rfl rfl).trans (congrArg some e9)) ?_
                  have e10 : x 10 = .int .u64 3 := hd ⟨10, .data⟩ (by simp) rfl
                  exact Slot.wp_value (AhdG2_r11 A.eval _ W (w.heap.size + 1 + 1) w10.heap.size w12.heap.size b2 m2 k2 n2 p2' l2 B2 A60 A62 A64 c60 c62 c64 gs cs q64 z p3  rfl (Slot.eval_at ((sl 10 _ 102 rfl rfl).trans (congrArg some e10))) rfl) (hK _ _ (Below.refl _ _) rfl)
                | 12, ho =>
                  obtain rfl := Option.some.inj ho
                  have e9 : x 9 = .bool false := hd ⟨9, .chain⟩ (by simp) rfl
                  refine Slot.op_if ho rfl rfl rfl ((sl 9 _ 101 rfl rfl).trans (congrArg some e9)) ?_
                  have e11 : x 11 = .bool true := hd ⟨11, .data⟩ (by simp) rfl
                  exact Slot.wp_value (Slot.run_move rfl (Slot.eval_at ((sl 11 _ 103 rfl rfl).trans (congrArg some e11)))) (hK _ _ (Below.refl _ _) rfl)
                | 13, ho =>
                  obtain rfl := Option.some.inj ho
                  have e12 : x 12 = .bool true := hd ⟨12, .guard⟩ (by simp) rfl
                  refine Slot.op_if ho rfl rfl rfl ((sl 12 _ 104 rfl rfl).trans (congrArg some e12)) ?_
                  exact Slot.wp_value (Slot.run_move rfl (Slot.eval_at ((hbs 20 (Slot.off_of (by kernel_rfl))).trans rfl))) (hK _ _ (Below.refl _ _) rfl)
                | 14, ho =>
                  obtain rfl := Option.some.inj ho
                  have e12 : x 12 = .bool true := hd ⟨12, .guard⟩ (by simp) rfl
                  refine Slot.op_if ho rfl rfl rfl ((sl 12 _ 104 rfl rfl).trans (congrArg some e12)) ?_
                  have e13 : x 13 = .slice (some ⟨gs, 0, none⟩) 2 cs := hd ⟨13, .data⟩ (by simp) rfl
                  exact Slot.wp_value (AhdG2_r14 A.eval _ W (w.heap.size + 1 + 1) w10.heap.size w12.heap.size b2 m2 k2 n2 p2' l2 B2 A60 A62 A64 c60 c62 c64 gs cs q64 z p3  rfl (Slot.eval_at ((sl 13 _ 105 rfl rfl).trans (congrArg some e13))) rfl) (hK _ _ (Below.refl _ _) rfl)
                | 15, ho =>
                  obtain rfl := Option.some.inj ho
                  have e12 : x 12 = .bool true := hd ⟨12, .guard⟩ (by simp) rfl
                  refine Slot.op_if ho rfl rfl rfl ((sl 12 _ 104 rfl rfl).trans (congrArg some e12)) ?_
                  have e14 : x 14 = .pointer (some ⟨gs, 1, none⟩) := hd ⟨14, .data⟩ (by simp) rfl
                  exact Slot.wp_value (AhdG2_r15 A.eval _ W (w.heap.size + 1 + 1) w10.heap.size w12.heap.size b2 m2 k2 n2 p2' l2 B2 A60 A62 A64 c60 c62 c64 gs cs q64 z p3  rfl (Slot.eval_at ((sl 14 _ 106 rfl rfl).trans (congrArg some e14))) (HX.out.2.2.2.1.h1)) (hK _ _ (Below.refl _ _) rfl)
                | 16, ho =>
                  obtain rfl := Option.some.inj ho
                  have e12 : x 12 = .bool true := hd ⟨12, .guard⟩ (by simp) rfl
                  refine Slot.op_if ho rfl rfl rfl ((sl 12 _ 104 rfl rfl).trans (congrArg some e12)) ?_
                  have e15 : x 15 = .slice A64 q64.length c64 := hd ⟨15, .data⟩ (by simp) rfl
                  exact Slot.wp_value (Slot.run_convert rfl (Slot.eval_at ((sl 15 _ 107 rfl rfl).trans (congrArg some e15))) (conv_row0 HX.out.2.2.2.1.t1 HZ.out)) (hK _ _ (Below.refl _ _) rfl)
                | 17, ho =>
                  obtain rfl := Option.some.inj ho
                  have e12 : x 12 = .bool true := hd ⟨12, .guard⟩ (by simp) rfl
                  refine Slot.op_if ho rfl rfl rfl ((sl 12 _ 104 rfl rfl).trans (congrArg some e12)) ?_
                  exact Slot.wp_value (AhdG2_r17 A.eval _ W (w.heap.size + 1 + 1) w10.heap.size w12.heap.size b2 m2 k2 n2 p2' l2 B2 A60 A62 A64 c60 c62 c64 gs cs q64 z p3  rfl (Slot.eval_at ((hbs 6 (Slot.off_of (by kernel_rfl))).trans rfl)) (HX.out.2.2.2.2.1.1) (HX.out.2.2.2.2.1.2.1) (HX.out.2.2.2.2.1.2.2.1) (HX.out.2.2.2.2.1.2.2.2)) (hK _ _ (Below.refl _ _) rfl)
                | 18, ho =>
                  obtain rfl := Option.some.inj ho
                  have e12 : x 12 = .bool true := hd ⟨12, .chain⟩ (by simp) rfl
                  refine Slot.op_if ho rfl rfl rfl ((sl 12 _ 104 rfl rfl).trans (congrArg some e12)) ?_
                  have e17 : x 17 = .agg #[.int .i64 b2, .int .i64 m2, .int .i64 k2, .slice B2 n2 p2'] := hd ⟨17, .data⟩ (by simp) rfl
                  have s0 : A.eval (Operand.tmp 109) = .agg #[.int .i64 b2, .int .i64 m2, .int .i64 k2, .slice B2 n2 p2'] := (Slot.eval_at ((sl 17 _ 109 rfl rfl).trans (congrArg some e17)))
                  have s1 : A.eval (Operand.const (Value.int IntKind.u64 3)) = .int .u64 3 := rfl
                  have ha : (#[A.eval (Operand.tmp 109), A.eval (Operand.const (Value.int IntKind.u64 3))] : Array Value) = #[.agg #[.int .i64 b2, .int .i64 m2, .int .i64 k2, .slice B2 n2 p2'], .int .u64 3] := by rw [s0, s1]
                  refine Slot.wp_call (f := 13) (by kernel_rfl) ha (HP.out W HX.out.2.2.2.2.2.1 HX.out.2.2.2.2.2.2.1) ?_
                  rintro e w2 ⟨⟨A, c, q⟩, rfl, ⟨h1, h2⟩, h3⟩
                  have hG : PS (.slice A q.length c) w2 p3 := ⟨A, c, q, rfl, h1, h2⟩
                  exact ⟨_, rfl, hK _ _ h3 hG⟩
                | 19, ho =>
                  obtain rfl := Option.some.inj ho
                  have e12 : x 12 = .bool true := hd ⟨12, .guard⟩ (by simp) rfl
                  refine Slot.op_if ho rfl rfl rfl ((sl 12 _ 104 rfl rfl).trans (congrArg some e12)) ?_
                  obtain ⟨A90, c90, q90, e18, hr18, hq18⟩ := (hd ⟨18, .data⟩ (by simp) rfl : PS (x 18) W p3)
                  exact Slot.wp_value (Slot.run_convert rfl (Slot.eval_at ((sl 18 _ 110 rfl rfl).trans (congrArg some e18))) (conv_row0 hr18 hq18)) (hK _ _ (Below.refl _ _) rfl)
                | 20, ho =>
                  obtain rfl := Option.some.inj ho
                  have e12 : x 12 = .bool true := hd ⟨12, .guard⟩ (by simp) rfl
                  refine Slot.op_if ho rfl rfl rfl ((sl 12 _ 104 rfl rfl).trans (congrArg some e12)) ?_
                  have e16 : x 16 = .string (strOfNums z) := hd ⟨16, .data⟩ (by simp) rfl
                  have e19 : x 19 = .string (strOfNums p3) := hd ⟨19, .data⟩ (by simp) rfl
                  exact Slot.wp_value (AhdG2_r20 A.eval _ W (w.heap.size + 1 + 1) w10.heap.size w12.heap.size b2 m2 k2 n2 p2' l2 B2 A60 A62 A64 c60 c62 c64 gs cs q64 z p3  rfl (Slot.eval_at ((sl 16 _ 108 rfl rfl).trans (congrArg some e16))) (Slot.eval_at ((sl 19 _ 111 rfl rfl).trans (congrArg some e19))) (HZP.out)) (hK _ _ (Below.refl _ _) rfl)
                | 21, ho =>
                  obtain rfl := Option.some.inj ho
                  have e9 : x 9 = .bool false := hd ⟨9, .guard⟩ (by simp) rfl
                  refine Slot.op_if ho rfl rfl rfl ((sl 9 _ 101 rfl rfl).trans (congrArg some e9)) ?_
                  have e20 : x 20 = .bool false := hd ⟨20, .data⟩ (by simp) rfl
                  have e12 : x 12 = .bool true := hd ⟨12, .data⟩ (by simp) rfl
                  exact Slot.wp_value (Slot.run_pick rfl (Slot.eval_at ((sl 12 _ 104 rfl rfl).trans (congrArg some e12))) ((if_pos rfl).trans (Slot.eval_at ((sl 20 _ 112 rfl rfl).trans (congrArg some e20))))) (hK _ _ (Below.refl _ _) rfl)
                | 22, ho =>
                  obtain rfl := Option.some.inj ho
                  have e9 : x 9 = .bool false := hd ⟨9, .guard⟩ (by simp) rfl
                  refine Slot.op_if ho rfl rfl rfl ((sl 9 _ 101 rfl rfl).trans (congrArg some e9)) ?_
                  have e21 : x 21 = .bool false := hd ⟨21, .data⟩ (by simp) rfl
                  exact Slot.wp_value (Slot.run_move rfl (Slot.eval_at ((sl 21 _ 113 rfl rfl).trans (congrArg some e21)))) (hK _ _ (Below.refl _ _) rfl)
                | 23, ho =>
                  obtain rfl := Option.some.inj ho
                  have e22 : x 22 = .bool false := hd ⟨22, .guard⟩ (by simp) rfl
                  exact Slot.op_not ho rfl rfl rfl ((sl 22 _ 114 rfl rfl).trans (congrArg some e22)) (hK _ _ (Below.refl _ _) rfl)
                | 24, ho =>
                  obtain rfl := Option.some.inj ho
                  have e22 : x 22 = .bool false := hd ⟨22, .chain⟩ (by simp) rfl
                  exact Slot.op_not ho rfl rfl rfl ((sl 22 _ 114 rfl rfl).trans (congrArg some e22)) (hK _ _ (Below.refl _ _) rfl)
                | 25, ho =>
                  obtain rfl := Option.some.inj ho
                  have e22 : x 22 = .bool false := hd ⟨22, .guard⟩ (by simp) rfl
                  exact Slot.op_not ho rfl rfl rfl ((sl 22 _ 114 rfl rfl).trans (congrArg some e22)) (hK _ _ (Below.refl _ _) rfl)
                | 26, ho =>
                  obtain rfl := Option.some.inj ho
                  have e22 : x 22 = .bool false := hd ⟨22, .guard⟩ (by simp) rfl
                  exact Slot.op_not ho rfl rfl rfl ((sl 22 _ 114 rfl rfl).trans (congrArg some e22)) (hK _ _ (Below.refl _ _) rfl)
                | 27, ho =>
                  obtain rfl := Option.some.inj ho
                  have e22 : x 22 = .bool false := hd ⟨22, .guard⟩ (by simp) rfl
                  exact Slot.op_not ho rfl rfl rfl ((sl 22 _ 114 rfl rfl).trans (congrArg some e22)) (hK _ _ (Below.refl _ _) rfl)
                | 28, ho =>
                  obtain rfl := Option.some.inj ho
                  have e9 : x 9 = .bool false := hd ⟨9, .guard⟩ (by simp) rfl
                  refine Slot.op_if ho rfl rfl rfl ((sl 9 _ 101 rfl rfl).trans (congrArg some e9)) ?_
                  have e22 : x 22 = .bool false := hd ⟨22, .data⟩ (by simp) rfl
                  exact Slot.wp_value (Slot.run_pick rfl (Slot.eval_at ((sl 22 _ 114 rfl rfl).trans (congrArg some e22))) ((if_neg Bool.false_ne_true).trans rfl)) (hK _ _ (Below.refl _ _) rfl)
                | 29, ho =>
                  obtain rfl := Option.some.inj ho
                  refine Slot.op_go ho rfl ?_
                  have e28 : x 28 = .bool false := hd ⟨28, .data⟩ (by simp) rfl
                  have e9 : x 9 = .bool false := hd ⟨9, .data⟩ (by simp) rfl
                  exact Slot.wp_value (Slot.run_pick rfl (Slot.eval_at ((sl 9 _ 101 rfl rfl).trans (congrArg some e9))) ((if_neg Bool.false_ne_true).trans (Slot.eval_at ((sl 28 _ 120 rfl rfl).trans (congrArg some e28))))) (hK _ _ (Below.refl _ _) rfl)
                | n + 30, ho => simp at ho
              · intro x W hB hx
                have e29 : x 29 = .bool false := hx 29 (by simp)
                simp only [Inv.fill, Act.put, List.setIfInBounds_toArray, List.set_cons_zero, List.set_cons_succ, e29]
                clear hx e29
                have TB_15 := Lib.hid (TB_14.out.next hB)
                have BE_15 := Lib.hid (BE_14.out.next hB)
                have LX0_15 := Lib.hid (LX0_14.out.next hB)
                have LX1_15 := Lib.hid (LX1_14.out.next hB)
                have LX2_15 := Lib.hid (LX2_14.out.next hB)
                have X0_15 := Lib.hid (X0_14.out.next hB)
                have X1_15 := Lib.hid (X1_14.out.next hB)
                have X2_15 := Lib.hid (X2_14.out.next hB)
                have JA_7 := Lib.hid (JA_6.out.next hB)
                have J3_6 := Lib.hid (J3_5.out.next hB)
                have JT_5 := Lib.hid (JT_4.out.next hB)
                have MB_4 := Lib.hid (MB_3.out.next hB)
                have LM_4 := Lib.hid (LM_3.out.next hB)
                have O1_3 := Lib.hid (O1_2.out.next hB)
                have LO1_3 := Lib.hid (LO1_2.out.next hB)
                have O2_2 := Lib.hid (O2_1.out.next hB)
                have LO2_2 := Lib.hid (LO2_1.out.next hB)
                have SS_1 := Lib.hid (SS_0.out.next hB)
                clear TB_14 BE_14 LX0_14 LX1_14 LX2_14 X0_14 X1_14 X2_14 JA_6 J3_5 JT_4 MB_3 LM_3 O1_2 LO1_2 O2_1 LO2_1 SS_0
                obtain ⟨x00, x01, x02, x03⟩ := X0_15.out.bx.c4
                obtain ⟨x10, x11, x12, x13⟩ := X1_15.out.bx.c4
                obtain ⟨x20, x21, x22, x23⟩ := X2_15.out.bx.c4
                obtain ⟨d0, d1, d2, d3⟩ := JA_7.out.box.bx.c4
                simp only [RowV.val] at d0 d1 d2 d3
                obtain ⟨t0, t1, t2, t3⟩ := JT_5.out.box.bx.c4
                simp only [RowV.val] at t0 t1 t2 t3
                obtain ⟨r0, r1, r2, r3⟩ := MB_4.out.bx.c4
                obtain ⟨o10, o11, o12, o13⟩ := O1_3.out.bx.c4
                obtain ⟨o20, o21, o22, o23⟩ := O2_2.out.bx.c4
                obtain ⟨s0, s1⟩ := And.intro SS_1.out.h0 SS_1.out.h1
                simp only [RowV.val] at s0 s1
                go_wp2_with (first
                  | (go_at_call 23; (refine (HW4.out ⟨⟨A50, c50, q50⟩, ⟨A51, c51, q51⟩, ⟨A52, c52, q52⟩, ⟨A53, c53, q53⟩⟩ _ TB_15.out JT_5.out.in_ HB9.out LX0_15.out).mono ?_; rintro e w14 ⟨⟨⟨A70, c70, q70⟩, ⟨A71, c71, q71⟩, ⟨A72, c72, q72⟩, ⟨A73, c73, q73⟩⟩, rfl, hi14, hb14, h14⟩; have TB_16 := Lib.hid (TB_15.out.next h14); have BE_16 := Lib.hid (BE_15.out.next h14); have LX0_16 := Lib.hid (LX0_15.out.next h14); have LX1_16 := Lib.hid (LX1_15.out.next h14); have LX2_16 := Lib.hid (LX2_15.out.next h14); have X0_16 := Lib.hid (X0_15.out.next h14); have X1_16 := Lib.hid (X1_15.out.next h14); have X2_16 := Lib.hid (X2_15.out.next h14); have JA_8 := Lib.hid (JA_7.out.next h14); have J3_7 := Lib.hid (J3_6.out.next h14); have JT_6 := Lib.hid (JT_5.out.next h14); have MB_5 := Lib.hid (MB_4.out.next h14); have LM_5 := Lib.hid (LM_4.out.next h14); have O1_4 := Lib.hid (O1_3.out.next h14); have LO1_4 := Lib.hid (LO1_3.out.next h14); have O2_3 := Lib.hid (O2_2.out.next h14); have LO2_3 := Lib.hid (LO2_2.out.next h14); have SS_2 := Lib.hid (SS_1.out.next h14); have J7_0 := Lib.hid hi14; have HB14 := Lib.hid hb14; clear hb14 hi14; simp only [Jr.val, Jr.arr, RowV.val]; clear TB_15 BE_15 LX0_15 LX1_15 LX2_15 X0_15 X1_15 X2_15 JA_7 J3_6 JT_5 MB_4 LM_4 O1_3 LO1_3 O2_2 LO2_2 SS_1 h14; obtain ⟨x00, x01, x02, x03⟩ := X0_16.out.bx.c4; obtain ⟨x10, x11, x12, x13⟩ := X1_16.out.bx.c4; obtain ⟨x20, x21, x22, x23⟩ := X2_16.out.bx.c4; obtain ⟨d0, d1, d2, d3⟩ := JA_8.out.box.bx.c4; simp only [RowV.val] at d0 d1 d2 d3; obtain ⟨t0, t1, t2, t3⟩ := JT_6.out.box.bx.c4; simp only [RowV.val] at t0 t1 t2 t3; obtain ⟨r0, r1, r2, r3⟩ := MB_5.out.bx.c4; obtain ⟨o10, o11, o12, o13⟩ := O1_4.out.bx.c4; obtain ⟨o20, o21, o22, o23⟩ := O2_3.out.bx.c4; obtain ⟨s0, s1⟩ := And.intro SS_2.out.h0 SS_2.out.h1; simp only [RowV.val] at s0 s1))
                  | (go_at_call 18; (refine (HL4.out ⟨⟨A70, c70, q70⟩, ⟨A71, c71, q71⟩, ⟨A72, c72, q72⟩, ⟨A73, c73, q73⟩⟩ _ TB_16.out J7_0.out HB14.out).mono ?_; rintro e w15 ⟨A80, c80, rfl, hl15, h15⟩; have TB_17 := Lib.hid ((TB_16.out.next h15).next (below_box (o := .cells #[.int .i64 b0, .int .i64 m0, .int .i64 0, .slice A80 n0 c80] 24))); have BE_17 := Lib.hid ((BE_16.out.next h15).next (below_box (o := .cells #[.int .i64 b0, .int .i64 m0, .int .i64 0, .slice A80 n0 c80] 24))); have LX0_17 := Lib.hid ((LX0_16.out.next h15).next (below_box (o := .cells #[.int .i64 b0, .int .i64 m0, .int .i64 0, .slice A80 n0 c80] 24))); have LX1_17 := Lib.hid ((LX1_16.out.next h15).next (below_box (o := .cells #[.int .i64 b0, .int .i64 m0, .int .i64 0, .slice A80 n0 c80] 24))); have LX2_17 := Lib.hid ((LX2_16.out.next h15).next (below_box (o := .cells #[.int .i64 b0, .int .i64 m0, .int .i64 0, .slice A80 n0 c80] 24))); have X0_17 := Lib.hid ((X0_16.out.next h15).next (below_box (o := .cells #[.int .i64 b0, .int .i64 m0, .int .i64 0, .slice A80 n0 c80] 24))); have X1_17 := Lib.hid ((X1_16.out.next h15).next (below_box (o := .cells #[.int .i64 b0, .int .i64 m0, .int .i64 0, .slice A80 n0 c80] 24))); have X2_17 := Lib.hid ((X2_16.out.next h15).next (below_box (o := .cells #[.int .i64 b0, .int .i64 m0, .int .i64 0, .slice A80 n0 c80] 24))); have JA_9 := Lib.hid ((JA_8.out.next h15).next (below_box (o := .cells #[.int .i64 b0, .int .i64 m0, .int .i64 0, .slice A80 n0 c80] 24))); have J3_8 := Lib.hid ((J3_7.out.next h15).next (below_box (o := .cells #[.int .i64 b0, .int .i64 m0, .int .i64 0, .slice A80 n0 c80] 24))); have JT_7 := Lib.hid ((JT_6.out.next h15).next (below_box (o := .cells #[.int .i64 b0, .int .i64 m0, .int .i64 0, .slice A80 n0 c80] 24))); have MB_6 := Lib.hid ((MB_5.out.next h15).next (below_box (o := .cells #[.int .i64 b0, .int .i64 m0, .int .i64 0, .slice A80 n0 c80] 24))); have LM_6 := Lib.hid ((LM_5.out.next h15).next (below_box (o := .cells #[.int .i64 b0, .int .i64 m0, .int .i64 0, .slice A80 n0 c80] 24))); have O1_5 := Lib.hid ((O1_4.out.next h15).next (below_box (o := .cells #[.int .i64 b0, .int .i64 m0, .int .i64 0, .slice A80 n0 c80] 24))); have LO1_5 := Lib.hid ((LO1_4.out.next h15).next (below_box (o := .cells #[.int .i64 b0, .int .i64 m0, .int .i64 0, .slice A80 n0 c80] 24))); have O2_4 := Lib.hid ((O2_3.out.next h15).next (below_box (o := .cells #[.int .i64 b0, .int .i64 m0, .int .i64 0, .slice A80 n0 c80] 24))); have LO2_4 := Lib.hid ((LO2_3.out.next h15).next (below_box (o := .cells #[.int .i64 b0, .int .i64 m0, .int .i64 0, .slice A80 n0 c80] 24))); have SS_3 := Lib.hid ((SS_2.out.next h15).next (below_box (o := .cells #[.int .i64 b0, .int .i64 m0, .int .i64 0, .slice A80 n0 c80] 24))); have J7_1 := Lib.hid ((J7_0.out.next h15).next (below_box (o := .cells #[.int .i64 b0, .int .i64 m0, .int .i64 0, .slice A80 n0 c80] 24))); clear hl15; clear TB_16 BE_16 LX0_16 LX1_16 LX2_16 X0_16 X1_16 X2_16 JA_8 J3_7 JT_6 MB_5 LM_5 O1_4 LO1_4 O2_3 LO2_3 SS_2 J7_0 h15; obtain ⟨x00, x01, x02, x03⟩ := X0_17.out.bx.c4; obtain ⟨x10, x11, x12, x13⟩ := X1_17.out.bx.c4; obtain ⟨x20, x21, x22, x23⟩ := X2_17.out.bx.c4; obtain ⟨d0, d1, d2, d3⟩ := JA_9.out.box.bx.c4; simp only [RowV.val] at d0 d1 d2 d3; obtain ⟨t0, t1, t2, t3⟩ := JT_7.out.box.bx.c4; simp only [RowV.val] at t0 t1 t2 t3; obtain ⟨r0, r1, r2, r3⟩ := MB_6.out.bx.c4; obtain ⟨o10, o11, o12, o13⟩ := O1_5.out.bx.c4; obtain ⟨o20, o21, o22, o23⟩ := O2_4.out.bx.c4; obtain ⟨s0, s1⟩ := And.intro SS_3.out.h0 SS_3.out.h1; simp only [RowV.val] at s0 s1)))
                refine Slot.wp_region_slots (AhdH2 ) (by kernel_rfl) (by kernel_rfl) (by kernel_rfl) (by kernel_rfl) (fun k v W W' _ h hb => AhdH2_next  k v W W' h hb) ?_ ?_
                · intro i o x W K A ho hB hd sl hbs hK
                  match i, ho with
                  | 0, ho =>
                    obtain rfl := Option.some.inj ho
                    refine Slot.op_go ho rfl ?_
                    exact Slot.wp_value (Slot.run_move rfl (Slot.eval_at ((hbs 22 (Slot.off_of (by kernel_rfl))).trans rfl))) (hK _ _ (Below.refl _ _) rfl)
                  | 1, ho =>
                    obtain rfl := Option.some.inj ho
                    refine Slot.op_go ho rfl ?_
                    exact Slot.wp_value (Slot.run_move rfl (Slot.eval_at ((hbs 16 (Slot.off_of (by kernel_rfl))).trans rfl))) (hK _ _ (Below.refl _ _) rfl)
                  | 2, ho =>
                    obtain rfl := Option.some.inj ho
                    refine Slot.op_go ho rfl ?_
                    have e1 : x 1 = .int .u64 3 := hd ⟨1, .data⟩ (by simp) rfl
                    exact Slot.wp_value (AhdH2_r2 A.eval _ W   rfl (Slot.eval_at ((sl 1 _ 131 rfl rfl).trans (congrArg some e1))) rfl) (hK _ _ (Below.refl _ _) rfl)
                  | 3, ho =>
                    obtain rfl := Option.some.inj ho
                    refine Slot.op_go ho rfl ?_
                    have e0 : x 0 = .int .u64 4 := hd ⟨0, .data⟩ (by simp) rfl
                    have e2 : x 2 = .int .u64 4 := hd ⟨2, .data⟩ (by simp) rfl
                    exact Slot.wp_value (AhdH2_r3 A.eval _ W   rfl (Slot.eval_at ((sl 0 _ 130 rfl rfl).trans (congrArg some e0))) (Slot.eval_at ((sl 2 _ 132 rfl rfl).trans (congrArg some e2)))) (hK _ _ (Below.refl _ _) rfl)
                  | 4, ho =>
                    obtain rfl := Option.some.inj ho
                    refine Slot.op_go ho rfl ?_
                    have e3 : x 3 = .bool true := hd ⟨3, .data⟩ (by simp) rfl
                    exact Slot.wp_value (Slot.run_move rfl (Slot.eval_at ((sl 3 _ 133 rfl rfl).trans (congrArg some e3)))) (hK _ _ (Below.refl _ _) rfl)
                  | 5, ho =>
                    obtain rfl := Option.some.inj ho
                    have e4 : x 4 = .bool true := hd ⟨4, .guard⟩ (by simp) rfl
                    exact Slot.op_not ho rfl rfl rfl ((sl 4 _ 134 rfl rfl).trans (congrArg some e4)) (hK _ _ (Below.refl _ _) rfl)
                  | 6, ho =>
                    obtain rfl := Option.some.inj ho
                    have e4 : x 4 = .bool true := hd ⟨4, .guard⟩ (by simp) rfl
                    exact Slot.op_not ho rfl rfl rfl ((sl 4 _ 134 rfl rfl).trans (congrArg some e4)) (hK _ _ (Below.refl _ _) rfl)
                  | 7, ho =>
                    obtain rfl := Option.some.inj ho
                    have e4 : x 4 = .bool true := hd ⟨4, .chain⟩ (by simp) rfl
                    exact Slot.op_not ho rfl rfl rfl ((sl 4 _ 134 rfl rfl).trans (congrArg some e4)) (hK _ _ (Below.refl _ _) rfl)
                  | 8, ho =>
                    obtain rfl := Option.some.inj ho
                    have e7 : x 7 = undef := hd ⟨7, .guard⟩ (by simp) rfl
                    exact Slot.op_none ho rfl rfl rfl ((sl 7 _ 137 rfl rfl).trans (congrArg some e7)) (hK _ _ (Below.refl _ _) rfl)
                  | 9, ho =>
                    obtain rfl := Option.some.inj ho
                    have e7 : x 7 = undef := hd ⟨7, .guard⟩ (by simp) rfl
                    exact Slot.op_none ho rfl rfl rfl ((sl 7 _ 137 rfl rfl).trans (congrArg some e7)) (hK _ _ (Below.refl _ _) rfl)
                  | 10, ho =>
                    obtain rfl := Option.some.inj ho
                    have e7 : x 7 = undef := hd ⟨7, .guard⟩ (by simp) rfl
                    exact Slot.op_none ho rfl rfl rfl ((sl 7 _ 137 rfl rfl).trans (congrArg some e7)) (hK _ _ (Below.refl _ _) rfl)
                  | 11, ho =>
                    obtain rfl := Option.some.inj ho
                    have e7 : x 7 = undef := hd ⟨7, .guard⟩ (by simp) rfl
                    exact Slot.op_none ho rfl rfl rfl ((sl 7 _ 137 rfl rfl).trans (congrArg some e7)) (hK _ _ (Below.refl _ _) rfl)
                  | 12, ho =>
                    obtain rfl := Option.some.inj ho
                    have e7 : x 7 = undef := hd ⟨7, .guard⟩ (by simp) rfl
                    exact Slot.op_none ho rfl rfl rfl ((sl 7 _ 137 rfl rfl).trans (congrArg some e7)) (hK _ _ (Below.refl _ _) rfl)
                  | 13, ho =>
                    obtain rfl := Option.some.inj ho
                    have e7 : x 7 = undef := hd ⟨7, .chain⟩ (by simp) rfl
                    exact Slot.op_none ho rfl rfl rfl ((sl 7 _ 137 rfl rfl).trans (congrArg some e7)) (hK _ _ (Below.refl _ _) rfl)
                  | 14, ho =>
                    obtain rfl := Option.some.inj ho
                    have e7 : x 7 = undef := hd ⟨7, .guard⟩ (by simp) rfl
                    exact Slot.op_none ho rfl rfl rfl ((sl 7 _ 137 rfl rfl).trans (congrArg some e7)) (hK _ _ (Below.refl _ _) rfl)
                  | 15, ho =>
                    obtain rfl := Option.some.inj ho
                    have e7 : x 7 = undef := hd ⟨7, .guard⟩ (by simp) rfl
                    exact Slot.op_none ho rfl rfl rfl ((sl 7 _ 137 rfl rfl).trans (congrArg some e7)) (hK _ _ (Below.refl _ _) rfl)
                  | 16, ho =>
                    obtain rfl := Option.some.inj ho
                    have e4 : x 4 = .bool true := hd ⟨4, .guard⟩ (by simp) rfl
                    exact Slot.op_not ho rfl rfl rfl ((sl 4 _ 134 rfl rfl).trans (congrArg some e4)) (hK _ _ (Below.refl _ _) rfl)
                  | 17, ho =>
                    obtain rfl := Option.some.inj ho
                    refine Slot.op_go ho rfl ?_
                    have e4 : x 4 = .bool true := hd ⟨4, .data⟩ (by simp) rfl
                    exact Slot.wp_value (Slot.run_pick rfl (Slot.eval_at ((sl 4 _ 134 rfl rfl).trans (congrArg some e4))) ((if_pos rfl).trans rfl)) (hK _ _ (Below.refl _ _) rfl)
                  | 18, ho =>
                    obtain rfl := Option.some.inj ho
                    refine Slot.op_go ho rfl ?_
                    have e17 : x 17 = .bool true := hd ⟨17, .data⟩ (by simp) rfl
                    exact Slot.wp_value (Slot.run_assign rfl (Slot.eval_at ((sl 17 _ 147 rfl rfl).trans (congrArg some e17)))) (hK _ _ (Below.refl _ _) rfl)
                  | n + 19, ho => simp at ho
                · intro x W hB hx
                  have e18 : x 18 = .bool true := hx 18 (by simp)
                  simp only [Inv.fill, Act.put, List.setIfInBounds_toArray, List.set_cons_zero, List.set_cons_succ, e18]
                  clear hx e18
                  go_wp2
                  go_ret
                  exact ⟨rfl, (BE_17.out.next hB).bel⟩
      · have f2 : decide (n2 ≤ 80) = false := decide_eq_false h82
        go_enter Tryd.func6, Tryd.ntmps6
        go_wp2_with (first
          | (go_at_call 9; (refine (awake_any _ TB_0.out).mono ?_; rintro e w1 ⟨rfl, h1⟩; have TB_1 := Lib.hid (TB_0.out.next h1); have BE_1 := Lib.hid (BE_0.out.next h1); have LX0_1 := Lib.hid (LX0_0.out.next h1); have LX1_1 := Lib.hid (LX1_0.out.next h1); have LX2_1 := Lib.hid (LX2_0.out.next h1); have X0_1 := Lib.hid (X0_0.out.next h1); have X1_1 := Lib.hid (X1_0.out.next h1); have X2_1 := Lib.hid (X2_0.out.next h1); clear TB_0 BE_0 LX0_0 LX1_0 LX2_0 X0_0 X1_0 X2_0 h1; obtain ⟨x00, x01, x02, x03⟩ := X0_1.out.bx.c4; obtain ⟨x10, x11, x12, x13⟩ := X1_1.out.bx.c4; obtain ⟨x20, x21, x22, x23⟩ := X2_1.out.bx.c4))
          | (go_at_call 10; (refine (few_at LX0_1.out b0 m0 k0).mono ?_; rintro e w2 ⟨rfl, h2⟩; have TB_2 := Lib.hid (TB_1.out.next h2); have BE_2 := Lib.hid (BE_1.out.next h2); have LX0_2 := Lib.hid (LX0_1.out.next h2); have LX1_2 := Lib.hid (LX1_1.out.next h2); have LX2_2 := Lib.hid (LX2_1.out.next h2); have X0_2 := Lib.hid (X0_1.out.next h2); have X1_2 := Lib.hid (X1_1.out.next h2); have X2_2 := Lib.hid (X2_1.out.next h2); rw [f0]; clear TB_1 BE_1 LX0_1 LX1_1 LX2_1 X0_1 X1_1 X2_1 h2; obtain ⟨x00, x01, x02, x03⟩ := X0_2.out.bx.c4; obtain ⟨x10, x11, x12, x13⟩ := X1_2.out.bx.c4; obtain ⟨x20, x21, x22, x23⟩ := X2_2.out.bx.c4))
          | (go_at_call 10; (refine (few_at LX1_2.out b1 m1 k1).mono ?_; rintro e w3 ⟨rfl, h3⟩; have TB_3 := Lib.hid (TB_2.out.next h3); have BE_3 := Lib.hid (BE_2.out.next h3); have LX0_3 := Lib.hid (LX0_2.out.next h3); have LX1_3 := Lib.hid (LX1_2.out.next h3); have LX2_3 := Lib.hid (LX2_2.out.next h3); have X0_3 := Lib.hid (X0_2.out.next h3); have X1_3 := Lib.hid (X1_2.out.next h3); have X2_3 := Lib.hid (X2_2.out.next h3); rw [f1]; clear TB_2 BE_2 LX0_2 LX1_2 LX2_2 X0_2 X1_2 X2_2 h3; obtain ⟨x00, x01, x02, x03⟩ := X0_3.out.bx.c4; obtain ⟨x10, x11, x12, x13⟩ := X1_3.out.bx.c4; obtain ⟨x20, x21, x22, x23⟩ := X2_3.out.bx.c4))
          | (go_at_call 10; (refine (few_at LX2_3.out b2 m2 k2).mono ?_; rintro e w4 ⟨rfl, h4⟩; have TB_4 := Lib.hid (TB_3.out.next h4); have BE_4 := Lib.hid (BE_3.out.next h4); have LX0_4 := Lib.hid (LX0_3.out.next h4); have LX1_4 := Lib.hid (LX1_3.out.next h4); have LX2_4 := Lib.hid (LX2_3.out.next h4); have X0_4 := Lib.hid (X0_3.out.next h4); have X1_4 := Lib.hid (X1_3.out.next h4); have X2_4 := Lib.hid (X2_3.out.next h4); rw [f2]; clear TB_3 BE_3 LX0_3 LX1_3 LX2_3 X0_3 X1_3 X2_3 h4; obtain ⟨x00, x01, x02, x03⟩ := X0_4.out.bx.c4; obtain ⟨x10, x11, x12, x13⟩ := X1_4.out.bx.c4; obtain ⟨x20, x21, x22, x23⟩ := X2_4.out.bx.c4)))
        go_ret
        exact ⟨rfl, BE_4.out.bel⟩
    · have f1 : decide (n1 ≤ 80) = false := decide_eq_false h81
      go_enter Tryd.func6, Tryd.ntmps6
      go_wp2_with (first
        | (go_at_call 9; (refine (awake_any _ TB_0.out).mono ?_; rintro e w1 ⟨rfl, h1⟩; have TB_1 := Lib.hid (TB_0.out.next h1); have BE_1 := Lib.hid (BE_0.out.next h1); have LX0_1 := Lib.hid (LX0_0.out.next h1); have LX1_1 := Lib.hid (LX1_0.out.next h1); have LX2_1 := Lib.hid (LX2_0.out.next h1); have X0_1 := Lib.hid (X0_0.out.next h1); have X1_1 := Lib.hid (X1_0.out.next h1); have X2_1 := Lib.hid (X2_0.out.next h1); clear TB_0 BE_0 LX0_0 LX1_0 LX2_0 X0_0 X1_0 X2_0 h1; obtain ⟨x00, x01, x02, x03⟩ := X0_1.out.bx.c4; obtain ⟨x10, x11, x12, x13⟩ := X1_1.out.bx.c4; obtain ⟨x20, x21, x22, x23⟩ := X2_1.out.bx.c4))
        | (go_at_call 10; (refine (few_at LX0_1.out b0 m0 k0).mono ?_; rintro e w2 ⟨rfl, h2⟩; have TB_2 := Lib.hid (TB_1.out.next h2); have BE_2 := Lib.hid (BE_1.out.next h2); have LX0_2 := Lib.hid (LX0_1.out.next h2); have LX1_2 := Lib.hid (LX1_1.out.next h2); have LX2_2 := Lib.hid (LX2_1.out.next h2); have X0_2 := Lib.hid (X0_1.out.next h2); have X1_2 := Lib.hid (X1_1.out.next h2); have X2_2 := Lib.hid (X2_1.out.next h2); rw [f0]; clear TB_1 BE_1 LX0_1 LX1_1 LX2_1 X0_1 X1_1 X2_1 h2; obtain ⟨x00, x01, x02, x03⟩ := X0_2.out.bx.c4; obtain ⟨x10, x11, x12, x13⟩ := X1_2.out.bx.c4; obtain ⟨x20, x21, x22, x23⟩ := X2_2.out.bx.c4))
        | (go_at_call 10; (refine (few_at LX1_2.out b1 m1 k1).mono ?_; rintro e w3 ⟨rfl, h3⟩; have TB_3 := Lib.hid (TB_2.out.next h3); have BE_3 := Lib.hid (BE_2.out.next h3); have LX0_3 := Lib.hid (LX0_2.out.next h3); have LX1_3 := Lib.hid (LX1_2.out.next h3); have LX2_3 := Lib.hid (LX2_2.out.next h3); have X0_3 := Lib.hid (X0_2.out.next h3); have X1_3 := Lib.hid (X1_2.out.next h3); have X2_3 := Lib.hid (X2_2.out.next h3); rw [f1]; clear TB_2 BE_2 LX0_2 LX1_2 LX2_2 X0_2 X1_2 X2_2 h3; obtain ⟨x00, x01, x02, x03⟩ := X0_3.out.bx.c4; obtain ⟨x10, x11, x12, x13⟩ := X1_3.out.bx.c4; obtain ⟨x20, x21, x22, x23⟩ := X2_3.out.bx.c4))
        | (go_at_call 10; (refine (few_at LX2_3.out b2 m2 k2).mono ?_; rintro e w4 ⟨rfl, h4⟩; have TB_4 := Lib.hid (TB_3.out.next h4); have BE_4 := Lib.hid (BE_3.out.next h4); have LX0_4 := Lib.hid (LX0_3.out.next h4); have LX1_4 := Lib.hid (LX1_3.out.next h4); have LX2_4 := Lib.hid (LX2_3.out.next h4); have X0_4 := Lib.hid (X0_3.out.next h4); have X1_4 := Lib.hid (X1_3.out.next h4); have X2_4 := Lib.hid (X2_3.out.next h4); clear TB_3 BE_3 LX0_3 LX1_3 LX2_3 X0_3 X1_3 X2_3 h4; obtain ⟨x00, x01, x02, x03⟩ := X0_4.out.bx.c4; obtain ⟨x10, x11, x12, x13⟩ := X1_4.out.bx.c4; obtain ⟨x20, x21, x22, x23⟩ := X2_4.out.bx.c4)))
      go_ret
      exact ⟨rfl, BE_4.out.bel⟩
  · have f0 : decide (n0 ≤ 80) = false := decide_eq_false h80
    go_enter Tryd.func6, Tryd.ntmps6
    go_wp2_with (first
      | (go_at_call 9; (refine (awake_any _ TB_0.out).mono ?_; rintro e w1 ⟨rfl, h1⟩; have TB_1 := Lib.hid (TB_0.out.next h1); have BE_1 := Lib.hid (BE_0.out.next h1); have LX0_1 := Lib.hid (LX0_0.out.next h1); have LX1_1 := Lib.hid (LX1_0.out.next h1); have LX2_1 := Lib.hid (LX2_0.out.next h1); have X0_1 := Lib.hid (X0_0.out.next h1); have X1_1 := Lib.hid (X1_0.out.next h1); have X2_1 := Lib.hid (X2_0.out.next h1); clear TB_0 BE_0 LX0_0 LX1_0 LX2_0 X0_0 X1_0 X2_0 h1; obtain ⟨x00, x01, x02, x03⟩ := X0_1.out.bx.c4; obtain ⟨x10, x11, x12, x13⟩ := X1_1.out.bx.c4; obtain ⟨x20, x21, x22, x23⟩ := X2_1.out.bx.c4))
      | (go_at_call 10; (refine (few_at LX0_1.out b0 m0 k0).mono ?_; rintro e w2 ⟨rfl, h2⟩; have TB_2 := Lib.hid (TB_1.out.next h2); have BE_2 := Lib.hid (BE_1.out.next h2); have LX0_2 := Lib.hid (LX0_1.out.next h2); have LX1_2 := Lib.hid (LX1_1.out.next h2); have LX2_2 := Lib.hid (LX2_1.out.next h2); have X0_2 := Lib.hid (X0_1.out.next h2); have X1_2 := Lib.hid (X1_1.out.next h2); have X2_2 := Lib.hid (X2_1.out.next h2); rw [f0]; clear TB_1 BE_1 LX0_1 LX1_1 LX2_1 X0_1 X1_1 X2_1 h2; obtain ⟨x00, x01, x02, x03⟩ := X0_2.out.bx.c4; obtain ⟨x10, x11, x12, x13⟩ := X1_2.out.bx.c4; obtain ⟨x20, x21, x22, x23⟩ := X2_2.out.bx.c4))
      | (go_at_call 10; (refine (few_at LX1_2.out b1 m1 k1).mono ?_; rintro e w3 ⟨rfl, h3⟩; have TB_3 := Lib.hid (TB_2.out.next h3); have BE_3 := Lib.hid (BE_2.out.next h3); have LX0_3 := Lib.hid (LX0_2.out.next h3); have LX1_3 := Lib.hid (LX1_2.out.next h3); have LX2_3 := Lib.hid (LX2_2.out.next h3); have X0_3 := Lib.hid (X0_2.out.next h3); have X1_3 := Lib.hid (X1_2.out.next h3); have X2_3 := Lib.hid (X2_2.out.next h3); clear TB_2 BE_2 LX0_2 LX1_2 LX2_2 X0_2 X1_2 X2_2 h3; obtain ⟨x00, x01, x02, x03⟩ := X0_3.out.bx.c4; obtain ⟨x10, x11, x12, x13⟩ := X1_3.out.bx.c4; obtain ⟨x20, x21, x22, x23⟩ := X2_3.out.bx.c4))
      | (go_at_call 10; (refine (few_at LX2_3.out b2 m2 k2).mono ?_; rintro e w4 ⟨rfl, h4⟩; have TB_4 := Lib.hid (TB_3.out.next h4); have BE_4 := Lib.hid (BE_3.out.next h4); have LX0_4 := Lib.hid (LX0_3.out.next h4); have LX1_4 := Lib.hid (LX1_3.out.next h4); have LX2_4 := Lib.hid (LX2_3.out.next h4); have X0_4 := Lib.hid (X0_3.out.next h4); have X1_4 := Lib.hid (X1_3.out.next h4); have X2_4 := Lib.hid (X2_3.out.next h4); clear TB_3 BE_3 LX0_3 LX1_3 LX2_3 X0_3 X1_3 X2_3 h4; obtain ⟨x00, x01, x02, x03⟩ := X0_4.out.bx.c4; obtain ⟨x10, x11, x12, x13⟩ := X1_4.out.bx.c4; obtain ⟨x20, x21, x22, x23⟩ := X2_4.out.bx.c4)))
    go_ret
    exact ⟨rfl, BE_4.out.bel⟩

end Go.Proofs.YtgbgbodhpahceaaDoor.Walk
