/- The walk of JournalTurns. -/
import Derived.Test.YtgbgbodhpahceaaDoorJrnX
import Derived.Test.YtgbgbodhpahceaaDoorSlotT
import Derived.Test.YtgbgbodhpahceaaDoorLgrK
import Derived.OpenShut
import Derived.LoopN
namespace Go.Proofs.YtgbgbodhpahceaaDoor.Walk
open Go.RowKit Go.ChangeShapes Go.Proofs.YtgbgbodhpahceaaDoor.Plain Go.Proofs.YtgbgbodhpahceaaDoor.Sees Go.Proofs.YtgbgbodhpahceaaDoor.Oct Go.Proofs.YtgbgbodhpahceaaDoor.Crc Go.Proofs.YtgbgbodhpahceaaDoor.Box Go.Proofs.YtgbgbodhpahceaaDoor.Held Go.Proofs.YtgbgbodhpahceaaDoor.JrnP Go.Proofs.YtgbgbodhpahceaaDoor.Open Go.Proofs.YtgbgbodhpahceaaDoor.LgrP Go.Proofs.YtgbgbodhpahceaaDoor.Jrn
set_option linter.unusedVariables false
set_option linter.unusedSimpArgs false
set_option maxRecDepth 100000

/-- four cells in a row -/
structure C4 (W : World) (b o : Nat) (v0 v1 v2 v3 : Value) : Prop where
  lt : b < W.heap.size
  h0 : W.cell? ⟨b, o, none⟩ = some v0
  h1 : W.cell? ⟨b, o + 1, none⟩ = some v1
  h2 : W.cell? ⟨b, o + 2, none⟩ = some v2
  h3 : W.cell? ⟨b, o + 3, none⟩ = some v3
theorem C4.next {W W' : World} {b o : Nat} {v0 v1 v2 v3 : Value} (h : C4 W b o v0 v1 v2 v3) (hb : Below W.heap.size W W') : C4 W' b o v0 v1 v2 v3 :=
  ⟨Nat.lt_of_lt_of_le h.lt hb.size, (hb.cell (p := ⟨b, o, none⟩) h.lt).trans h.h0, (hb.cell (p := ⟨b, o + 1, none⟩) h.lt).trans h.h1, (hb.cell (p := ⟨b, o + 2, none⟩) h.lt).trans h.h2, (hb.cell (p := ⟨b, o + 3, none⟩) h.lt).trans h.h3⟩
theorem lg_row4 {W : World} {a : Option Addr} {l : List Lg} (h : Sees W W.heap.size a (l.map lgc).flatten) (i : Nat) (x : Lg) (hx : l[i]? = some x) :
    ∃ b o, a = some ⟨b, o, none⟩ ∧ C4 W b (o + i * 4) (.int .i64 x.b) (.int .i64 x.m) (.int .i64 x.k) (.slice x.A x.l.length x.cap) := by
  have hall : ∀ r ∈ l.map lgc, r.length = 4 := fun r hr => by
    obtain ⟨p, _, rfl⟩ := List.mem_map.1 hr; rfl
  have hi : ∀ k, k < 4 → (l.map lgc).flatten[i * 4 + k]? = (lgc x)[k]? := fun k hk => by
    rw [flat_at (by omega) _ hall, show (i * 4 + k) / 4 = i by omega, show (i * 4 + k) % 4 = k by omega, List.getElem?_map, hx]
    rfl
  rcases h with h | ⟨b, o, ha, hb, hc⟩
  · have := hi 0 (by omega)
    rw [h] at this; simp [lgc] at this
  · exact ⟨b, o, ha, hb, hc _ _ (hi 0 (by omega)), hc _ _ (hi 1 (by omega)), hc _ _ (hi 2 (by omega)), hc _ _ (hi 3 (by omega))⟩
/-- what lies at the beginning of a turn -/
structure TJ (w W : World) (B : Nat) (j : Jr) (z0 z1 : List Int) (i : Nat) : Prop where
  bel : Below w.heap.size w W
  jb : JB W B j
  e0 : j.n0.bs = z0
  e1 : j.n1.bs = z1
  y0 : By z0
  y1 : By z1
  ld : (JrnP.load z0 z1).s = (i : Int)
/-- a write, by turns -/
theorem turn {z0 z1 : List Int} (h0 : By z0) (h1 : By z1) {i : Nat} (hs : (JrnP.load z0 z1).s = (i : Int)) (hi : i ≤ 20) {b m : Int} {l : List Pm} (hm : may b m l = true) (hl : l.length ≤ 8000) {s : Int} (hsq : (i : Int) + 1 = s) :
    (s % 2 = 0 → wr0 z0 z1 b m l = put b m l s ∧ wr1 z0 z1 b m l = z1) ∧ (s % 2 = 1 → wr0 z0 z1 b m l = z0 ∧ wr1 z0 z1 b m l = put b m l s) ∧ JrnP.load (wr0 z0 z1 b m l) (wr1 z0 z1 b m l) = ⟨0, b, m, l, s⟩ := by
  have hn : nxt z0 z1 = s := by rw [nxt_eq h0 h1 (by omega), hs, hsq]
  refine ⟨?_, ?_, ?_⟩
  · unfold wr0 wr1
    rw [hn]
    exact fun h => ⟨if_pos h, if_pos h⟩
  · unfold wr0 wr1
    rw [hn]
    exact fun h => ⟨if_neg (by omega), if_neg (by omega)⟩
  · have := wr_load h0 h1 (by omega) hm (b := b) (m := m) (l := l) hl
    rwa [hs, hsq] at this

def TrnF0 (bk2 b1 p1 i len cap n : Nat) (b m k : Int) (A A0 A1 A2 A3 : Option Addr) (c c0 c1 c2 c3 : Nat) (q0 q1 q2 q3 z0 z1 pq : List Int) : Nat → Value → World → Prop := Slot.row [
fun vv _ => vv = .agg #[.slice A0 q0.length c0, .slice A1 q1.length c1, .slice A2 q2.length c2, .slice A3 q3.length c3],
  fun vv _ => vv = .slice (some ⟨b1, p1, none⟩) len cap,
  fun vv _ => vv = .int .i64 ↑i,
  fun vv _ => vv = .pointer (some ⟨b1, p1 + i * 4, none⟩),
  fun vv _ => vv = .agg #[.int .i64 b, .int .i64 m, .int .i64 k, .slice A n c],
  fun vv w' => JV vv w' pq z1 z0 z1]
theorem TrnF0_next (bk2 b1 p1 i len cap n : Nat) (b m k : Int) (A A0 A1 A2 A3 : Option Addr) (c c0 c1 c2 c3 : Nat) (q0 q1 q2 q3 z0 z1 pq : List Int) : ∀ kk vv W W', TrnF0 bk2 b1 p1 i len cap n b m k A A0 A1 A2 A3 c c0 c1 c2 c3 q0 q1 q2 q3 z0 z1 pq kk vv W → Below W.heap.size W W' → TrnF0 bk2 b1 p1 i len cap n b m k A A0 A1 A2 A3 c c0 c1 c2 c3 q0 q1 q2 q3 z0 z1 pq kk vv W' := Slot.row_next ⟨fun _ _ _ h hb => h, fun _ _ _ h hb => h, fun _ _ _ h hb => h, fun _ _ _ h hb => h, fun _ _ _ h hb => h, fun _ _ _ h hb => JV.next h hb, trivial⟩
theorem TrnF0_r0 (ρ : Operand → Value) (o : Oper) (W : World) (bk2 b1 p1 i len cap n : Nat) (b m k : Int) (A A0 A1 A2 A3 : Option Addr) (c c0 c1 c2 c3 : Nat) (q0 q1 q2 q3 z0 z1 pq : List Int)  (ho : o.op = Op.load 45 (Operand.tmp 4)) (h0 : ρ (Operand.tmp 4) = .pointer (some ⟨bk2, 0, none⟩)) (g0 : W.cell? ⟨bk2, 0, none⟩ = some (.slice A0 q0.length c0)) (g1 : W.cell? ⟨bk2, 1, none⟩ = some (.slice A1 q1.length c1)) (g2 : W.cell? ⟨bk2, 2, none⟩ = some (.slice A2 q2.length c2)) (g3 : W.cell? ⟨bk2, 3, none⟩ = some (.slice A3 q3.length c3)) : (execOp ρ o).run Tryd.prog W = .ok (.value (.agg #[.slice A0 q0.length c0, .slice A1 q1.length c1, .slice A2 q2.length c2, .slice A3 q3.length c3])) W := by
  unfold execOp
  rw [ho]
  go_simp
theorem TrnF0_r3 (ρ : Operand → Value) (o : Oper) (W : World) (bk2 b1 p1 i len cap n : Nat) (b m k : Int) (A A0 A1 A2 A3 : Option Addr) (c c0 c1 c2 c3 : Nat) (q0 q1 q2 q3 z0 z1 pq : List Int)  (ho : o.op = Op.indexAddr 64 (Operand.tmp 45) (Operand.tmp 46)) (h0 : ρ (Operand.tmp 45) = .slice (some ⟨b1, p1, none⟩) len cap) (h1 : ρ (Operand.tmp 46) = .int .i64 ↑i) (i1 : (i : Int) < (len : Int)) : (execOp ρ o).run Tryd.prog W = .ok (.value (.pointer (some ⟨b1, p1 + i * 4, none⟩))) W := by
  unfold execOp
  rw [ho]
  go_simp
theorem TrnF0_r4 (ρ : Operand → Value) (o : Oper) (W : World) (bk2 b1 p1 i len cap n : Nat) (b m k : Int) (A A0 A1 A2 A3 : Option Addr) (c c0 c1 c2 c3 : Nat) (q0 q1 q2 q3 z0 z1 pq : List Int)  (ho : o.op = Op.load 24 (Operand.tmp 47)) (h0 : ρ (Operand.tmp 47) = .pointer (some ⟨b1, p1 + i * 4, none⟩)) (g0 : W.cell? ⟨b1, p1 + i * 4, none⟩ = some (.int .i64 b)) (g1 : W.cell? ⟨b1, p1 + i * 4 + 1, none⟩ = some (.int .i64 m)) (g2 : W.cell? ⟨b1, p1 + i * 4 + 2, none⟩ = some (.int .i64 k)) (g3 : W.cell? ⟨b1, p1 + i * 4 + 3, none⟩ = some (.slice A n c)) : (execOp ρ o).run Tryd.prog W = .ok (.value (.agg #[.int .i64 b, .int .i64 m, .int .i64 k, .slice A n c])) W := by
  unfold execOp
  rw [ho]
  go_simp
def TrnG0 (bk7 bk8 gs cs gn cn i n : Nat) (b m sq : Int) (l : List Pm) (A30 A31 : Option Addr) (c30 c31 : Nat) : Nat → Value → World → Prop := Slot.row [
fun vv _ => vv = .bool true,
  fun vv _ => vv = .bool false,
  fun vv _ => vv = .bool false,
  fun vv _ => vv = .int .u64 sq,
  fun vv _ => vv = .int .i64 ↑i,
  fun vv _ => vv = .int .u64 ↑i,
  fun vv _ => vv = .int .u64 sq,
  fun vv _ => vv = .bool false,
  fun vv _ => vv = .bool false,
  fun vv _ => vv = .bool false,
  fun vv _ => vv = .agg #[.int .i64 b, .int .i64 m, .int .i64 0, .slice A30 n c30],
  fun vv w' => GV vv w' b m 0 n l,
  fun vv _ => vv = .agg #[.int .i64 b, .int .i64 m, .int .i64 0, .slice A31 n c31],
  fun vv _ => vv = .bool true,
  fun vv _ => vv = .bool false,
  fun vv _ => vv = .bool false,
  fun vv _ => vv = .bool false,
  fun vv _ => vv = .slice (some ⟨gs, 0, none⟩) 2 cs,
  fun vv _ => vv = .int .i64 2,
  fun vv _ => vv = .bool false,
  fun vv _ => vv = .bool false,
  fun vv _ => vv = .bool false,
  fun vv _ => vv = .slice (some ⟨gn, 0, none⟩) 2 cn,
  fun vv _ => vv = .int .i64 2,
  fun vv _ => vv = .bool false,
  fun vv _ => vv = .bool false]
theorem TrnG0_next (bk7 bk8 gs cs gn cn i n : Nat) (b m sq : Int) (l : List Pm) (A30 A31 : Option Addr) (c30 c31 : Nat) : ∀ kk vv W W', TrnG0 bk7 bk8 gs cs gn cn i n b m sq l A30 A31 c30 c31 kk vv W → Below W.heap.size W W' → TrnG0 bk7 bk8 gs cs gn cn i n b m sq l A30 A31 c30 c31 kk vv W' := Slot.row_next ⟨fun _ _ _ h hb => h, fun _ _ _ h hb => h, fun _ _ _ h hb => h, fun _ _ _ h hb => h, fun _ _ _ h hb => h, fun _ _ _ h hb => h, fun _ _ _ h hb => h, fun _ _ _ h hb => h, fun _ _ _ h hb => h, fun _ _ _ h hb => h, fun _ _ _ h hb => h, fun _ _ _ h hb => GV.next h hb, fun _ _ _ h hb => h, fun _ _ _ h hb => h, fun _ _ _ h hb => h, fun _ _ _ h hb => h, fun _ _ _ h hb => h, fun _ _ _ h hb => h, fun _ _ _ h hb => h, fun _ _ _ h hb => h, fun _ _ _ h hb => h, fun _ _ _ h hb => h, fun _ _ _ h hb => h, fun _ _ _ h hb => h, fun _ _ _ h hb => h, fun _ _ _ h hb => h, trivial⟩
theorem TrnG0_r1 (ρ : Operand → Value) (o : Oper) (W : World) (bk7 bk8 gs cs gn cn i n : Nat) (b m sq : Int) (l : List Pm) (A30 A31 : Option Addr) (c30 c31 : Nat)  (ho : o.op = Op.unOp UnOp.not 4 (Operand.tmp 64)) (h0 : ρ (Operand.tmp 64) = .bool true) : (execOp ρ o).run Tryd.prog W = .ok (.value (.bool false)) W := by
  unfold execOp
  rw [ho]
  go_simp
theorem TrnG0_r5 (ρ : Operand → Value) (o : Oper) (W : World) (bk7 bk8 gs cs gn cn i n : Nat) (b m sq : Int) (l : List Pm) (A30 A31 : Option Addr) (c30 c31 : Nat)  (ho : o.op = Op.convert 3 25 (Operand.tmp 68)) (h0 : ρ (Operand.tmp 68) = .int .i64 ↑i) (u1 : IntKind.u64.wrap (i : Int) = (i : Int)) : (execOp ρ o).run Tryd.prog W = .ok (.value (.int .u64 ↑i)) W := by
  unfold execOp
  rw [ho]
  go_simp
theorem TrnG0_r6 (ρ : Operand → Value) (o : Oper) (W : World) (bk7 bk8 gs cs gn cn i n : Nat) (b m sq : Int) (l : List Pm) (A30 A31 : Option Addr) (c30 c31 : Nat)  (ho : o.op = Op.binOp BinOp.add 25 (Operand.tmp 69) (Operand.const (Value.int IntKind.u64 1)) 25) (h0 : ρ (Operand.tmp 69) = .int .u64 ↑i) (h1 : ρ (Operand.const (Value.int IntKind.u64 1)) = .int .u64 1) (u2 : IntKind.u64.wrap ((i : Int) + 1) = sq) : (execOp ρ o).run Tryd.prog W = .ok (.value (.int .u64 sq)) W := by
  unfold execOp
  rw [ho]
  go_simp
theorem TrnG0_r7 (ρ : Operand → Value) (o : Oper) (W : World) (bk7 bk8 gs cs gn cn i n : Nat) (b m sq : Int) (l : List Pm) (A30 A31 : Option Addr) (c30 c31 : Nat)  (ho : o.op = Op.binOp BinOp.neq 25 (Operand.tmp 67) (Operand.tmp 70) 25) (h0 : ρ (Operand.tmp 67) = .int .u64 sq) (h1 : ρ (Operand.tmp 70) = .int .u64 sq) : (execOp ρ o).run Tryd.prog W = .ok (.value (.bool false)) W := by
  unfold execOp
  rw [ho]
  go_simp
theorem TrnG0_r10 (ρ : Operand → Value) (o : Oper) (W : World) (bk7 bk8 gs cs gn cn i n : Nat) (b m sq : Int) (l : List Pm) (A30 A31 : Option Addr) (c30 c31 : Nat)  (ho : o.op = Op.load 24 (Operand.tmp 9)) (h0 : ρ (Operand.tmp 9) = .pointer (some ⟨bk7, 0, none⟩)) (g0 : W.cell? ⟨bk7, 0, none⟩ = some (.int .i64 b)) (g1 : W.cell? ⟨bk7, 1, none⟩ = some (.int .i64 m)) (g2 : W.cell? ⟨bk7, 2, none⟩ = some (.int .i64 0)) (g3 : W.cell? ⟨bk7, 3, none⟩ = some (.slice A30 n c30)) : (execOp ρ o).run Tryd.prog W = .ok (.value (.agg #[.int .i64 b, .int .i64 m, .int .i64 0, .slice A30 n c30])) W := by
  unfold execOp
  rw [ho]
  go_simp
theorem TrnG0_r12 (ρ : Operand → Value) (o : Oper) (W : World) (bk7 bk8 gs cs gn cn i n : Nat) (b m sq : Int) (l : List Pm) (A30 A31 : Option Addr) (c30 c31 : Nat)  (ho : o.op = Op.load 34 (Operand.tmp 12)) (h0 : ρ (Operand.tmp 12) = .pointer (some ⟨bk8, 0, none⟩)) (g0 : W.cell? ⟨bk8, 0, none⟩ = some (.int .i64 b)) (g1 : W.cell? ⟨bk8, 1, none⟩ = some (.int .i64 m)) (g2 : W.cell? ⟨bk8, 2, none⟩ = some (.int .i64 0)) (g3 : W.cell? ⟨bk8, 3, none⟩ = some (.slice A31 n c31)) : (execOp ρ o).run Tryd.prog W = .ok (.value (.agg #[.int .i64 b, .int .i64 m, .int .i64 0, .slice A31 n c31])) W := by
  unfold execOp
  rw [ho]
  go_simp
theorem TrnG0_r14 (ρ : Operand → Value) (o : Oper) (W : World) (bk7 bk8 gs cs gn cn i n : Nat) (b m sq : Int) (l : List Pm) (A30 A31 : Option Addr) (c30 c31 : Nat)  (ho : o.op = Op.unOp UnOp.not 4 (Operand.tmp 77)) (h0 : ρ (Operand.tmp 77) = .bool true) : (execOp ρ o).run Tryd.prog W = .ok (.value (.bool false)) W := by
  unfold execOp
  rw [ho]
  go_simp
theorem TrnG0_r18 (ρ : Operand → Value) (o : Oper) (W : World) (bk7 bk8 gs cs gn cn i n : Nat) (b m sq : Int) (l : List Pm) (A30 A31 : Option Addr) (c30 c31 : Nat)  (ho : o.op = Op.call { callee := Callee.builtin Builtin.len, args := #[Operand.tmp 81], argTypes := #[53] }) (h0 : ρ (Operand.tmp 81) = .slice (some ⟨gs, 0, none⟩) 2 cs) : (execOp ρ o).run Tryd.prog W = .ok (.value (.int .i64 2)) W := by
  unfold execOp
  rw [ho]
  go_simp
theorem TrnG0_r19 (ρ : Operand → Value) (o : Oper) (W : World) (bk7 bk8 gs cs gn cn i n : Nat) (b m sq : Int) (l : List Pm) (A30 A31 : Option Addr) (c30 c31 : Nat)  (ho : o.op = Op.binOp BinOp.neq 3 (Operand.tmp 82) (Operand.const (Value.int IntKind.i64 2)) 3) (h0 : ρ (Operand.tmp 82) = .int .i64 2) (h1 : ρ (Operand.const (Value.int IntKind.i64 2)) = .int .i64 2) : (execOp ρ o).run Tryd.prog W = .ok (.value (.bool false)) W := by
  unfold execOp
  rw [ho]
  go_simp
theorem TrnG0_r23 (ρ : Operand → Value) (o : Oper) (W : World) (bk7 bk8 gs cs gn cn i n : Nat) (b m sq : Int) (l : List Pm) (A30 A31 : Option Addr) (c30 c31 : Nat)  (ho : o.op = Op.call { callee := Callee.builtin Builtin.len, args := #[Operand.tmp 86], argTypes := #[53] }) (h0 : ρ (Operand.tmp 86) = .slice (some ⟨gn, 0, none⟩) 2 cn) : (execOp ρ o).run Tryd.prog W = .ok (.value (.int .i64 2)) W := by
  unfold execOp
  rw [ho]
  go_simp
theorem TrnG0_r24 (ρ : Operand → Value) (o : Oper) (W : World) (bk7 bk8 gs cs gn cn i n : Nat) (b m sq : Int) (l : List Pm) (A30 A31 : Option Addr) (c30 c31 : Nat)  (ho : o.op = Op.binOp BinOp.neq 3 (Operand.tmp 87) (Operand.const (Value.int IntKind.i64 2)) 3) (h0 : ρ (Operand.tmp 87) = .int .i64 2) (h1 : ρ (Operand.const (Value.int IntKind.i64 2)) = .int .i64 2) : (execOp ρ o).run Tryd.prog W = .ok (.value (.bool false)) W := by
  unfold execOp
  rw [ho]
  go_simp
def TrnH0 (b1 p1 i len cap n gs cs gn cn : Nat) (b m k sq : Int) (A A63 A64 A65 A66 : Option Addr) (c c63 c64 c65 c66 : Nat) (q63 q64 q65 q66 z0 z1 pq : List Int) : Nat → Value → World → Prop := Slot.row [
fun vv _ => vv = .slice (some ⟨gn, 0, none⟩) 2 cn,
  fun vv _ => vv = .int .i64 0,
  fun vv _ => vv = .int .i64 1,
  fun vv _ => vv = .pointer (some ⟨gn, 1, none⟩),
  fun vv _ => vv = .slice A66 q66.length c66,
  fun vv _ => vv = .string (strOfNums z1),
  fun vv _ => vv = .slice (some ⟨gs, 0, none⟩) 2 cs,
  fun vv _ => vv = .int .i64 0,
  fun vv _ => vv = .int .i64 1,
  fun vv _ => vv = .pointer (some ⟨gs, 1, none⟩),
  fun vv _ => vv = .slice A64 q64.length c64,
  fun vv _ => vv = .string (strOfNums z1),
  fun vv _ => vv = .bool false,
  fun vv _ => vv = .bool false,
  fun vv _ => vv = .slice (some ⟨gn, 0, none⟩) 2 cn,
  fun vv _ => vv = .int .i64 0,
  fun vv _ => vv = .pointer (some ⟨gn, 0, none⟩),
  fun vv _ => vv = .slice A65 q65.length c65,
  fun vv _ => vv = .string (strOfNums pq),
  fun vv _ => vv = .slice (some ⟨b1, p1, none⟩) len cap,
  fun vv _ => vv = .int .i64 ↑i,
  fun vv _ => vv = .pointer (some ⟨b1, p1 + i * 4, none⟩),
  fun vv _ => vv = .agg #[.int .i64 b, .int .i64 m, .int .i64 k, .slice A n c],
  fun vv _ => vv = .int .u64 sq,
  fun vv w' => PS vv w' pq,
  fun vv _ => vv = .string (strOfNums pq),
  fun vv _ => vv = .bool false,
  fun vv _ => vv = .bool false]
theorem TrnH0_next (b1 p1 i len cap n gs cs gn cn : Nat) (b m k sq : Int) (A A63 A64 A65 A66 : Option Addr) (c c63 c64 c65 c66 : Nat) (q63 q64 q65 q66 z0 z1 pq : List Int) : ∀ kk vv W W', TrnH0 b1 p1 i len cap n gs cs gn cn b m k sq A A63 A64 A65 A66 c c63 c64 c65 c66 q63 q64 q65 q66 z0 z1 pq kk vv W → Below W.heap.size W W' → TrnH0 b1 p1 i len cap n gs cs gn cn b m k sq A A63 A64 A65 A66 c c63 c64 c65 c66 q63 q64 q65 q66 z0 z1 pq kk vv W' := Slot.row_next ⟨fun _ _ _ h hb => h, fun _ _ _ h hb => h, fun _ _ _ h hb => h, fun _ _ _ h hb => h, fun _ _ _ h hb => h, fun _ _ _ h hb => h, fun _ _ _ h hb => h, fun _ _ _ h hb => h, fun _ _ _ h hb => h, fun _ _ _ h hb => h, fun _ _ _ h hb => h, fun _ _ _ h hb => h, fun _ _ _ h hb => h, fun _ _ _ h hb => h, fun _ _ _ h hb => h, fun _ _ _ h hb => h, fun _ _ _ h hb => h, fun _ _ _ h hb => h, fun _ _ _ h hb => h, fun _ _ _ h hb => h, fun _ _ _ h hb => h, fun _ _ _ h hb => h, fun _ _ _ h hb => h, fun _ _ _ h hb => h, fun _ _ _ h hb => PS.next h hb, fun _ _ _ h hb => h, fun _ _ _ h hb => h, fun _ _ _ h hb => h, trivial⟩
theorem TrnH0_r2 (ρ : Operand → Value) (o : Oper) (W : World) (b1 p1 i len cap n gs cs gn cn : Nat) (b m k sq : Int) (A A63 A64 A65 A66 : Option Addr) (c c63 c64 c65 c66 : Nat) (q63 q64 q65 q66 z0 z1 pq : List Int)  (ho : o.op = Op.binOp BinOp.sub 3 (Operand.const (Value.int IntKind.i64 1)) (Operand.tmp 94) 3) (h0 : ρ (Operand.const (Value.int IntKind.i64 1)) = .int .i64 1) (h1 : ρ (Operand.tmp 94) = .int .i64 0) : (execOp ρ o).run Tryd.prog W = .ok (.value (.int .i64 1)) W := by
  unfold execOp
  rw [ho]
  go_simp
  first | rfl | decide
theorem TrnH0_r3 (ρ : Operand → Value) (o : Oper) (W : World) (b1 p1 i len cap n gs cs gn cn : Nat) (b m k sq : Int) (A A63 A64 A65 A66 : Option Addr) (c c63 c64 c65 c66 : Nat) (q63 q64 q65 q66 z0 z1 pq : List Int)  (ho : o.op = Op.indexAddr 53 (Operand.tmp 93) (Operand.tmp 95)) (h0 : ρ (Operand.tmp 93) = .slice (some ⟨gn, 0, none⟩) 2 cn) (h1 : ρ (Operand.tmp 95) = .int .i64 1) : (execOp ρ o).run Tryd.prog W = .ok (.value (.pointer (some ⟨gn, 1, none⟩))) W := by
  unfold execOp
  rw [ho]
  go_simp
theorem TrnH0_r4 (ρ : Operand → Value) (o : Oper) (W : World) (b1 p1 i len cap n gs cs gn cn : Nat) (b m k sq : Int) (A A63 A64 A65 A66 : Option Addr) (c c63 c64 c65 c66 : Nat) (q63 q64 q65 q66 z0 z1 pq : List Int)  (ho : o.op = Op.load 26 (Operand.tmp 96)) (h0 : ρ (Operand.tmp 96) = .pointer (some ⟨gn, 1, none⟩)) (g1 : W.cell? ⟨gn, 1, none⟩ = some (.slice A66 q66.length c66)) : (execOp ρ o).run Tryd.prog W = .ok (.value (.slice A66 q66.length c66)) W := by
  unfold execOp
  rw [ho]
  go_simp
theorem TrnH0_r8 (ρ : Operand → Value) (o : Oper) (W : World) (b1 p1 i len cap n gs cs gn cn : Nat) (b m k sq : Int) (A A63 A64 A65 A66 : Option Addr) (c c63 c64 c65 c66 : Nat) (q63 q64 q65 q66 z0 z1 pq : List Int)  (ho : o.op = Op.binOp BinOp.sub 3 (Operand.const (Value.int IntKind.i64 1)) (Operand.tmp 100) 3) (h0 : ρ (Operand.const (Value.int IntKind.i64 1)) = .int .i64 1) (h1 : ρ (Operand.tmp 100) = .int .i64 0) : (execOp ρ o).run Tryd.prog W = .ok (.value (.int .i64 1)) W := by
  unfold execOp
  rw [ho]
  go_simp
  first | rfl | decide
theorem TrnH0_r9 (ρ : Operand → Value) (o : Oper) (W : World) (b1 p1 i len cap n gs cs gn cn : Nat) (b m k sq : Int) (A A63 A64 A65 A66 : Option Addr) (c c63 c64 c65 c66 : Nat) (q63 q64 q65 q66 z0 z1 pq : List Int)  (ho : o.op = Op.indexAddr 53 (Operand.tmp 99) (Operand.tmp 101)) (h0 : ρ (Operand.tmp 99) = .slice (some ⟨gs, 0, none⟩) 2 cs) (h1 : ρ (Operand.tmp 101) = .int .i64 1) : (execOp ρ o).run Tryd.prog W = .ok (.value (.pointer (some ⟨gs, 1, none⟩))) W := by
  unfold execOp
  rw [ho]
  go_simp
theorem TrnH0_r10 (ρ : Operand → Value) (o : Oper) (W : World) (b1 p1 i len cap n gs cs gn cn : Nat) (b m k sq : Int) (A A63 A64 A65 A66 : Option Addr) (c c63 c64 c65 c66 : Nat) (q63 q64 q65 q66 z0 z1 pq : List Int)  (ho : o.op = Op.load 26 (Operand.tmp 102)) (h0 : ρ (Operand.tmp 102) = .pointer (some ⟨gs, 1, none⟩)) (g1 : W.cell? ⟨gs, 1, none⟩ = some (.slice A64 q64.length c64)) : (execOp ρ o).run Tryd.prog W = .ok (.value (.slice A64 q64.length c64)) W := by
  unfold execOp
  rw [ho]
  go_simp
theorem TrnH0_r12 (ρ : Operand → Value) (o : Oper) (W : World) (b1 p1 i len cap n gs cs gn cn : Nat) (b m k sq : Int) (A A63 A64 A65 A66 : Option Addr) (c c63 c64 c65 c66 : Nat) (q63 q64 q65 q66 z0 z1 pq : List Int)  (ho : o.op = Op.binOp BinOp.neq 9 (Operand.tmp 98) (Operand.tmp 104) 9) (h0 : ρ (Operand.tmp 98) = .string (strOfNums z1)) (h1 : ρ (Operand.tmp 104) = .string (strOfNums z1)) : (execOp ρ o).run Tryd.prog W = .ok (.value (.bool false)) W := by
  unfold execOp
  rw [ho]
  go_simp
theorem TrnH0_r16 (ρ : Operand → Value) (o : Oper) (W : World) (b1 p1 i len cap n gs cs gn cn : Nat) (b m k sq : Int) (A A63 A64 A65 A66 : Option Addr) (c c63 c64 c65 c66 : Nat) (q63 q64 q65 q66 z0 z1 pq : List Int)  (ho : o.op = Op.indexAddr 53 (Operand.tmp 107) (Operand.tmp 108)) (h0 : ρ (Operand.tmp 107) = .slice (some ⟨gn, 0, none⟩) 2 cn) (h1 : ρ (Operand.tmp 108) = .int .i64 0) : (execOp ρ o).run Tryd.prog W = .ok (.value (.pointer (some ⟨gn, 0, none⟩))) W := by
  unfold execOp
  rw [ho]
  go_simp
theorem TrnH0_r17 (ρ : Operand → Value) (o : Oper) (W : World) (b1 p1 i len cap n gs cs gn cn : Nat) (b m k sq : Int) (A A63 A64 A65 A66 : Option Addr) (c c63 c64 c65 c66 : Nat) (q63 q64 q65 q66 z0 z1 pq : List Int)  (ho : o.op = Op.load 26 (Operand.tmp 109)) (h0 : ρ (Operand.tmp 109) = .pointer (some ⟨gn, 0, none⟩)) (g0 : W.cell? ⟨gn, 0, none⟩ = some (.slice A65 q65.length c65)) : (execOp ρ o).run Tryd.prog W = .ok (.value (.slice A65 q65.length c65)) W := by
  unfold execOp
  rw [ho]
  go_simp
theorem TrnH0_r21 (ρ : Operand → Value) (o : Oper) (W : World) (b1 p1 i len cap n gs cs gn cn : Nat) (b m k sq : Int) (A A63 A64 A65 A66 : Option Addr) (c c63 c64 c65 c66 : Nat) (q63 q64 q65 q66 z0 z1 pq : List Int)  (ho : o.op = Op.indexAddr 64 (Operand.tmp 112) (Operand.tmp 113)) (h0 : ρ (Operand.tmp 112) = .slice (some ⟨b1, p1, none⟩) len cap) (h1 : ρ (Operand.tmp 113) = .int .i64 ↑i) (i1 : (i : Int) < (len : Int)) : (execOp ρ o).run Tryd.prog W = .ok (.value (.pointer (some ⟨b1, p1 + i * 4, none⟩))) W := by
  unfold execOp
  rw [ho]
  go_simp
theorem TrnH0_r22 (ρ : Operand → Value) (o : Oper) (W : World) (b1 p1 i len cap n gs cs gn cn : Nat) (b m k sq : Int) (A A63 A64 A65 A66 : Option Addr) (c c63 c64 c65 c66 : Nat) (q63 q64 q65 q66 z0 z1 pq : List Int)  (ho : o.op = Op.load 24 (Operand.tmp 114)) (h0 : ρ (Operand.tmp 114) = .pointer (some ⟨b1, p1 + i * 4, none⟩)) (g0 : W.cell? ⟨b1, p1 + i * 4, none⟩ = some (.int .i64 b)) (g1 : W.cell? ⟨b1, p1 + i * 4 + 1, none⟩ = some (.int .i64 m)) (g2 : W.cell? ⟨b1, p1 + i * 4 + 2, none⟩ = some (.int .i64 k)) (g3 : W.cell? ⟨b1, p1 + i * 4 + 3, none⟩ = some (.slice A n c)) : (execOp ρ o).run Tryd.prog W = .ok (.value (.agg #[.int .i64 b, .int .i64 m, .int .i64 k, .slice A n c])) W := by
  unfold execOp
  rw [ho]
  go_simp
theorem TrnH0_r26 (ρ : Operand → Value) (o : Oper) (W : World) (b1 p1 i len cap n gs cs gn cn : Nat) (b m k sq : Int) (A A63 A64 A65 A66 : Option Addr) (c c63 c64 c65 c66 : Nat) (q63 q64 q65 q66 z0 z1 pq : List Int)  (ho : o.op = Op.binOp BinOp.neq 9 (Operand.tmp 111) (Operand.tmp 118) 9) (h0 : ρ (Operand.tmp 111) = .string (strOfNums pq)) (h1 : ρ (Operand.tmp 118) = .string (strOfNums pq)) : (execOp ρ o).run Tryd.prog W = .ok (.value (.bool false)) W := by
  unfold execOp
  rw [ho]
  go_simp
def TrnF1 (bk2 b1 p1 i len cap n : Nat) (b m k : Int) (A A0 A1 A2 A3 : Option Addr) (c c0 c1 c2 c3 : Nat) (q0 q1 q2 q3 z0 z1 pq : List Int) : Nat → Value → World → Prop := Slot.row [
fun vv _ => vv = .agg #[.slice A0 q0.length c0, .slice A1 q1.length c1, .slice A2 q2.length c2, .slice A3 q3.length c3],
  fun vv _ => vv = .slice (some ⟨b1, p1, none⟩) len cap,
  fun vv _ => vv = .int .i64 ↑i,
  fun vv _ => vv = .pointer (some ⟨b1, p1 + i * 4, none⟩),
  fun vv _ => vv = .agg #[.int .i64 b, .int .i64 m, .int .i64 k, .slice A n c],
  fun vv w' => JV vv w' z0 pq z0 z1]
theorem TrnF1_next (bk2 b1 p1 i len cap n : Nat) (b m k : Int) (A A0 A1 A2 A3 : Option Addr) (c c0 c1 c2 c3 : Nat) (q0 q1 q2 q3 z0 z1 pq : List Int) : ∀ kk vv W W', TrnF1 bk2 b1 p1 i len cap n b m k A A0 A1 A2 A3 c c0 c1 c2 c3 q0 q1 q2 q3 z0 z1 pq kk vv W → Below W.heap.size W W' → TrnF1 bk2 b1 p1 i len cap n b m k A A0 A1 A2 A3 c c0 c1 c2 c3 q0 q1 q2 q3 z0 z1 pq kk vv W' := Slot.row_next ⟨fun _ _ _ h hb => h, fun _ _ _ h hb => h, fun _ _ _ h hb => h, fun _ _ _ h hb => h, fun _ _ _ h hb => h, fun _ _ _ h hb => JV.next h hb, trivial⟩
theorem TrnF1_r0 (ρ : Operand → Value) (o : Oper) (W : World) (bk2 b1 p1 i len cap n : Nat) (b m k : Int) (A A0 A1 A2 A3 : Option Addr) (c c0 c1 c2 c3 : Nat) (q0 q1 q2 q3 z0 z1 pq : List Int)  (ho : o.op = Op.load 45 (Operand.tmp 4)) (h0 : ρ (Operand.tmp 4) = .pointer (some ⟨bk2, 0, none⟩)) (g0 : W.cell? ⟨bk2, 0, none⟩ = some (.slice A0 q0.length c0)) (g1 : W.cell? ⟨bk2, 1, none⟩ = some (.slice A1 q1.length c1)) (g2 : W.cell? ⟨bk2, 2, none⟩ = some (.slice A2 q2.length c2)) (g3 : W.cell? ⟨bk2, 3, none⟩ = some (.slice A3 q3.length c3)) : (execOp ρ o).run Tryd.prog W = .ok (.value (.agg #[.slice A0 q0.length c0, .slice A1 q1.length c1, .slice A2 q2.length c2, .slice A3 q3.length c3])) W := by
  unfold execOp
  rw [ho]
  go_simp
theorem TrnF1_r3 (ρ : Operand → Value) (o : Oper) (W : World) (bk2 b1 p1 i len cap n : Nat) (b m k : Int) (A A0 A1 A2 A3 : Option Addr) (c c0 c1 c2 c3 : Nat) (q0 q1 q2 q3 z0 z1 pq : List Int)  (ho : o.op = Op.indexAddr 64 (Operand.tmp 45) (Operand.tmp 46)) (h0 : ρ (Operand.tmp 45) = .slice (some ⟨b1, p1, none⟩) len cap) (h1 : ρ (Operand.tmp 46) = .int .i64 ↑i) (i1 : (i : Int) < (len : Int)) : (execOp ρ o).run Tryd.prog W = .ok (.value (.pointer (some ⟨b1, p1 + i * 4, none⟩))) W := by
  unfold execOp
  rw [ho]
  go_simp
theorem TrnF1_r4 (ρ : Operand → Value) (o : Oper) (W : World) (bk2 b1 p1 i len cap n : Nat) (b m k : Int) (A A0 A1 A2 A3 : Option Addr) (c c0 c1 c2 c3 : Nat) (q0 q1 q2 q3 z0 z1 pq : List Int)  (ho : o.op = Op.load 24 (Operand.tmp 47)) (h0 : ρ (Operand.tmp 47) = .pointer (some ⟨b1, p1 + i * 4, none⟩)) (g0 : W.cell? ⟨b1, p1 + i * 4, none⟩ = some (.int .i64 b)) (g1 : W.cell? ⟨b1, p1 + i * 4 + 1, none⟩ = some (.int .i64 m)) (g2 : W.cell? ⟨b1, p1 + i * 4 + 2, none⟩ = some (.int .i64 k)) (g3 : W.cell? ⟨b1, p1 + i * 4 + 3, none⟩ = some (.slice A n c)) : (execOp ρ o).run Tryd.prog W = .ok (.value (.agg #[.int .i64 b, .int .i64 m, .int .i64 k, .slice A n c])) W := by
  unfold execOp
  rw [ho]
  go_simp
def TrnG1 (bk7 bk8 gs cs gn cn i n : Nat) (b m sq : Int) (l : List Pm) (A30 A31 : Option Addr) (c30 c31 : Nat) : Nat → Value → World → Prop := Slot.row [
fun vv _ => vv = .bool true,
  fun vv _ => vv = .bool false,
  fun vv _ => vv = .bool false,
  fun vv _ => vv = .int .u64 sq,
  fun vv _ => vv = .int .i64 ↑i,
  fun vv _ => vv = .int .u64 ↑i,
  fun vv _ => vv = .int .u64 sq,
  fun vv _ => vv = .bool false,
  fun vv _ => vv = .bool false,
  fun vv _ => vv = .bool false,
  fun vv _ => vv = .agg #[.int .i64 b, .int .i64 m, .int .i64 0, .slice A30 n c30],
  fun vv w' => GV vv w' b m 0 n l,
  fun vv _ => vv = .agg #[.int .i64 b, .int .i64 m, .int .i64 0, .slice A31 n c31],
  fun vv _ => vv = .bool true,
  fun vv _ => vv = .bool false,
  fun vv _ => vv = .bool false,
  fun vv _ => vv = .bool false,
  fun vv _ => vv = .slice (some ⟨gs, 0, none⟩) 2 cs,
  fun vv _ => vv = .int .i64 2,
  fun vv _ => vv = .bool false,
  fun vv _ => vv = .bool false,
  fun vv _ => vv = .bool false,
  fun vv _ => vv = .slice (some ⟨gn, 0, none⟩) 2 cn,
  fun vv _ => vv = .int .i64 2,
  fun vv _ => vv = .bool false,
  fun vv _ => vv = .bool false]
theorem TrnG1_next (bk7 bk8 gs cs gn cn i n : Nat) (b m sq : Int) (l : List Pm) (A30 A31 : Option Addr) (c30 c31 : Nat) : ∀ kk vv W W', TrnG1 bk7 bk8 gs cs gn cn i n b m sq l A30 A31 c30 c31 kk vv W → Below W.heap.size W W' → TrnG1 bk7 bk8 gs cs gn cn i n b m sq l A30 A31 c30 c31 kk vv W' := Slot.row_next ⟨fun _ _ _ h hb => h, fun _ _ _ h hb => h, fun _ _ _ h hb => h, fun _ _ _ h hb => h, fun _ _ _ h hb => h, fun _ _ _ h hb => h, fun _ _ _ h hb => h, fun _ _ _ h hb => h, fun _ _ _ h hb => h, fun _ _ _ h hb => h, fun _ _ _ h hb => h, fun _ _ _ h hb => GV.next h hb, fun _ _ _ h hb => h, fun _ _ _ h hb => h, fun _ _ _ h hb => h, fun _ _ _ h hb => h, fun _ _ _ h hb => h, fun _ _ _ h hb => h, fun _ _ _ h hb => h, fun _ _ _ h hb => h, fun _ _ _ h hb => h, fun _ _ _ h hb => h, fun _ _ _ h hb => h, fun _ _ _ h hb => h, fun _ _ _ h hb => h, fun _ _ _ h hb => h, trivial⟩
theorem TrnG1_r1 (ρ : Operand → Value) (o : Oper) (W : World) (bk7 bk8 gs cs gn cn i n : Nat) (b m sq : Int) (l : List Pm) (A30 A31 : Option Addr) (c30 c31 : Nat)  (ho : o.op = Op.unOp UnOp.not 4 (Operand.tmp 64)) (h0 : ρ (Operand.tmp 64) = .bool true) : (execOp ρ o).run Tryd.prog W = .ok (.value (.bool false)) W := by
  unfold execOp
  rw [ho]
  go_simp
theorem TrnG1_r5 (ρ : Operand → Value) (o : Oper) (W : World) (bk7 bk8 gs cs gn cn i n : Nat) (b m sq : Int) (l : List Pm) (A30 A31 : Option Addr) (c30 c31 : Nat)  (ho : o.op = Op.convert 3 25 (Operand.tmp 68)) (h0 : ρ (Operand.tmp 68) = .int .i64 ↑i) (u1 : IntKind.u64.wrap (i : Int) = (i : Int)) : (execOp ρ o).run Tryd.prog W = .ok (.value (.int .u64 ↑i)) W := by
  unfold execOp
  rw [ho]
  go_simp
theorem TrnG1_r6 (ρ : Operand → Value) (o : Oper) (W : World) (bk7 bk8 gs cs gn cn i n : Nat) (b m sq : Int) (l : List Pm) (A30 A31 : Option Addr) (c30 c31 : Nat)  (ho : o.op = Op.binOp BinOp.add 25 (Operand.tmp 69) (Operand.const (Value.int IntKind.u64 1)) 25) (h0 : ρ (Operand.tmp 69) = .int .u64 ↑i) (h1 : ρ (Operand.const (Value.int IntKind.u64 1)) = .int .u64 1) (u2 : IntKind.u64.wrap ((i : Int) + 1) = sq) : (execOp ρ o).run Tryd.prog W = .ok (.value (.int .u64 sq)) W := by
  unfold execOp
  rw [ho]
  go_simp
theorem TrnG1_r7 (ρ : Operand → Value) (o : Oper) (W : World) (bk7 bk8 gs cs gn cn i n : Nat) (b m sq : Int) (l : List Pm) (A30 A31 : Option Addr) (c30 c31 : Nat)  (ho : o.op = Op.binOp BinOp.neq 25 (Operand.tmp 67) (Operand.tmp 70) 25) (h0 : ρ (Operand.tmp 67) = .int .u64 sq) (h1 : ρ (Operand.tmp 70) = .int .u64 sq) : (execOp ρ o).run Tryd.prog W = .ok (.value (.bool false)) W := by
  unfold execOp
  rw [ho]
  go_simp
theorem TrnG1_r10 (ρ : Operand → Value) (o : Oper) (W : World) (bk7 bk8 gs cs gn cn i n : Nat) (b m sq : Int) (l : List Pm) (A30 A31 : Option Addr) (c30 c31 : Nat)  (ho : o.op = Op.load 24 (Operand.tmp 9)) (h0 : ρ (Operand.tmp 9) = .pointer (some ⟨bk7, 0, none⟩)) (g0 : W.cell? ⟨bk7, 0, none⟩ = some (.int .i64 b)) (g1 : W.cell? ⟨bk7, 1, none⟩ = some (.int .i64 m)) (g2 : W.cell? ⟨bk7, 2, none⟩ = some (.int .i64 0)) (g3 : W.cell? ⟨bk7, 3, none⟩ = some (.slice A30 n c30)) : (execOp ρ o).run Tryd.prog W = .ok (.value (.agg #[.int .i64 b, .int .i64 m, .int .i64 0, .slice A30 n c30])) W := by
  unfold execOp
  rw [ho]
  go_simp
theorem TrnG1_r12 (ρ : Operand → Value) (o : Oper) (W : World) (bk7 bk8 gs cs gn cn i n : Nat) (b m sq : Int) (l : List Pm) (A30 A31 : Option Addr) (c30 c31 : Nat)  (ho : o.op = Op.load 34 (Operand.tmp 12)) (h0 : ρ (Operand.tmp 12) = .pointer (some ⟨bk8, 0, none⟩)) (g0 : W.cell? ⟨bk8, 0, none⟩ = some (.int .i64 b)) (g1 : W.cell? ⟨bk8, 1, none⟩ = some (.int .i64 m)) (g2 : W.cell? ⟨bk8, 2, none⟩ = some (.int .i64 0)) (g3 : W.cell? ⟨bk8, 3, none⟩ = some (.slice A31 n c31)) : (execOp ρ o).run Tryd.prog W = .ok (.value (.agg #[.int .i64 b, .int .i64 m, .int .i64 0, .slice A31 n c31])) W := by
  unfold execOp
  rw [ho]
  go_simp
theorem TrnG1_r14 (ρ : Operand → Value) (o : Oper) (W : World) (bk7 bk8 gs cs gn cn i n : Nat) (b m sq : Int) (l : List Pm) (A30 A31 : Option Addr) (c30 c31 : Nat)  (ho : o.op = Op.unOp UnOp.not 4 (Operand.tmp 77)) (h0 : ρ (Operand.tmp 77) = .bool true) : (execOp ρ o).run Tryd.prog W = .ok (.value (.bool false)) W := by
  unfold execOp
  rw [ho]
  go_simp
theorem TrnG1_r18 (ρ : Operand → Value) (o : Oper) (W : World) (bk7 bk8 gs cs gn cn i n : Nat) (b m sq : Int) (l : List Pm) (A30 A31 : Option Addr) (c30 c31 : Nat)  (ho : o.op = Op.call { callee := Callee.builtin Builtin.len, args := #[Operand.tmp 81], argTypes := #[53] }) (h0 : ρ (Operand.tmp 81) = .slice (some ⟨gs, 0, none⟩) 2 cs) : (execOp ρ o).run Tryd.prog W = .ok (.value (.int .i64 2)) W := by
  unfold execOp
  rw [ho]
  go_simp
theorem TrnG1_r19 (ρ : Operand → Value) (o : Oper) (W : World) (bk7 bk8 gs cs gn cn i n : Nat) (b m sq : Int) (l : List Pm) (A30 A31 : Option Addr) (c30 c31 : Nat)  (ho : o.op = Op.binOp BinOp.neq 3 (Operand.tmp 82) (Operand.const (Value.int IntKind.i64 2)) 3) (h0 : ρ (Operand.tmp 82) = .int .i64 2) (h1 : ρ (Operand.const (Value.int IntKind.i64 2)) = .int .i64 2) : (execOp ρ o).run Tryd.prog W = .ok (.value (.bool false)) W := by
  unfold execOp
  rw [ho]
  go_simp
theorem TrnG1_r23 (ρ : Operand → Value) (o : Oper) (W : World) (bk7 bk8 gs cs gn cn i n : Nat) (b m sq : Int) (l : List Pm) (A30 A31 : Option Addr) (c30 c31 : Nat)  (ho : o.op = Op.call { callee := Callee.builtin Builtin.len, args := #[Operand.tmp 86], argTypes := #[53] }) (h0 : ρ (Operand.tmp 86) = .slice (some ⟨gn, 0, none⟩) 2 cn) : (execOp ρ o).run Tryd.prog W = .ok (.value (.int .i64 2)) W := by
  unfold execOp
  rw [ho]
  go_simp
theorem TrnG1_r24 (ρ : Operand → Value) (o : Oper) (W : World) (bk7 bk8 gs cs gn cn i n : Nat) (b m sq : Int) (l : List Pm) (A30 A31 : Option Addr) (c30 c31 : Nat)  (ho : o.op = Op.binOp BinOp.neq 3 (Operand.tmp 87) (Operand.const (Value.int IntKind.i64 2)) 3) (h0 : ρ (Operand.tmp 87) = .int .i64 2) (h1 : ρ (Operand.const (Value.int IntKind.i64 2)) = .int .i64 2) : (execOp ρ o).run Tryd.prog W = .ok (.value (.bool false)) W := by
  unfold execOp
  rw [ho]
  go_simp
def TrnH1 (b1 p1 i len cap n gs cs gn cn : Nat) (b m k sq : Int) (A A63 A64 A65 A66 : Option Addr) (c c63 c64 c65 c66 : Nat) (q63 q64 q65 q66 z0 z1 pq : List Int) : Nat → Value → World → Prop := Slot.row [
fun vv _ => vv = .slice (some ⟨gn, 0, none⟩) 2 cn,
  fun vv _ => vv = .int .i64 1,
  fun vv _ => vv = .int .i64 0,
  fun vv _ => vv = .pointer (some ⟨gn, 0, none⟩),
  fun vv _ => vv = .slice A65 q65.length c65,
  fun vv _ => vv = .string (strOfNums z0),
  fun vv _ => vv = .slice (some ⟨gs, 0, none⟩) 2 cs,
  fun vv _ => vv = .int .i64 1,
  fun vv _ => vv = .int .i64 0,
  fun vv _ => vv = .pointer (some ⟨gs, 0, none⟩),
  fun vv _ => vv = .slice A63 q63.length c63,
  fun vv _ => vv = .string (strOfNums z0),
  fun vv _ => vv = .bool false,
  fun vv _ => vv = .bool false,
  fun vv _ => vv = .slice (some ⟨gn, 0, none⟩) 2 cn,
  fun vv _ => vv = .int .i64 1,
  fun vv _ => vv = .pointer (some ⟨gn, 1, none⟩),
  fun vv _ => vv = .slice A66 q66.length c66,
  fun vv _ => vv = .string (strOfNums pq),
  fun vv _ => vv = .slice (some ⟨b1, p1, none⟩) len cap,
  fun vv _ => vv = .int .i64 ↑i,
  fun vv _ => vv = .pointer (some ⟨b1, p1 + i * 4, none⟩),
  fun vv _ => vv = .agg #[.int .i64 b, .int .i64 m, .int .i64 k, .slice A n c],
  fun vv _ => vv = .int .u64 sq,
  fun vv w' => PS vv w' pq,
  fun vv _ => vv = .string (strOfNums pq),
  fun vv _ => vv = .bool false,
  fun vv _ => vv = .bool false]
theorem TrnH1_next (b1 p1 i len cap n gs cs gn cn : Nat) (b m k sq : Int) (A A63 A64 A65 A66 : Option Addr) (c c63 c64 c65 c66 : Nat) (q63 q64 q65 q66 z0 z1 pq : List Int) : ∀ kk vv W W', TrnH1 b1 p1 i len cap n gs cs gn cn b m k sq A A63 A64 A65 A66 c c63 c64 c65 c66 q63 q64 q65 q66 z0 z1 pq kk vv W → Below W.heap.size W W' → TrnH1 b1 p1 i len cap n gs cs gn cn b m k sq A A63 A64 A65 A66 c c63 c64 c65 c66 q63 q64 q65 q66 z0 z1 pq kk vv W' := Slot.row_next ⟨fun _ _ _ h hb => h, fun _ _ _ h hb => h, fun _ _ _ h hb => h, fun _ _ _ h hb => h, fun _ _ _ h hb => h, fun _ _ _ h hb => h, fun _ _ _ h hb => h, fun _ _ _ h hb => h, fun _ _ _ h hb => h, fun _ _ _ h hb => h, fun _ _ _ h hb => h, fun _ _ _ h hb => h, fun _ _ _ h hb => h, fun _ _ _ h hb => h, fun _ _ _ h hb => h, fun _ _ _ h hb => h, fun _ _ _ h hb => h, fun _ _ _ h hb => h, fun _ _ _ h hb => h, fun _ _ _ h hb => h, fun _ _ _ h hb => h, fun _ _ _ h hb => h, fun _ _ _ h hb => h, fun _ _ _ h hb => h, fun _ _ _ h hb => PS.next h hb, fun _ _ _ h hb => h, fun _ _ _ h hb => h, fun _ _ _ h hb => h, trivial⟩
theorem TrnH1_r2 (ρ : Operand → Value) (o : Oper) (W : World) (b1 p1 i len cap n gs cs gn cn : Nat) (b m k sq : Int) (A A63 A64 A65 A66 : Option Addr) (c c63 c64 c65 c66 : Nat) (q63 q64 q65 q66 z0 z1 pq : List Int)  (ho : o.op = Op.binOp BinOp.sub 3 (Operand.const (Value.int IntKind.i64 1)) (Operand.tmp 94) 3) (h0 : ρ (Operand.const (Value.int IntKind.i64 1)) = .int .i64 1) (h1 : ρ (Operand.tmp 94) = .int .i64 1) : (execOp ρ o).run Tryd.prog W = .ok (.value (.int .i64 0)) W := by
  unfold execOp
  rw [ho]
  go_simp
  first | rfl | decide
theorem TrnH1_r3 (ρ : Operand → Value) (o : Oper) (W : World) (b1 p1 i len cap n gs cs gn cn : Nat) (b m k sq : Int) (A A63 A64 A65 A66 : Option Addr) (c c63 c64 c65 c66 : Nat) (q63 q64 q65 q66 z0 z1 pq : List Int)  (ho : o.op = Op.indexAddr 53 (Operand.tmp 93) (Operand.tmp 95)) (h0 : ρ (Operand.tmp 93) = .slice (some ⟨gn, 0, none⟩) 2 cn) (h1 : ρ (Operand.tmp 95) = .int .i64 0) : (execOp ρ o).run Tryd.prog W = .ok (.value (.pointer (some ⟨gn, 0, none⟩))) W := by
  unfold execOp
  rw [ho]
  go_simp
theorem TrnH1_r4 (ρ : Operand → Value) (o : Oper) (W : World) (b1 p1 i len cap n gs cs gn cn : Nat) (b m k sq : Int) (A A63 A64 A65 A66 : Option Addr) (c c63 c64 c65 c66 : Nat) (q63 q64 q65 q66 z0 z1 pq : List Int)  (ho : o.op = Op.load 26 (Operand.tmp 96)) (h0 : ρ (Operand.tmp 96) = .pointer (some ⟨gn, 0, none⟩)) (g0 : W.cell? ⟨gn, 0, none⟩ = some (.slice A65 q65.length c65)) : (execOp ρ o).run Tryd.prog W = .ok (.value (.slice A65 q65.length c65)) W := by
  unfold execOp
  rw [ho]
  go_simp
theorem TrnH1_r8 (ρ : Operand → Value) (o : Oper) (W : World) (b1 p1 i len cap n gs cs gn cn : Nat) (b m k sq : Int) (A A63 A64 A65 A66 : Option Addr) (c c63 c64 c65 c66 : Nat) (q63 q64 q65 q66 z0 z1 pq : List Int)  (ho : o.op = Op.binOp BinOp.sub 3 (Operand.const (Value.int IntKind.i64 1)) (Operand.tmp 100) 3) (h0 : ρ (Operand.const (Value.int IntKind.i64 1)) = .int .i64 1) (h1 : ρ (Operand.tmp 100) = .int .i64 1) : (execOp ρ o).run Tryd.prog W = .ok (.value (.int .i64 0)) W := by
  unfold execOp
  rw [ho]
  go_simp
  first | rfl | decide
theorem TrnH1_r9 (ρ : Operand → Value) (o : Oper) (W : World) (b1 p1 i len cap n gs cs gn cn : Nat) (b m k sq : Int) (A A63 A64 A65 A66 : Option Addr) (c c63 c64 c65 c66 : Nat) (q63 q64 q65 q66 z0 z1 pq : List Int)  (ho : o.op = Op.indexAddr 53 (Operand.tmp 99) (Operand.tmp 101)) (h0 : ρ (Operand.tmp 99) = .slice (some ⟨gs, 0, none⟩) 2 cs) (h1 : ρ (Operand.tmp 101) = .int .i64 0) : (execOp ρ o).run Tryd.prog W = .ok (.value (.pointer (some ⟨gs, 0, none⟩))) W := by
  unfold execOp
  rw [ho]
  go_simp
theorem TrnH1_r10 (ρ : Operand → Value) (o : Oper) (W : World) (b1 p1 i len cap n gs cs gn cn : Nat) (b m k sq : Int) (A A63 A64 A65 A66 : Option Addr) (c c63 c64 c65 c66 : Nat) (q63 q64 q65 q66 z0 z1 pq : List Int)  (ho : o.op = Op.load 26 (Operand.tmp 102)) (h0 : ρ (Operand.tmp 102) = .pointer (some ⟨gs, 0, none⟩)) (g0 : W.cell? ⟨gs, 0, none⟩ = some (.slice A63 q63.length c63)) : (execOp ρ o).run Tryd.prog W = .ok (.value (.slice A63 q63.length c63)) W := by
  unfold execOp
  rw [ho]
  go_simp
theorem TrnH1_r12 (ρ : Operand → Value) (o : Oper) (W : World) (b1 p1 i len cap n gs cs gn cn : Nat) (b m k sq : Int) (A A63 A64 A65 A66 : Option Addr) (c c63 c64 c65 c66 : Nat) (q63 q64 q65 q66 z0 z1 pq : List Int)  (ho : o.op = Op.binOp BinOp.neq 9 (Operand.tmp 98) (Operand.tmp 104) 9) (h0 : ρ (Operand.tmp 98) = .string (strOfNums z0)) (h1 : ρ (Operand.tmp 104) = .string (strOfNums z0)) : (execOp ρ o).run Tryd.prog W = .ok (.value (.bool false)) W := by
  unfold execOp
  rw [ho]
  go_simp
theorem TrnH1_r16 (ρ : Operand → Value) (o : Oper) (W : World) (b1 p1 i len cap n gs cs gn cn : Nat) (b m k sq : Int) (A A63 A64 A65 A66 : Option Addr) (c c63 c64 c65 c66 : Nat) (q63 q64 q65 q66 z0 z1 pq : List Int)  (ho : o.op = Op.indexAddr 53 (Operand.tmp 107) (Operand.tmp 108)) (h0 : ρ (Operand.tmp 107) = .slice (some ⟨gn, 0, none⟩) 2 cn) (h1 : ρ (Operand.tmp 108) = .int .i64 1) : (execOp ρ o).run Tryd.prog W = .ok (.value (.pointer (some ⟨gn, 1, none⟩))) W := by
  unfold execOp
  rw [ho]
  go_simp
theorem TrnH1_r17 (ρ : Operand → Value) (o : Oper) (W : World) (b1 p1 i len cap n gs cs gn cn : Nat) (b m k sq : Int) (A A63 A64 A65 A66 : Option Addr) (c c63 c64 c65 c66 : Nat) (q63 q64 q65 q66 z0 z1 pq : List Int)  (ho : o.op = Op.load 26 (Operand.tmp 109)) (h0 : ρ (Operand.tmp 109) = .pointer (some ⟨gn, 1, none⟩)) (g1 : W.cell? ⟨gn, 1, none⟩ = some (.slice A66 q66.length c66)) : (execOp ρ o).run Tryd.prog W = .ok (.value (.slice A66 q66.length c66)) W := by
  unfold execOp
  rw [ho]
  go_simp
theorem TrnH1_r21 (ρ : Operand → Value) (o : Oper) (W : World) (b1 p1 i len cap n gs cs gn cn : Nat) (b m k sq : Int) (A A63 A64 A65 A66 : Option Addr) (c c63 c64 c65 c66 : Nat) (q63 q64 q65 q66 z0 z1 pq : List Int)  (ho : o.op = Op.indexAddr 64 (Operand.tmp 112) (Operand.tmp 113)) (h0 : ρ (Operand.tmp 112) = .slice (some ⟨b1, p1, none⟩) len cap) (h1 : ρ (Operand.tmp 113) = .int .i64 ↑i) (i1 : (i : Int) < (len : Int)) : (execOp ρ o).run Tryd.prog W = .ok (.value (.pointer (some ⟨b1, p1 + i * 4, none⟩))) W := by
  unfold execOp
  rw [ho]
  go_simp
theorem TrnH1_r22 (ρ : Operand → Value) (o : Oper) (W : World) (b1 p1 i len cap n gs cs gn cn : Nat) (b m k sq : Int) (A A63 A64 A65 A66 : Option Addr) (c c63 c64 c65 c66 : Nat) (q63 q64 q65 q66 z0 z1 pq : List Int)  (ho : o.op = Op.load 24 (Operand.tmp 114)) (h0 : ρ (Operand.tmp 114) = .pointer (some ⟨b1, p1 + i * 4, none⟩)) (g0 : W.cell? ⟨b1, p1 + i * 4, none⟩ = some (.int .i64 b)) (g1 : W.cell? ⟨b1, p1 + i * 4 + 1, none⟩ = some (.int .i64 m)) (g2 : W.cell? ⟨b1, p1 + i * 4 + 2, none⟩ = some (.int .i64 k)) (g3 : W.cell? ⟨b1, p1 + i * 4 + 3, none⟩ = some (.slice A n c)) : (execOp ρ o).run Tryd.prog W = .ok (.value (.agg #[.int .i64 b, .int .i64 m, .int .i64 k, .slice A n c])) W := by
  unfold execOp
  rw [ho]
  go_simp
theorem TrnH1_r26 (ρ : Operand → Value) (o : Oper) (W : World) (b1 p1 i len cap n gs cs gn cn : Nat) (b m k sq : Int) (A A63 A64 A65 A66 : Option Addr) (c c63 c64 c65 c66 : Nat) (q63 q64 q65 q66 z0 z1 pq : List Int)  (ho : o.op = Op.binOp BinOp.neq 9 (Operand.tmp 111) (Operand.tmp 118) 9) (h0 : ρ (Operand.tmp 111) = .string (strOfNums pq)) (h1 : ρ (Operand.tmp 118) = .string (strOfNums pq)) : (execOp ρ o).run Tryd.prog W = .ok (.value (.bool false)) W := by
  unfold execOp
  rw [ho]
  go_simp

set_option maxHeartbeats 51200000 in
theorem journalTurns_walk (w : World) (ht : Tab w) (a : Option Addr) (len cap : Nat) (ls : List Lg) (hl : ls.length = len) (hc : len ≤ cap) (hx : cap ≤ maxLen) (hs : Sees w w.heap.size a (ls.map lgc).flatten) (hin : ∀ x ∈ ls, x.In w) :
    Calls Tryd.prog 7 #[.slice a len cap] w fun e w' => e = .returned (.bool true) ∧ Below w.heap.size w w' := by
  unfold maxLen at hx
  have HT := Lib.hid ht
  have HS := Lib.hid hs
  have HL := Lib.hid hl
  have HI := Lib.hid hin
  clear ht hs hl hin
  have TB_0 := HT
  have BE_0 : Hid (BW w w) := Lib.hid (BW.mk (Below.refl _ _))
  by_cases hbig : 20 < len
  · have g1 : (20 : Int) < (len : Int) := by omega
    go_enter Tryd.func7, Tryd.ntmps7
    go_wp2_with (first
      | (go_at_call 9; (refine (awake_any _ TB_0.out).mono ?_; rintro e w1 ⟨rfl, h1⟩; have TB_1 := Lib.hid (TB_0.out.next h1); have BE_1 := Lib.hid (BE_0.out.next h1); clear TB_0 BE_0 h1)))
    go_ret
    exact ⟨rfl, BE_1.out.bel⟩
  · have g1 : ¬ (20 : Int) < (len : Int) := by omega
    go_enter Tryd.func7, Tryd.ntmps7
    go_wp2_with (first
      | (go_at_call 9; (refine (awake_any _ TB_0.out).mono ?_; rintro e w1 ⟨rfl, h1⟩; have TB_1 := Lib.hid (TB_0.out.next h1); have BE_1 := Lib.hid (BE_0.out.next h1); clear TB_0 BE_0 h1))
      | (go_at_call 17; (refine (from_nil _).mono ?_; rintro e w2 ⟨⟨⟨A10, c10, q10⟩, ⟨A11, c11, q11⟩, ⟨A12, c12, q12⟩, ⟨A13, c13, q13⟩⟩, rfl, hi2, hb2, h2⟩; have TB_2 := Lib.hid ((TB_1.out.next h2).next (below_box (o := .cells #[.slice A10 q10.length c10, .slice A11 q11.length c11, .slice A12 q12.length c12, .slice A13 q13.length c13] 45))); have BE_2 := Lib.hid ((BE_1.out.next h2).next (below_box (o := .cells #[.slice A10 q10.length c10, .slice A11 q11.length c11, .slice A12 q12.length c12, .slice A13 q13.length c13] 45))); have JA_0 := Lib.hid (JB.mk (BxT.new w2 #[.slice A10 q10.length c10, .slice A11 q11.length c11, .slice A12 q12.length c12, .slice A13 q13.length c13] 45) (hi2.next (below_box (o := .cells #[.slice A10 q10.length c10, .slice A11 q11.length c11, .slice A12 q12.length c12, .slice A13 q13.length c13] 45)))); have HB2 := Lib.hid hb2; have BX : Hid (w.heap.size ≤ w2.heap.size) := Lib.hid (Nat.le_trans BE_1.out.bel.size h2.size); clear hb2 hi2; simp only [Jr.val, Jr.arr, RowV.val]; clear TB_1 BE_1 h2)))
    have hX : w.heap.size ≤ w2.heap.size := BX.out
    have HJ : Hid (TJ w (w2.alloc (.cells #[.slice A10 q10.length c10, .slice A11 q11.length c11, .slice A12 q12.length c12, .slice A13 q13.length c13] 45)) w2.heap.size ⟨⟨A10, c10, q10⟩, ⟨A11, c11, q11⟩, ⟨A12, c12, q12⟩, ⟨A13, c13, q13⟩⟩ [] [] 0) := Lib.hid ⟨BE_2.out.bel, JA_0.out, HB2.out.1, HB2.out.2.1, By.nil, By.nil, by rw [load_none (get_short By.nil (by decide)) (get_short By.nil (by decide))]; rfl⟩
    clear TB_2 BE_2 JA_0 HB2 BX
    go_loopw [5] (fun a wr => ∃ (i : Nat) (jr : Jr) (z0 z1 : List Int), a = .int .i64 i ∧ i ≤ len ∧ Hid (TJ w wr w2.heap.size jr z0 z1 i)) (fun a _ => len - (intOf a).toNat)
    case atStart => exact ⟨0, _, _, _, rfl, by omega, HJ⟩
    case round =>
      clear HJ
      obtain ⟨i, jr, z0, z1, rfl, hi, hj⟩ := hrel
      by_cases hlt : i < len
      · have hiz : i < ls.length := by rw [HL.out]; exact hlt
        obtain ⟨b1, p1, rfl, hrow⟩ := lg_row4 HS.out i ls[i] (List.getElem?_eq_getElem hiz)
        have hgi := HI.out ls[i] (List.getElem_mem hiz)
        generalize ls[i] = g at hrow hgi
        have hli := Lg.li hgi
        obtain ⟨b, m, k, A, c, l⟩ := g
        simp only at hrow hli
        obtain ⟨n, hn⟩ : ∃ n, l.length = n := ⟨_, rfl⟩
        rw [hn] at hrow hli
        have i1 : (i : Int) < (len : Int) := by omega
        obtain ⟨sq, hsq⟩ : ∃ sq : Int, (i : Int) + 1 = sq := ⟨_, rfl⟩
        have e3 : IntKind.i64.wrap ((i : Int) + 1) = sq := by rw [hsq]; exact IntWalk.i64_in _ (by omega)
        have TB_0 := Lib.hid (HT.out.next hj.out.bel)
        have BE_0 := Lib.hid (BW.mk hj.out.bel)
        have RO_0 := Lib.hid (hrow.next hj.out.bel)
        have LX_0 := Lib.hid (hli.next hj.out.bel)
        have JA_0 := Lib.hid hj.out.jb
        have HZ : Hid ((jr.n0.bs = z0 ∧ jr.n1.bs = z1) ∧ (By z0 ∧ By z1) ∧ (JrnP.load z0 z1).s = (i : Int)) := Lib.hid ⟨⟨hj.out.e0, hj.out.e1⟩, ⟨hj.out.y0, hj.out.y1⟩, hj.out.ld⟩
        have hrow0 := Lib.hid hrow
        have hli0 := Lib.hid hli
        clear hj hrow hli hgi hiz
        obtain ⟨x0, x1, x2, x3⟩ := And.intro RO_0.out.h0 (And.intro RO_0.out.h1 (And.intro RO_0.out.h2 RO_0.out.h3))
        by_cases h80 : n ≤ 80
        · have f1 : decide (n ≤ 80) = true := decide_eq_true h80
          rcases hc0 : mayK b m k l with _ | _
          · have HM := Lib.hid hc0
            clear hc0 JA_0
            go_wp2_with (first
              | (go_at_call 10; (refine (few_at LX_0.out b m k).mono ?_; rintro e w3 ⟨rfl, h3⟩; have TB_1 := Lib.hid (TB_0.out.next h3); have BE_1 := Lib.hid (BE_0.out.next h3); have RO_1 := Lib.hid (RO_0.out.next h3); have LX_1 := Lib.hid (LX_0.out.next h3); rw [f1]; clear TB_0 BE_0 RO_0 LX_0 h3; obtain ⟨x0, x1, x2, x3⟩ := And.intro RO_1.out.h0 (And.intro RO_1.out.h1 (And.intro RO_1.out.h2 RO_1.out.h3))))
              | (go_at_call 25; (refine (check_at LX_1.out (by omega) b m k).mono ?_; rintro e w4 ⟨rfl, h4⟩; have TB_2 := Lib.hid (TB_1.out.next h4); have BE_2 := Lib.hid (BE_1.out.next h4); have RO_2 := Lib.hid (RO_1.out.next h4); have LX_2 := Lib.hid (LX_1.out.next h4); rw [HM.out]; clear TB_1 BE_1 RO_1 LX_1 h4; obtain ⟨x0, x1, x2, x3⟩ := And.intro RO_2.out.h0 (And.intro RO_2.out.h1 (And.intro RO_2.out.h2 RO_2.out.h3)))))
            go_ret
            exact ⟨rfl, BE_2.out.bel⟩
          · have HM := Lib.hid hc0
            obtain ⟨t0, t1, t2⟩ := turn HZ.out.2.1.1 HZ.out.2.1.2 HZ.out.2.2 (by omega) (may_k hc0) (by omega) hsq
            have tb := wr_by HZ.out.2.1.1 HZ.out.2.1.2 b m l
            have HP : Hid (∀ W, Tab W → LI W A c n l → Calls Tryd.prog 13 #[.agg #[.int .i64 b, .int .i64 m, .int .i64 k, .slice A n c], .int .u64 sq] W fun e w' => ∃ q : RowV, e = .returned q.val ∧ (RT w' q ∧ q.bs = put b m l sq) ∧ Below W.heap.size W w') := Lib.hid fun W h1 h2 => put_at h2 (by omega) h1 b m k sq (by omega)
            have HW : Hid (∀ j W, Tab W → Jr.In W j → (j.n0.bs = z0 ∧ j.n1.bs = z1) → LI W A c n l → Calls Tryd.prog 23 #[j.val, .agg #[.int .i64 b, .int .i64 m, .int .i64 k, .slice A n c]] W (JP W (wr0 z0 z1 b m l) (wr1 z0 z1 b m l) z0 z1)) := Lib.hid fun j W h1 h2 h3 h4 => write_li z0 z1 j.a0.bs j.a1.bs j h1 h2 ⟨h3.1, h3.2, rfl, rfl⟩ h4 (by omega) b m k
            have HLd : Hid (∀ j W, Tab W → Jr.In W j → (j.n0.bs = wr0 z0 z1 b m l ∧ j.n1.bs = wr1 z0 z1 b m l) → Calls Tryd.prog 18 #[j.val] W fun e w' => ∃ A' c', e = .returned (.tuple #[.agg #[.int .i64 b, .int .i64 m, .int .i64 0, .slice A' n c'], .int .u64 sq, .bool true]) ∧ LI w' A' c' n l ∧ Below W.heap.size W w') := Lib.hid fun j W h1 h2 h3 => load_b _ _ j.a0.bs j.a1.bs j h1 h2 ⟨h3.1, h3.2, rfl, rfl⟩ t2 hn (decide_eq_true (by omega))
            have HE : Hid (By (wr0 z0 z1 b m l) ∧ By (wr1 z0 z1 b m l) ∧ (JrnP.load (wr0 z0 z1 b m l) (wr1 z0 z1 b m l)).s = sq) := Lib.hid ⟨tb.1, tb.2, by rw [t2]⟩
            have hpar : sq % 2 = 0 ∨ sq % 2 = 1 := by omega
            have u1 : IntKind.u64.wrap (i : Int) = (i : Int) := IntWalk.u64_in _ (by omega)
            have u2 : IntKind.u64.wrap ((i : Int) + 1) = sq := by rw [hsq]; exact IntWalk.u64_in _ (by omega)
            have HN : Hid (n ≤ 100) := Lib.hid (by omega)
            clear t2 tb hc0 hn
            generalize put b m l sq = pq at *
            rcases hpar with hp | hp
            · obtain ⟨v0, v1⟩ := t0 hp
              rw [v0, v1] at HW HLd HE
              have tm : sq.tmod 2 = 0 := by rw [Int.tmod_eq_emod_of_nonneg (by omega)]; exact hp
              clear t0 t1 hp v0 v1
              obtain ⟨d0, d1, d2, d3⟩ := JA_0.out.box.bx.c4
              obtain ⟨⟨A0, c0, q0⟩, ⟨A1, c1, q1⟩, ⟨A2, c2, q2⟩, ⟨A3, c3, q3⟩⟩ := jr
              simp only [RowV.val] at d0 d1 d2 d3
              go_wp2_with (first
                | (go_at_call 10; (refine (few_at LX_0.out b m k).mono ?_; rintro e w3 ⟨rfl, h3⟩; have TB_1 := Lib.hid (TB_0.out.next h3); have BE_1 := Lib.hid (BE_0.out.next h3); have RO_1 := Lib.hid (RO_0.out.next h3); have LX_1 := Lib.hid (LX_0.out.next h3); have JA_1 := Lib.hid (JA_0.out.next h3); rw [f1]; clear TB_0 BE_0 RO_0 LX_0 JA_0 h3; obtain ⟨x0, x1, x2, x3⟩ := And.intro RO_1.out.h0 (And.intro RO_1.out.h1 (And.intro RO_1.out.h2 RO_1.out.h3)); obtain ⟨d0, d1, d2, d3⟩ := JA_1.out.box.bx.c4; simp only [RowV.val] at d0 d1 d2 d3))
                | (go_at_call 25; (refine (check_at LX_1.out (by omega) b m k).mono ?_; rintro e w4 ⟨rfl, h4⟩; have TB_2 := Lib.hid (TB_1.out.next h4); have BE_2 := Lib.hid (BE_1.out.next h4); have RO_2 := Lib.hid (RO_1.out.next h4); have LX_2 := Lib.hid (LX_1.out.next h4); have JA_2 := Lib.hid (JA_1.out.next h4); rw [HM.out]; clear TB_1 BE_1 RO_1 LX_1 JA_1 h4; obtain ⟨x0, x1, x2, x3⟩ := And.intro RO_2.out.h0 (And.intro RO_2.out.h1 (And.intro RO_2.out.h2 RO_2.out.h3)); obtain ⟨d0, d1, d2, d3⟩ := JA_2.out.box.bx.c4; simp only [RowV.val] at d0 d1 d2 d3))
                | (go_at_call 20; (refine (slots_new z0 z1 q2 q3 ⟨⟨A0, c0, q0⟩, ⟨A1, c1, q1⟩, ⟨A2, c2, q2⟩, ⟨A3, c3, q3⟩⟩ JA_2.out.in_ ⟨HZ.out.1.1, HZ.out.1.2, rfl, rfl⟩).mono ?_; rintro e w5 ⟨gs, cs, ⟨A63, c63, q63⟩, ⟨A64, c64, q64⟩, rfl, hs5, hg5, hb5, h5⟩; have TB_3 := Lib.hid (TB_2.out.next h5); have BE_3 := Lib.hid (BE_2.out.next h5); have RO_3 := Lib.hid (RO_2.out.next h5); have LX_3 := Lib.hid (LX_2.out.next h5); have JA_3 := Lib.hid (JA_2.out.next h5); have SS_0 := Lib.hid hs5; have HS5 := Lib.hid hb5; have hne : gs ≠ w2.heap.size := (by have := (JA_2.out.box.bx.lt); omega); clear hb5 hs5 hg5; clear TB_2 BE_2 RO_2 LX_2 JA_2 h5; obtain ⟨x0, x1, x2, x3⟩ := And.intro RO_3.out.h0 (And.intro RO_3.out.h1 (And.intro RO_3.out.h2 RO_3.out.h3)); obtain ⟨d0, d1, d2, d3⟩ := JA_3.out.box.bx.c4; simp only [RowV.val] at d0 d1 d2 d3)))
              have HA : Hid (∀ W, Below w5.heap.size w5 W → (W.cell? ⟨w2.heap.size, 0, none⟩ = some (.slice A0 q0.length c0) ∧ W.cell? ⟨w2.heap.size, 1, none⟩ = some (.slice A1 q1.length c1) ∧ W.cell? ⟨w2.heap.size, 2, none⟩ = some (.slice A2 q2.length c2) ∧ W.cell? ⟨w2.heap.size, 3, none⟩ = some (.slice A3 q3.length c3)) ∧ (W.cell? ⟨b1, p1 + i * 4, none⟩ = some (.int .i64 b) ∧ W.cell? ⟨b1, p1 + i * 4 + 1, none⟩ = some (.int .i64 m) ∧ W.cell? ⟨b1, p1 + i * 4 + 2, none⟩ = some (.int .i64 k) ∧ W.cell? ⟨b1, p1 + i * 4 + 3, none⟩ = some (.slice A n c)) ∧ Tab W ∧ Jr.In W ⟨⟨A0, c0, q0⟩, ⟨A1, c1, q1⟩, ⟨A2, c2, q2⟩, ⟨A3, c3, q3⟩⟩ ∧ LI W A c n l) := Lib.hid fun W hW => ⟨(JA_3.out.next hW).box.bx.c4, ⟨(RO_3.out.next hW).h0, (RO_3.out.next hW).h1, (RO_3.out.next hW).h2, (RO_3.out.next hW).h3⟩, TB_3.out.next hW, (JA_3.out.next hW).in_, LX_3.out.next hW⟩
              refine Slot.wp_region_slotst 6 (TrnF0 w2.heap.size b1 p1 i len cap n b m k A A0 A1 A2 A3 c c0 c1 c2 c3 q0 q1 q2 q3 z0 z1 pq) (by kernel_rfl) (by kernel_rfl) (by kernel_rfl) (by kernel_rfl) (TrnF0_next w2.heap.size b1 p1 i len cap n b m k A A0 A1 A2 A3 c c0 c1 c2 c3 q0 q1 q2 q3 z0 z1 pq) ?_ ?_
              · intro ii o x W K fr hi ho hB hd sl hbs hK
                have HX := Lib.hid (HA.out W hB)
                match ii, ho with
                | 0, ho =>
                  obtain rfl := Option.some.inj ho
                  refine Slot.op_go ho rfl ?_
                  exact Slot.wp_value (TrnF0_r0 fr.eval _ W w2.heap.size b1 p1 i len cap n b m k A A0 A1 A2 A3 c c0 c1 c2 c3 q0 q1 q2 q3 z0 z1 pq  rfl (Slot.eval_at ((hbs 4 (Slot.off_of (by kernel_rfl))).trans rfl)) (HX.out.1.1) (HX.out.1.2.1) (HX.out.1.2.2.1) (HX.out.1.2.2.2)) (hK _ _ (Below.refl _ _) rfl)
                | 1, ho =>
                  obtain rfl := Option.some.inj ho
                  refine Slot.op_go ho rfl ?_
                  exact Slot.wp_value (Slot.run_move rfl (Slot.eval_at ((hbs 0 (Slot.off_of (by kernel_rfl))).trans rfl))) (hK _ _ (Below.refl _ _) rfl)
                | 2, ho =>
                  obtain rfl := Option.some.inj ho
                  refine Slot.op_go ho rfl ?_
                  exact Slot.wp_value (Slot.run_move rfl (Slot.eval_at ((hbs 5 (Slot.off_of (by kernel_rfl))).trans rfl))) (hK _ _ (Below.refl _ _) rfl)
                | 3, ho =>
                  obtain rfl := Option.some.inj ho
                  refine Slot.op_go ho rfl ?_
                  have e1 : x 1 = .slice (some ⟨b1, p1, none⟩) len cap := hd ⟨1, .data⟩ (by simp) rfl
                  have e2 : x 2 = .int .i64 ↑i := hd ⟨2, .data⟩ (by simp) rfl
                  exact Slot.wp_value (TrnF0_r3 fr.eval _ W w2.heap.size b1 p1 i len cap n b m k A A0 A1 A2 A3 c c0 c1 c2 c3 q0 q1 q2 q3 z0 z1 pq  rfl (Slot.eval_at ((sl 1 _ 45 rfl rfl).trans (congrArg some e1))) (Slot.eval_at ((sl 2 _ 46 rfl rfl).trans (congrArg some e2))) (i1)) (hK _ _ (Below.refl _ _) rfl)
                | 4, ho =>
                  obtain rfl := Option.some.inj ho
                  refine Slot.op_go ho rfl ?_
                  have e3 : x 3 = .pointer (some ⟨b1, p1 + i * 4, none⟩) := hd ⟨3, .data⟩ (by simp) rfl
                  exact Slot.wp_value (TrnF0_r4 fr.eval _ W w2.heap.size b1 p1 i len cap n b m k A A0 A1 A2 A3 c c0 c1 c2 c3 q0 q1 q2 q3 z0 z1 pq  rfl (Slot.eval_at ((sl 3 _ 47 rfl rfl).trans (congrArg some e3))) (HX.out.2.1.1) (HX.out.2.1.2.1) (HX.out.2.1.2.2.1) (HX.out.2.1.2.2.2)) (hK _ _ (Below.refl _ _) rfl)
                | 5, ho =>
                  obtain rfl := Option.some.inj ho
                  refine Slot.op_go ho rfl ?_
                  have e0 : x 0 = .agg #[.slice A0 q0.length c0, .slice A1 q1.length c1, .slice A2 q2.length c2, .slice A3 q3.length c3] := hd ⟨0, .data⟩ (by simp) rfl
                  have e4 : x 4 = .agg #[.int .i64 b, .int .i64 m, .int .i64 k, .slice A n c] := hd ⟨4, .data⟩ (by simp) rfl
                  have s0 : fr.eval (Operand.tmp 44) = .agg #[.slice A0 q0.length c0, .slice A1 q1.length c1, .slice A2 q2.length c2, .slice A3 q3.length c3] := (Slot.eval_at ((sl 0 _ 44 rfl rfl).trans (congrArg some e0)))
                  have s1 : fr.eval (Operand.tmp 48) = .agg #[.int .i64 b, .int .i64 m, .int .i64 k, .slice A n c] := (Slot.eval_at ((sl 4 _ 48 rfl rfl).trans (congrArg some e4)))
                  have ha : (#[fr.eval (Operand.tmp 44), fr.eval (Operand.tmp 48)] : Array Value) = #[.agg #[.slice A0 q0.length c0, .slice A1 q1.length c1, .slice A2 q2.length c2, .slice A3 q3.length c3], .agg #[.int .i64 b, .int .i64 m, .int .i64 k, .slice A n c]] := by rw [s0, s1]
                  refine Slot.wp_call (f := 23) (by kernel_rfl) ha (HW.out ⟨⟨A0, c0, q0⟩, ⟨A1, c1, q1⟩, ⟨A2, c2, q2⟩, ⟨A3, c3, q3⟩⟩ W HX.out.2.2.1 HX.out.2.2.2.1 HZ.out.1 HX.out.2.2.2.2) ?_
                  rintro e w2' ⟨j', rfl, h1, h2, h3⟩
                  have hG : JV j'.val w2' pq z1 z0 z1 := ⟨j', rfl, h1, h2⟩
                  exact ⟨_, rfl, hK _ _ h3 hG⟩
                | n + 6, ho => exact absurd hi (by omega)
              · intro x W hB hx
                obtain ⟨j5, e5, hi5, hb5⟩ := (hx 5 (by simp) : JV (x 5) W pq z1 z0 z1)
                simp only [Inv.fill, Act.put, List.setIfInBounds_toArray, List.set_cons_zero, List.set_cons_succ, List.take_succ_cons, List.take_zero, List.drop_succ_cons, List.drop_zero, e5]
                clear hx e5
                obtain ⟨⟨A20, c20, q20⟩, ⟨A21, c21, q21⟩, ⟨A22, c22, q22⟩, ⟨A23, c23, q23⟩⟩ := j5
                have hbx : BxT W w2.heap.size #[.slice A0 q0.length c0, .slice A1 q1.length c1, .slice A2 q2.length c2, .slice A3 q3.length c3] 45 := (JA_3.out.next hB).box
                have hW4 : Below w.heap.size w ((((W.setCell ⟨w2.heap.size, 0, none⟩ (.slice A20 q20.length c20)).setCell ⟨w2.heap.size, 1, none⟩ (.slice A21 q21.length c21)).setCell ⟨w2.heap.size, 2, none⟩ (.slice A22 q22.length c22)).setCell ⟨w2.heap.size, 3, none⟩ (.slice A23 q23.length c23)) := below4 (BE_3.out.next hB).bel hX _ _ _ _
                have JB_0 : Hid (JB ((((W.setCell ⟨w2.heap.size, 0, none⟩ (.slice A20 q20.length c20)).setCell ⟨w2.heap.size, 1, none⟩ (.slice A21 q21.length c21)).setCell ⟨w2.heap.size, 2, none⟩ (.slice A22 q22.length c22)).setCell ⟨w2.heap.size, 3, none⟩ (.slice A23 q23.length c23)) w2.heap.size ⟨⟨A20, c20, q20⟩, ⟨A21, c21, q21⟩, ⟨A22, c22, q22⟩, ⟨A23, c23, q23⟩⟩) := Lib.hid ⟨set4 hbx, in4 hi5 hbx (by decide) _ _ _ _⟩
                have ss0 := SS_0.out.next hB
                have SZ_0 : Hid (SI ((((W.setCell ⟨w2.heap.size, 0, none⟩ (.slice A20 q20.length c20)).setCell ⟨w2.heap.size, 1, none⟩ (.slice A21 q21.length c21)).setCell ⟨w2.heap.size, 2, none⟩ (.slice A22 q22.length c22)).setCell ⟨w2.heap.size, 3, none⟩ (.slice A23 q23.length c23)) gs cs ⟨A63, c63, q63⟩ ⟨A64, c64, q64⟩) := Lib.hid ((((ss0.set hbx (by decide) hne 0 _).set (hbx.set 0 _) (by decide) hne 1 _).set ((hbx.set 0 _).set 1 _) (by decide) hne 2 _).set (((hbx.set 0 _).set 1 _).set 2 _) (by decide) hne 3 _)
                have HB5 := Lib.hid hb5
                have TC_0 := Lib.hid (HT.out.next hW4)
                have BF_0 := Lib.hid (BW.mk hW4)
                have RP_0 := Lib.hid (hrow0.out.next hW4)
                have LY_0 := Lib.hid (hli0.out.next hW4)
                obtain ⟨k0', k1', k2', k3'⟩ := hbx.bx.c4
                obtain ⟨g0', g1', g2', g3'⟩ := hbx.bx.f4
                clear HA hb5 hi5 hbx hW4 ss0 hB x0 x1 x2 x3 d0 d1 d2 d3 TB_3 BE_3 RO_3 LX_3 JA_3 SS_0
                simp only [Jr.val, Jr.arr, RowV.val]
                change wpList _ _ _ _ _ _
                go_wp2_with (first
                  | (go_at_call 20; (refine (slots_si pq z1 z0 z1 ⟨⟨A20, c20, q20⟩, ⟨A21, c21, q21⟩, ⟨A22, c22, q22⟩, ⟨A23, c23, q23⟩⟩ JB_0.out.in_ HB5.out).mono ?_; rintro e w6 ⟨gn, cn, ⟨A65, c65, q65⟩, ⟨A66, c66, q66⟩, rfl, hs6, hb6, h6⟩; have TC_1 := Lib.hid (TC_0.out.next h6); have BF_1 := Lib.hid (BF_0.out.next h6); have LY_1 := Lib.hid (LY_0.out.next h6); have SZ_1 := Lib.hid (SZ_0.out.next h6); have RP_1 := Lib.hid (RP_0.out.next h6); have JB_1 := Lib.hid (JB_0.out.next h6); have SN_0 := Lib.hid hs6; have HS6 := Lib.hid hb6; clear hb6 hs6; clear TC_0 BF_0 LY_0 SZ_0 RP_0 JB_0 h6; obtain ⟨x0, x1, x2, x3⟩ := And.intro RP_1.out.h0 (And.intro RP_1.out.h1 (And.intro RP_1.out.h2 RP_1.out.h3)); obtain ⟨d0, d1, d2, d3⟩ := JB_1.out.box.bx.c4; simp only [RowV.val] at d0 d1 d2 d3))
                  | (go_at_call 18; (refine (HLd.out ⟨⟨A20, c20, q20⟩, ⟨A21, c21, q21⟩, ⟨A22, c22, q22⟩, ⟨A23, c23, q23⟩⟩ _ TC_1.out JB_1.out.in_ ⟨HB5.out.1, HB5.out.2.1⟩).mono ?_; rintro e w7 ⟨A30, c30, rfl, hl7, h7⟩; have TC_2 := Lib.hid ((TC_1.out.next h7).next (below_box (o := .cells #[.int .i64 b, .int .i64 m, .int .i64 0, .slice A30 n c30] 24))); have BF_2 := Lib.hid ((BF_1.out.next h7).next (below_box (o := .cells #[.int .i64 b, .int .i64 m, .int .i64 0, .slice A30 n c30] 24))); have LY_2 := Lib.hid ((LY_1.out.next h7).next (below_box (o := .cells #[.int .i64 b, .int .i64 m, .int .i64 0, .slice A30 n c30] 24))); have SZ_2 := Lib.hid ((SZ_1.out.next h7).next (below_box (o := .cells #[.int .i64 b, .int .i64 m, .int .i64 0, .slice A30 n c30] 24))); have RP_2 := Lib.hid ((RP_1.out.next h7).next (below_box (o := .cells #[.int .i64 b, .int .i64 m, .int .i64 0, .slice A30 n c30] 24))); have JB_2 := Lib.hid ((JB_1.out.next h7).next (below_box (o := .cells #[.int .i64 b, .int .i64 m, .int .i64 0, .slice A30 n c30] 24))); have SN_1 := Lib.hid ((SN_0.out.next h7).next (below_box (o := .cells #[.int .i64 b, .int .i64 m, .int .i64 0, .slice A30 n c30] 24))); have MB_0 := Lib.hid (BxT.new w7 #[.int .i64 b, .int .i64 m, .int .i64 0, .slice A30 n c30] 24); have LM_0 := Lib.hid (hl7.next (below_box (o := .cells #[.int .i64 b, .int .i64 m, .int .i64 0, .slice A30 n c30] 24))); clear hl7; clear TC_1 BF_1 LY_1 SZ_1 RP_1 JB_1 SN_0 h7; obtain ⟨x0, x1, x2, x3⟩ := And.intro RP_2.out.h0 (And.intro RP_2.out.h1 (And.intro RP_2.out.h2 RP_2.out.h3)); obtain ⟨d0, d1, d2, d3⟩ := JB_2.out.box.bx.c4; simp only [RowV.val] at d0 d1 d2 d3; obtain ⟨r0, r1, r2, r3⟩ := MB_0.out.bx.c4))
                  | (go_at_call 15; (refine (of_at LY_2.out HN.out b m k).mono ?_; rintro e w8 ⟨A31, c31, rfl, hl8, h8⟩; have TC_3 := Lib.hid ((TC_2.out.next h8).next (below_box (o := .cells #[.int .i64 b, .int .i64 m, .int .i64 0, .slice A31 n c31] 34))); have BF_3 := Lib.hid ((BF_2.out.next h8).next (below_box (o := .cells #[.int .i64 b, .int .i64 m, .int .i64 0, .slice A31 n c31] 34))); have LY_3 := Lib.hid ((LY_2.out.next h8).next (below_box (o := .cells #[.int .i64 b, .int .i64 m, .int .i64 0, .slice A31 n c31] 34))); have SZ_3 := Lib.hid ((SZ_2.out.next h8).next (below_box (o := .cells #[.int .i64 b, .int .i64 m, .int .i64 0, .slice A31 n c31] 34))); have RP_3 := Lib.hid ((RP_2.out.next h8).next (below_box (o := .cells #[.int .i64 b, .int .i64 m, .int .i64 0, .slice A31 n c31] 34))); have JB_3 := Lib.hid ((JB_2.out.next h8).next (below_box (o := .cells #[.int .i64 b, .int .i64 m, .int .i64 0, .slice A31 n c31] 34))); have SN_2 := Lib.hid ((SN_1.out.next h8).next (below_box (o := .cells #[.int .i64 b, .int .i64 m, .int .i64 0, .slice A31 n c31] 34))); have MB_1 := Lib.hid ((MB_0.out.next h8).next (below_box (o := .cells #[.int .i64 b, .int .i64 m, .int .i64 0, .slice A31 n c31] 34))); have LM_1 := Lib.hid ((LM_0.out.next h8).next (below_box (o := .cells #[.int .i64 b, .int .i64 m, .int .i64 0, .slice A31 n c31] 34))); have OB_0 := Lib.hid (BxT.new w8 #[.int .i64 b, .int .i64 m, .int .i64 0, .slice A31 n c31] 34); have LO_0 := Lib.hid (hl8.next (below_box (o := .cells #[.int .i64 b, .int .i64 m, .int .i64 0, .slice A31 n c31] 34))); clear hl8; obtain ⟨m0, m1, m2, m3⟩ := (Bx.new w8 #[.int .i64 b, .int .i64 m, .int .i64 k, .slice A31 n c31] 34).c4; obtain ⟨m4, m5, m6, m7⟩ := (Bx.new w8 #[.int .i64 b, .int .i64 m, .int .i64 k, .slice A31 n c31] 34).f4; clear TC_2 BF_2 LY_2 SZ_2 RP_2 JB_2 SN_1 MB_0 LM_0 h8; obtain ⟨x0, x1, x2, x3⟩ := And.intro RP_3.out.h0 (And.intro RP_3.out.h1 (And.intro RP_3.out.h2 RP_3.out.h3)); obtain ⟨d0, d1, d2, d3⟩ := JB_3.out.box.bx.c4; simp only [RowV.val] at d0 d1 d2 d3; obtain ⟨r0, r1, r2, r3⟩ := MB_1.out.bx.c4; obtain ⟨o0, o1, o2, o3⟩ := OB_0.out.bx.c4)))
                have HA : Hid (∀ W, Below (w8.alloc (.cells #[.int .i64 b, .int .i64 m, .int .i64 0, .slice A31 n c31] 34)).heap.size (w8.alloc (.cells #[.int .i64 b, .int .i64 m, .int .i64 0, .slice A31 n c31] 34)) W → (W.cell? ⟨w7.heap.size, 0, none⟩ = some (.int .i64 b) ∧ W.cell? ⟨w7.heap.size, 1, none⟩ = some (.int .i64 m) ∧ W.cell? ⟨w7.heap.size, 2, none⟩ = some (.int .i64 0) ∧ W.cell? ⟨w7.heap.size, 3, none⟩ = some (.slice A30 n c30)) ∧ (W.cell? ⟨w8.heap.size, 0, none⟩ = some (.int .i64 b) ∧ W.cell? ⟨w8.heap.size, 1, none⟩ = some (.int .i64 m) ∧ W.cell? ⟨w8.heap.size, 2, none⟩ = some (.int .i64 0) ∧ W.cell? ⟨w8.heap.size, 3, none⟩ = some (.slice A31 n c31)) ∧ LI W A30 c30 n l ∧ LI W A31 c31 n l) := Lib.hid fun W hW => ⟨(MB_1.out.next hW).bx.c4, (OB_0.out.next hW).bx.c4, LM_1.out.next hW, LO_0.out.next hW⟩
                clear x0 x1 x2 x3 d0 d1 d2 d3 r0 r1 r2 r3 o0 o1 o2 o3 m0 m1 m2 m3 m4 m5 m6 m7
                refine Slot.wp_region_slots (TrnG0 w7.heap.size w8.heap.size gs cs gn cn i n b m sq l A30 A31 c30 c31) (by kernel_rfl) (by kernel_rfl) (by kernel_rfl) (by kernel_rfl) (fun kk vv W W' _ h hb => TrnG0_next w7.heap.size w8.heap.size gs cs gn cn i n b m sq l A30 A31 c30 c31 kk vv W W' h hb) ?_ ?_
                · intro ii o x W K fr ho hB hd sl hbs hK
                  have HX := Lib.hid (HA.out W hB)
                  match ii, ho with
                  | 0, ho =>
                    obtain rfl := Option.some.inj ho
                    refine Slot.op_go ho rfl ?_
                    exact Slot.wp_value (Slot.run_move rfl (Slot.eval_at ((hbs 11 (Slot.off_of (by kernel_rfl))).trans rfl))) (hK _ _ (Below.refl _ _) rfl)
                  | 1, ho =>
                    obtain rfl := Option.some.inj ho
                    refine Slot.op_go ho rfl ?_
                    have e0 : x 0 = .bool true := hd ⟨0, .data⟩ (by simp) rfl
                    exact Slot.wp_value (TrnG0_r1 fr.eval _ W w7.heap.size w8.heap.size gs cs gn cn i n b m sq l A30 A31 c30 c31  rfl (Slot.eval_at ((sl 0 _ 64 rfl rfl).trans (congrArg some e0)))) (hK _ _ (Below.refl _ _) rfl)
                  | 2, ho =>
                    obtain rfl := Option.some.inj ho
                    refine Slot.op_go ho rfl ?_
                    have e1 : x 1 = .bool false := hd ⟨1, .data⟩ (by simp) rfl
                    exact Slot.wp_value (Slot.run_move rfl (Slot.eval_at ((sl 1 _ 65 rfl rfl).trans (congrArg some e1)))) (hK _ _ (Below.refl _ _) rfl)
                  | 3, ho =>
                    obtain rfl := Option.some.inj ho
                    have e2 : x 2 = .bool false := hd ⟨2, .guard⟩ (by simp) rfl
                    refine Slot.op_if ho rfl rfl rfl ((sl 2 _ 66 rfl rfl).trans (congrArg some e2)) ?_
                    exact Slot.wp_value (Slot.run_move rfl (Slot.eval_at ((hbs 10 (Slot.off_of (by kernel_rfl))).trans rfl))) (hK _ _ (Below.refl _ _) rfl)
                  | 4, ho =>
                    obtain rfl := Option.some.inj ho
                    have e2 : x 2 = .bool false := hd ⟨2, .guard⟩ (by simp) rfl
                    refine Slot.op_if ho rfl rfl rfl ((sl 2 _ 66 rfl rfl).trans (congrArg some e2)) ?_
                    exact Slot.wp_value (Slot.run_move rfl (Slot.eval_at ((hbs 5 (Slot.off_of (by kernel_rfl))).trans rfl))) (hK _ _ (Below.refl _ _) rfl)
                  | 5, ho =>
                    obtain rfl := Option.some.inj ho
                    have e2 : x 2 = .bool false := hd ⟨2, .guard⟩ (by simp) rfl
                    refine Slot.op_if ho rfl rfl rfl ((sl 2 _ 66 rfl rfl).trans (congrArg some e2)) ?_
                    have e4 : x 4 = .int .i64 ↑i := hd ⟨4, .data⟩ (by simp) rfl
                    exact Slot.wp_value (TrnG0_r5 fr.eval _ W w7.heap.size w8.heap.size gs cs gn cn i n b m sq l A30 A31 c30 c31  rfl (Slot.eval_at ((sl 4 _ 68 rfl rfl).trans (congrArg some e4))) (u1)) (hK _ _ (Below.refl _ _) rfl)
                  | 6, ho =>
                    obtain rfl := Option.some.inj ho
                    have e2 : x 2 = .bool false := hd ⟨2, .guard⟩ (by simp) rfl
                    refine Slot.op_if ho rfl rfl rfl ((sl 2 _ 66 rfl rfl).trans (congrArg some e2)) ?_
                    have e5 : x 5 = .int .u64 ↑i := hd ⟨5, .data⟩ (by simp) rfl
                    exact Slot.wp_value (TrnG0_r6 fr.eval _ W w7.heap.size w8.heap.size gs cs gn cn i n b m sq l A30 A31 c30 c31  rfl (Slot.eval_at ((sl 5 _ 69 rfl rfl).trans (congrArg some e5))) rfl (u2)) (hK _ _ (Below.refl _ _) rfl)
                  | 7, ho =>
                    obtain rfl := Option.some.inj ho
                    have e2 : x 2 = .bool false := hd ⟨2, .guard⟩ (by simp) rfl
                    refine Slot.op_if ho rfl rfl rfl ((sl 2 _ 66 rfl rfl).trans (congrArg some e2)) ?_
                    have e3 : x 3 = .int .u64 sq := hd ⟨3, .data⟩ (by simp) rfl
                    have e6 : x 6 = .int .u64 sq := hd ⟨6, .data⟩ (by simp) rfl
                    exact Slot.wp_value (TrnG0_r7 fr.eval _ W w7.heap.size w8.heap.size gs cs gn cn i n b m sq l A30 A31 c30 c31  rfl (Slot.eval_at ((sl 3 _ 67 rfl rfl).trans (congrArg some e3))) (Slot.eval_at ((sl 6 _ 70 rfl rfl).trans (congrArg some e6)))) (hK _ _ (Below.refl _ _) rfl)
                  | 8, ho =>
                    obtain rfl := Option.some.inj ho
                    refine Slot.op_go ho rfl ?_
                    have e7 : x 7 = .bool false := hd ⟨7, .data⟩ (by simp) rfl
                    have e2 : x 2 = .bool false := hd ⟨2, .data⟩ (by simp) rfl
                    exact Slot.wp_value (Slot.run_pick rfl (Slot.eval_at ((sl 2 _ 66 rfl rfl).trans (congrArg some e2))) ((if_neg Bool.false_ne_true).trans (Slot.eval_at ((sl 7 _ 71 rfl rfl).trans (congrArg some e7))))) (hK _ _ (Below.refl _ _) rfl)
                  | 9, ho =>
                    obtain rfl := Option.some.inj ho
                    refine Slot.op_go ho rfl ?_
                    have e8 : x 8 = .bool false := hd ⟨8, .data⟩ (by simp) rfl
                    exact Slot.wp_value (Slot.run_move rfl (Slot.eval_at ((sl 8 _ 72 rfl rfl).trans (congrArg some e8)))) (hK _ _ (Below.refl _ _) rfl)
                  | 10, ho =>
                    obtain rfl := Option.some.inj ho
                    have e9 : x 9 = .bool false := hd ⟨9, .guard⟩ (by simp) rfl
                    refine Slot.op_if ho rfl rfl rfl ((sl 9 _ 73 rfl rfl).trans (congrArg some e9)) ?_
                    exact Slot.wp_value (TrnG0_r10 fr.eval _ W w7.heap.size w8.heap.size gs cs gn cn i n b m sq l A30 A31 c30 c31  rfl (Slot.eval_at ((hbs 9 (Slot.off_of (by kernel_rfl))).trans rfl)) (HX.out.1.1) (HX.out.1.2.1) (HX.out.1.2.2.1) (HX.out.1.2.2.2)) (hK _ _ (Below.refl _ _) rfl)
                  | 11, ho =>
                    obtain rfl := Option.some.inj ho
                    have e9 : x 9 = .bool false := hd ⟨9, .chain⟩ (by simp) rfl
                    refine Slot.op_if ho rfl rfl rfl ((sl 9 _ 73 rfl rfl).trans (congrArg some e9)) ?_
                    have e10 : x 10 = .agg #[.int .i64 b, .int .i64 m, .int .i64 0, .slice A30 n c30] := hd ⟨10, .data⟩ (by simp) rfl
                    have s0 : fr.eval (Operand.tmp 74) = .agg #[.int .i64 b, .int .i64 m, .int .i64 0, .slice A30 n c30] := (Slot.eval_at ((sl 10 _ 74 rfl rfl).trans (congrArg some e10)))
                    have ha : (#[fr.eval (Operand.tmp 74)] : Array Value) = #[.agg #[.int .i64 b, .int .i64 m, .int .i64 0, .slice A30 n c30]] := by rw [s0]
                    refine Slot.wp_call (f := 15) (by kernel_rfl) ha (of_at HX.out.2.2.1 HN.out b m 0) ?_
                    rintro e w2' ⟨A', c', rfl, h1, h2⟩
                    have hG : GV (.agg #[.int .i64 b, .int .i64 m, .int .i64 0, .slice A' n c']) w2' b m 0 n l := ⟨A', c', rfl, h1⟩
                    exact ⟨_, rfl, hK _ _ h2 hG⟩
                  | 12, ho =>
                    obtain rfl := Option.some.inj ho
                    have e9 : x 9 = .bool false := hd ⟨9, .guard⟩ (by simp) rfl
                    refine Slot.op_if ho rfl rfl rfl ((sl 9 _ 73 rfl rfl).trans (congrArg some e9)) ?_
                    exact Slot.wp_value (TrnG0_r12 fr.eval _ W w7.heap.size w8.heap.size gs cs gn cn i n b m sq l A30 A31 c30 c31  rfl (Slot.eval_at ((hbs 12 (Slot.off_of (by kernel_rfl))).trans rfl)) (HX.out.2.1.1) (HX.out.2.1.2.1) (HX.out.2.1.2.2.1) (HX.out.2.1.2.2.2)) (hK _ _ (Below.refl _ _) rfl)
                  | 13, ho =>
                    obtain rfl := Option.some.inj ho
                    have e9 : x 9 = .bool false := hd ⟨9, .guard⟩ (by simp) rfl
                    refine Slot.op_if ho rfl rfl rfl ((sl 9 _ 73 rfl rfl).trans (congrArg some e9)) ?_
                    obtain ⟨A84, c84, e11, hl84⟩ := (hd ⟨11, .data⟩ (by simp) rfl : GV (x 11) W b m 0 n l)
                    have e12 : x 12 = .agg #[.int .i64 b, .int .i64 m, .int .i64 0, .slice A31 n c31] := hd ⟨12, .data⟩ (by simp) rfl
                    have s0 : fr.eval (Operand.tmp 75) = .agg #[.int .i64 b, .int .i64 m, .int .i64 0, .slice A84 n c84] := (Slot.eval_at ((sl 11 _ 75 rfl rfl).trans (congrArg some e11)))
                    have s1 : fr.eval (Operand.tmp 76) = .agg #[.int .i64 b, .int .i64 m, .int .i64 0, .slice A31 n c31] := (Slot.eval_at ((sl 12 _ 76 rfl rfl).trans (congrArg some e12)))
                    have ha : (#[fr.eval (Operand.tmp 75), fr.eval (Operand.tmp 76)] : Array Value) = #[.agg #[.int .i64 b, .int .i64 m, .int .i64 0, .slice A84 n c84], .agg #[.int .i64 b, .int .i64 m, .int .i64 0, .slice A31 n c31]] := by rw [s0, s1]
                    refine Slot.wp_call (f := 16) (by kernel_rfl) ha (same_at hl84 HX.out.2.2.2 HN.out b m 0) ?_
                    rintro e w2 ⟨rfl, h1⟩
                    exact ⟨_, rfl, hK _ _ h1 rfl⟩
                  | 14, ho =>
                    obtain rfl := Option.some.inj ho
                    have e9 : x 9 = .bool false := hd ⟨9, .guard⟩ (by simp) rfl
                    refine Slot.op_if ho rfl rfl rfl ((sl 9 _ 73 rfl rfl).trans (congrArg some e9)) ?_
                    have e13 : x 13 = .bool true := hd ⟨13, .data⟩ (by simp) rfl
                    exact Slot.wp_value (TrnG0_r14 fr.eval _ W w7.heap.size w8.heap.size gs cs gn cn i n b m sq l A30 A31 c30 c31  rfl (Slot.eval_at ((sl 13 _ 77 rfl rfl).trans (congrArg some e13)))) (hK _ _ (Below.refl _ _) rfl)
                  | 15, ho =>
                    obtain rfl := Option.some.inj ho
                    refine Slot.op_go ho rfl ?_
                    have e14 : x 14 = .bool false := hd ⟨14, .data⟩ (by simp) rfl
                    have e9 : x 9 = .bool false := hd ⟨9, .data⟩ (by simp) rfl
                    exact Slot.wp_value (Slot.run_pick rfl (Slot.eval_at ((sl 9 _ 73 rfl rfl).trans (congrArg some e9))) ((if_neg Bool.false_ne_true).trans (Slot.eval_at ((sl 14 _ 78 rfl rfl).trans (congrArg some e14))))) (hK _ _ (Below.refl _ _) rfl)
                  | 16, ho =>
                    obtain rfl := Option.some.inj ho
                    refine Slot.op_go ho rfl ?_
                    have e15 : x 15 = .bool false := hd ⟨15, .data⟩ (by simp) rfl
                    exact Slot.wp_value (Slot.run_move rfl (Slot.eval_at ((sl 15 _ 79 rfl rfl).trans (congrArg some e15)))) (hK _ _ (Below.refl _ _) rfl)
                  | 17, ho =>
                    obtain rfl := Option.some.inj ho
                    have e16 : x 16 = .bool false := hd ⟨16, .guard⟩ (by simp) rfl
                    refine Slot.op_if ho rfl rfl rfl ((sl 16 _ 80 rfl rfl).trans (congrArg some e16)) ?_
                    exact Slot.wp_value (Slot.run_move rfl (Slot.eval_at ((hbs 7 (Slot.off_of (by kernel_rfl))).trans rfl))) (hK _ _ (Below.refl _ _) rfl)
                  | 18, ho =>
                    obtain rfl := Option.some.inj ho
                    have e16 : x 16 = .bool false := hd ⟨16, .guard⟩ (by simp) rfl
                    refine Slot.op_if ho rfl rfl rfl ((sl 16 _ 80 rfl rfl).trans (congrArg some e16)) ?_
                    have e17 : x 17 = .slice (some ⟨gs, 0, none⟩) 2 cs := hd ⟨17, .data⟩ (by simp) rfl
                    exact Slot.wp_value (TrnG0_r18 fr.eval _ W w7.heap.size w8.heap.size gs cs gn cn i n b m sq l A30 A31 c30 c31  rfl (Slot.eval_at ((sl 17 _ 81 rfl rfl).trans (congrArg some e17)))) (hK _ _ (Below.refl _ _) rfl)
                  | 19, ho =>
                    obtain rfl := Option.some.inj ho
                    have e16 : x 16 = .bool false := hd ⟨16, .guard⟩ (by simp) rfl
                    refine Slot.op_if ho rfl rfl rfl ((sl 16 _ 80 rfl rfl).trans (congrArg some e16)) ?_
                    have e18 : x 18 = .int .i64 2 := hd ⟨18, .data⟩ (by simp) rfl
                    exact Slot.wp_value (TrnG0_r19 fr.eval _ W w7.heap.size w8.heap.size gs cs gn cn i n b m sq l A30 A31 c30 c31  rfl (Slot.eval_at ((sl 18 _ 82 rfl rfl).trans (congrArg some e18))) rfl) (hK _ _ (Below.refl _ _) rfl)
                  | 20, ho =>
                    obtain rfl := Option.some.inj ho
                    refine Slot.op_go ho rfl ?_
                    have e19 : x 19 = .bool false := hd ⟨19, .data⟩ (by simp) rfl
                    have e16 : x 16 = .bool false := hd ⟨16, .data⟩ (by simp) rfl
                    exact Slot.wp_value (Slot.run_pick rfl (Slot.eval_at ((sl 16 _ 80 rfl rfl).trans (congrArg some e16))) ((if_neg Bool.false_ne_true).trans (Slot.eval_at ((sl 19 _ 83 rfl rfl).trans (congrArg some e19))))) (hK _ _ (Below.refl _ _) rfl)
                  | 21, ho =>
                    obtain rfl := Option.some.inj ho
                    refine Slot.op_go ho rfl ?_
                    have e20 : x 20 = .bool false := hd ⟨20, .data⟩ (by simp) rfl
                    exact Slot.wp_value (Slot.run_move rfl (Slot.eval_at ((sl 20 _ 84 rfl rfl).trans (congrArg some e20)))) (hK _ _ (Below.refl _ _) rfl)
                  | 22, ho =>
                    obtain rfl := Option.some.inj ho
                    have e21 : x 21 = .bool false := hd ⟨21, .guard⟩ (by simp) rfl
                    refine Slot.op_if ho rfl rfl rfl ((sl 21 _ 85 rfl rfl).trans (congrArg some e21)) ?_
                    exact Slot.wp_value (Slot.run_move rfl (Slot.eval_at ((hbs 8 (Slot.off_of (by kernel_rfl))).trans rfl))) (hK _ _ (Below.refl _ _) rfl)
                  | 23, ho =>
                    obtain rfl := Option.some.inj ho
                    have e21 : x 21 = .bool false := hd ⟨21, .guard⟩ (by simp) rfl
                    refine Slot.op_if ho rfl rfl rfl ((sl 21 _ 85 rfl rfl).trans (congrArg some e21)) ?_
                    have e22 : x 22 = .slice (some ⟨gn, 0, none⟩) 2 cn := hd ⟨22, .data⟩ (by simp) rfl
                    exact Slot.wp_value (TrnG0_r23 fr.eval _ W w7.heap.size w8.heap.size gs cs gn cn i n b m sq l A30 A31 c30 c31  rfl (Slot.eval_at ((sl 22 _ 86 rfl rfl).trans (congrArg some e22)))) (hK _ _ (Below.refl _ _) rfl)
                  | 24, ho =>
                    obtain rfl := Option.some.inj ho
                    have e21 : x 21 = .bool false := hd ⟨21, .guard⟩ (by simp) rfl
                    refine Slot.op_if ho rfl rfl rfl ((sl 21 _ 85 rfl rfl).trans (congrArg some e21)) ?_
                    have e23 : x 23 = .int .i64 2 := hd ⟨23, .data⟩ (by simp) rfl
                    exact Slot.wp_value (TrnG0_r24 fr.eval _ W w7.heap.size w8.heap.size gs cs gn cn i n b m sq l A30 A31 c30 c31  rfl (Slot.eval_at ((sl 23 _ 87 rfl rfl).trans (congrArg some e23))) rfl) (hK _ _ (Below.refl _ _) rfl)
                  | 25, ho =>
                    obtain rfl := Option.some.inj ho
                    refine Slot.op_go ho rfl ?_
                    have e24 : x 24 = .bool false := hd ⟨24, .data⟩ (by simp) rfl
                    have e21 : x 21 = .bool false := hd ⟨21, .data⟩ (by simp) rfl
                    exact Slot.wp_value (Slot.run_pick rfl (Slot.eval_at ((sl 21 _ 85 rfl rfl).trans (congrArg some e21))) ((if_neg Bool.false_ne_true).trans (Slot.eval_at ((sl 24 _ 88 rfl rfl).trans (congrArg some e24))))) (hK _ _ (Below.refl _ _) rfl)
                  | n + 26, ho => simp at ho
                · intro x W hB hx
                  have e25 : x 25 = .bool false := hx 25 (by simp)
                  simp only [Inv.fill, Act.put, List.setIfInBounds_toArray, List.set_cons_zero, List.set_cons_succ, e25]
                  clear hx e25
                  have TC_4 := Lib.hid (TC_3.out.next hB)
                  have BF_4 := Lib.hid (BF_3.out.next hB)
                  have LY_4 := Lib.hid (LY_3.out.next hB)
                  have SZ_4 := Lib.hid (SZ_3.out.next hB)
                  have RP_4 := Lib.hid (RP_3.out.next hB)
                  have JB_4 := Lib.hid (JB_3.out.next hB)
                  have SN_3 := Lib.hid (SN_2.out.next hB)
                  have MB_2 := Lib.hid (MB_1.out.next hB)
                  have LM_2 := Lib.hid (LM_1.out.next hB)
                  have OB_1 := Lib.hid (OB_0.out.next hB)
                  have LO_1 := Lib.hid (LO_0.out.next hB)
                  clear TC_3 BF_3 LY_3 SZ_3 RP_3 JB_3 SN_2 MB_1 LM_1 OB_0 LO_0
                  clear HA hB
                  have tk : IntKind.i64.wrap 0 = 0 := by first | rfl | decide
                  go_wp2
                  have HA : Hid (∀ W', Below W.heap.size W W' → SI W' gs cs ⟨A63, c63, q63⟩ ⟨A64, c64, q64⟩ ∧ SI W' gn cn ⟨A65, c65, q65⟩ ⟨A66, c66, q66⟩ ∧ C4 W' b1 (p1 + i * 4) (.int .i64 b) (.int .i64 m) (.int .i64 k) (.slice A n c) ∧ Tab W' ∧ LI W' A c n l) := Lib.hid fun W' hW => ⟨SZ_4.out.next hW, SN_3.out.next hW, RP_4.out.next hW, TC_4.out.next hW, LY_4.out.next hW⟩
                  have HQ : Hid ((q63 = z0 ∧ q64 = z1) ∧ (q65 = pq ∧ q66 = z1)) := Lib.hid ⟨HS5.out, HS6.out⟩
                  refine Slot.wp_region_slots (TrnH0 b1 p1 i len cap n gs cs gn cn b m k sq A A63 A64 A65 A66 c c63 c64 c65 c66 q63 q64 q65 q66 z0 z1 pq) (by kernel_rfl) (by kernel_rfl) (by kernel_rfl) (by kernel_rfl) (fun kk vv W W' _ h hb => TrnH0_next b1 p1 i len cap n gs cs gn cn b m k sq A A63 A64 A65 A66 c c63 c64 c65 c66 q63 q64 q65 q66 z0 z1 pq kk vv W W' h hb) ?_ ?_
                  · intro ii o x W K fr ho hB hd sl hbs hK
                    have HX := Lib.hid (HA.out W hB)
                    match ii, ho with
                    | 0, ho =>
                      obtain rfl := Option.some.inj ho
                      refine Slot.op_go ho rfl ?_
                      exact Slot.wp_value (Slot.run_move rfl (Slot.eval_at ((hbs 8 (Slot.off_of (by kernel_rfl))).trans rfl))) (hK _ _ (Below.refl _ _) rfl)
                    | 1, ho =>
                      obtain rfl := Option.some.inj ho
                      refine Slot.op_go ho rfl ?_
                      exact Slot.wp_value (Slot.run_move rfl (Slot.eval_at ((hbs 13 (Slot.off_of (by kernel_rfl))).trans rfl))) (hK _ _ (Below.refl _ _) rfl)
                    | 2, ho =>
                      obtain rfl := Option.some.inj ho
                      refine Slot.op_go ho rfl ?_
                      have e1 : x 1 = .int .i64 0 := hd ⟨1, .data⟩ (by simp) rfl
                      exact Slot.wp_value (TrnH0_r2 fr.eval _ W b1 p1 i len cap n gs cs gn cn b m k sq A A63 A64 A65 A66 c c63 c64 c65 c66 q63 q64 q65 q66 z0 z1 pq  rfl rfl (Slot.eval_at ((sl 1 _ 94 rfl rfl).trans (congrArg some e1)))) (hK _ _ (Below.refl _ _) rfl)
                    | 3, ho =>
                      obtain rfl := Option.some.inj ho
                      refine Slot.op_go ho rfl ?_
                      have e0 : x 0 = .slice (some ⟨gn, 0, none⟩) 2 cn := hd ⟨0, .data⟩ (by simp) rfl
                      have e2 : x 2 = .int .i64 1 := hd ⟨2, .data⟩ (by simp) rfl
                      exact Slot.wp_value (TrnH0_r3 fr.eval _ W b1 p1 i len cap n gs cs gn cn b m k sq A A63 A64 A65 A66 c c63 c64 c65 c66 q63 q64 q65 q66 z0 z1 pq  rfl (Slot.eval_at ((sl 0 _ 93 rfl rfl).trans (congrArg some e0))) (Slot.eval_at ((sl 2 _ 95 rfl rfl).trans (congrArg some e2)))) (hK _ _ (Below.refl _ _) rfl)
                    | 4, ho =>
                      obtain rfl := Option.some.inj ho
                      refine Slot.op_go ho rfl ?_
                      have e3 : x 3 = .pointer (some ⟨gn, 1, none⟩) := hd ⟨3, .data⟩ (by simp) rfl
                      exact Slot.wp_value (TrnH0_r4 fr.eval _ W b1 p1 i len cap n gs cs gn cn b m k sq A A63 A64 A65 A66 c c63 c64 c65 c66 q63 q64 q65 q66 z0 z1 pq  rfl (Slot.eval_at ((sl 3 _ 96 rfl rfl).trans (congrArg some e3))) (HX.out.2.1.h1)) (hK _ _ (Below.refl _ _) rfl)
                    | 5, ho =>
                      obtain rfl := Option.some.inj ho
                      refine Slot.op_go ho rfl ?_
                      have e4 : x 4 = .slice A66 q66.length c66 := hd ⟨4, .data⟩ (by simp) rfl
                      exact Slot.wp_value (Slot.run_convert rfl (Slot.eval_at ((sl 4 _ 97 rfl rfl).trans (congrArg some e4))) (conv_row0 HX.out.2.1.t1 HQ.out.2.2)) (hK _ _ (Below.refl _ _) rfl)
                    | 6, ho =>
                      obtain rfl := Option.some.inj ho
                      refine Slot.op_go ho rfl ?_
                      exact Slot.wp_value (Slot.run_move rfl (Slot.eval_at ((hbs 7 (Slot.off_of (by kernel_rfl))).trans rfl))) (hK _ _ (Below.refl _ _) rfl)
                    | 7, ho =>
                      obtain rfl := Option.some.inj ho
                      refine Slot.op_go ho rfl ?_
                      exact Slot.wp_value (Slot.run_move rfl (Slot.eval_at ((hbs 13 (Slot.off_of (by kernel_rfl))).trans rfl))) (hK _ _ (Below.refl _ _) rfl)
                    | 8, ho =>
                      obtain rfl := Option.some.inj ho
                      refine Slot.op_go ho rfl ?_
                      have e7 : x 7 = .int .i64 0 := hd ⟨7, .data⟩ (by simp) rfl
                      exact Slot.wp_value (TrnH0_r8 fr.eval _ W b1 p1 i len cap n gs cs gn cn b m k sq A A63 A64 A65 A66 c c63 c64 c65 c66 q63 q64 q65 q66 z0 z1 pq  rfl rfl (Slot.eval_at ((sl 7 _ 100 rfl rfl).trans (congrArg some e7)))) (hK _ _ (Below.refl _ _) rfl)
                    | 9, ho =>
                      obtain rfl := Option.some.inj ho
                      refine Slot.op_go ho rfl ?_
                      have e6 : x 6 = .slice (some ⟨gs, 0, none⟩) 2 cs := hd ⟨6, .data⟩ (by simp) rfl
                      have e8 : x 8 = .int .i64 1 := hd ⟨8, .data⟩ (by simp) rfl
                      exact Slot.wp_value (TrnH0_r9 fr.eval _ W b1 p1 i len cap n gs cs gn cn b m k sq A A63 A64 A65 A66 c c63 c64 c65 c66 q63 q64 q65 q66 z0 z1 pq  rfl (Slot.eval_at ((sl 6 _ 99 rfl rfl).trans (congrArg some e6))) (Slot.eval_at ((sl 8 _ 101 rfl rfl).trans (congrArg some e8)))) (hK _ _ (Below.refl _ _) rfl)
                    | 10, ho =>
                      obtain rfl := Option.some.inj ho
                      refine Slot.op_go ho rfl ?_
                      have e9 : x 9 = .pointer (some ⟨gs, 1, none⟩) := hd ⟨9, .data⟩ (by simp) rfl
                      exact Slot.wp_value (TrnH0_r10 fr.eval _ W b1 p1 i len cap n gs cs gn cn b m k sq A A63 A64 A65 A66 c c63 c64 c65 c66 q63 q64 q65 q66 z0 z1 pq  rfl (Slot.eval_at ((sl 9 _ 102 rfl rfl).trans (congrArg some e9))) (HX.out.1.h1)) (hK _ _ (Below.refl _ _) rfl)
                    | 11, ho =>
                      obtain rfl := Option.some.inj ho
                      refine Slot.op_go ho rfl ?_
                      have e10 : x 10 = .slice A64 q64.length c64 := hd ⟨10, .data⟩ (by simp) rfl
                      exact Slot.wp_value (Slot.run_convert rfl (Slot.eval_at ((sl 10 _ 103 rfl rfl).trans (congrArg some e10))) (conv_row0 HX.out.1.t1 HQ.out.1.2)) (hK _ _ (Below.refl _ _) rfl)
                    | 12, ho =>
                      obtain rfl := Option.some.inj ho
                      refine Slot.op_go ho rfl ?_
                      have e5 : x 5 = .string (strOfNums z1) := hd ⟨5, .data⟩ (by simp) rfl
                      have e11 : x 11 = .string (strOfNums z1) := hd ⟨11, .data⟩ (by simp) rfl
                      exact Slot.wp_value (TrnH0_r12 fr.eval _ W b1 p1 i len cap n gs cs gn cn b m k sq A A63 A64 A65 A66 c c63 c64 c65 c66 q63 q64 q65 q66 z0 z1 pq  rfl (Slot.eval_at ((sl 5 _ 98 rfl rfl).trans (congrArg some e5))) (Slot.eval_at ((sl 11 _ 104 rfl rfl).trans (congrArg some e11)))) (hK _ _ (Below.refl _ _) rfl)
                    | 13, ho =>
                      obtain rfl := Option.some.inj ho
                      refine Slot.op_go ho rfl ?_
                      have e12 : x 12 = .bool false := hd ⟨12, .data⟩ (by simp) rfl
                      exact Slot.wp_value (Slot.run_move rfl (Slot.eval_at ((sl 12 _ 105 rfl rfl).trans (congrArg some e12)))) (hK _ _ (Below.refl _ _) rfl)
                    | 14, ho =>
                      obtain rfl := Option.some.inj ho
                      have e13 : x 13 = .bool false := hd ⟨13, .guard⟩ (by simp) rfl
                      refine Slot.op_if ho rfl rfl rfl ((sl 13 _ 106 rfl rfl).trans (congrArg some e13)) ?_
                      exact Slot.wp_value (Slot.run_move rfl (Slot.eval_at ((hbs 8 (Slot.off_of (by kernel_rfl))).trans rfl))) (hK _ _ (Below.refl _ _) rfl)
                    | 15, ho =>
                      obtain rfl := Option.some.inj ho
                      have e13 : x 13 = .bool false := hd ⟨13, .guard⟩ (by simp) rfl
                      refine Slot.op_if ho rfl rfl rfl ((sl 13 _ 106 rfl rfl).trans (congrArg some e13)) ?_
                      exact Slot.wp_value (Slot.run_move rfl (Slot.eval_at ((hbs 13 (Slot.off_of (by kernel_rfl))).trans rfl))) (hK _ _ (Below.refl _ _) rfl)
                    | 16, ho =>
                      obtain rfl := Option.some.inj ho
                      have e13 : x 13 = .bool false := hd ⟨13, .guard⟩ (by simp) rfl
                      refine Slot.op_if ho rfl rfl rfl ((sl 13 _ 106 rfl rfl).trans (congrArg some e13)) ?_
                      have e14 : x 14 = .slice (some ⟨gn, 0, none⟩) 2 cn := hd ⟨14, .data⟩ (by simp) rfl
                      have e15 : x 15 = .int .i64 0 := hd ⟨15, .data⟩ (by simp) rfl
                      exact Slot.wp_value (TrnH0_r16 fr.eval _ W b1 p1 i len cap n gs cs gn cn b m k sq A A63 A64 A65 A66 c c63 c64 c65 c66 q63 q64 q65 q66 z0 z1 pq  rfl (Slot.eval_at ((sl 14 _ 107 rfl rfl).trans (congrArg some e14))) (Slot.eval_at ((sl 15 _ 108 rfl rfl).trans (congrArg some e15)))) (hK _ _ (Below.refl _ _) rfl)
                    | 17, ho =>
                      obtain rfl := Option.some.inj ho
                      have e13 : x 13 = .bool false := hd ⟨13, .guard⟩ (by simp) rfl
                      refine Slot.op_if ho rfl rfl rfl ((sl 13 _ 106 rfl rfl).trans (congrArg some e13)) ?_
                      have e16 : x 16 = .pointer (some ⟨gn, 0, none⟩) := hd ⟨16, .data⟩ (by simp) rfl
                      exact Slot.wp_value (TrnH0_r17 fr.eval _ W b1 p1 i len cap n gs cs gn cn b m k sq A A63 A64 A65 A66 c c63 c64 c65 c66 q63 q64 q65 q66 z0 z1 pq  rfl (Slot.eval_at ((sl 16 _ 109 rfl rfl).trans (congrArg some e16))) (HX.out.2.1.h0)) (hK _ _ (Below.refl _ _) rfl)
                    | 18, ho =>
                      obtain rfl := Option.some.inj ho
                      have e13 : x 13 = .bool false := hd ⟨13, .guard⟩ (by simp) rfl
                      refine Slot.op_if ho rfl rfl rfl ((sl 13 _ 106 rfl rfl).trans (congrArg some e13)) ?_
                      have e17 : x 17 = .slice A65 q65.length c65 := hd ⟨17, .data⟩ (by simp) rfl
                      exact Slot.wp_value (Slot.run_convert rfl (Slot.eval_at ((sl 17 _ 110 rfl rfl).trans (congrArg some e17))) (conv_row0 HX.out.2.1.t0 HQ.out.2.1)) (hK _ _ (Below.refl _ _) rfl)
                    | 19, ho =>
                      obtain rfl := Option.some.inj ho
                      have e13 : x 13 = .bool false := hd ⟨13, .guard⟩ (by simp) rfl
                      refine Slot.op_if ho rfl rfl rfl ((sl 13 _ 106 rfl rfl).trans (congrArg some e13)) ?_
                      exact Slot.wp_value (Slot.run_move rfl (Slot.eval_at ((hbs 0 (Slot.off_of (by kernel_rfl))).trans rfl))) (hK _ _ (Below.refl _ _) rfl)
                    | 20, ho =>
                      obtain rfl := Option.some.inj ho
                      have e13 : x 13 = .bool false := hd ⟨13, .guard⟩ (by simp) rfl
                      refine Slot.op_if ho rfl rfl rfl ((sl 13 _ 106 rfl rfl).trans (congrArg some e13)) ?_
                      exact Slot.wp_value (Slot.run_move rfl (Slot.eval_at ((hbs 5 (Slot.off_of (by kernel_rfl))).trans rfl))) (hK _ _ (Below.refl _ _) rfl)
                    | 21, ho =>
                      obtain rfl := Option.some.inj ho
                      have e13 : x 13 = .bool false := hd ⟨13, .guard⟩ (by simp) rfl
                      refine Slot.op_if ho rfl rfl rfl ((sl 13 _ 106 rfl rfl).trans (congrArg some e13)) ?_
                      have e19 : x 19 = .slice (some ⟨b1, p1, none⟩) len cap := hd ⟨19, .data⟩ (by simp) rfl
                      have e20 : x 20 = .int .i64 ↑i := hd ⟨20, .data⟩ (by simp) rfl
                      exact Slot.wp_value (TrnH0_r21 fr.eval _ W b1 p1 i len cap n gs cs gn cn b m k sq A A63 A64 A65 A66 c c63 c64 c65 c66 q63 q64 q65 q66 z0 z1 pq  rfl (Slot.eval_at ((sl 19 _ 112 rfl rfl).trans (congrArg some e19))) (Slot.eval_at ((sl 20 _ 113 rfl rfl).trans (congrArg some e20))) (i1)) (hK _ _ (Below.refl _ _) rfl)
                    | 22, ho =>
                      obtain rfl := Option.some.inj ho
                      have e13 : x 13 = .bool false := hd ⟨13, .guard⟩ (by simp) rfl
                      refine Slot.op_if ho rfl rfl rfl ((sl 13 _ 106 rfl rfl).trans (congrArg some e13)) ?_
                      have e21 : x 21 = .pointer (some ⟨b1, p1 + i * 4, none⟩) := hd ⟨21, .data⟩ (by simp) rfl
                      exact Slot.wp_value (TrnH0_r22 fr.eval _ W b1 p1 i len cap n gs cs gn cn b m k sq A A63 A64 A65 A66 c c63 c64 c65 c66 q63 q64 q65 q66 z0 z1 pq  rfl (Slot.eval_at ((sl 21 _ 114 rfl rfl).trans (congrArg some e21))) (HX.out.2.2.1.h0) (HX.out.2.2.1.h1) (HX.out.2.2.1.h2) (HX.out.2.2.1.h3)) (hK _ _ (Below.refl _ _) rfl)
                    | 23, ho =>
                      obtain rfl := Option.some.inj ho
                      have e13 : x 13 = .bool false := hd ⟨13, .guard⟩ (by simp) rfl
                      refine Slot.op_if ho rfl rfl rfl ((sl 13 _ 106 rfl rfl).trans (congrArg some e13)) ?_
                      exact Slot.wp_value (Slot.run_move rfl (Slot.eval_at ((hbs 10 (Slot.off_of (by kernel_rfl))).trans rfl))) (hK _ _ (Below.refl _ _) rfl)
                    | 24, ho =>
                      obtain rfl := Option.some.inj ho
                      have e13 : x 13 = .bool false := hd ⟨13, .chain⟩ (by simp) rfl
                      refine Slot.op_if ho rfl rfl rfl ((sl 13 _ 106 rfl rfl).trans (congrArg some e13)) ?_
                      have e22 : x 22 = .agg #[.int .i64 b, .int .i64 m, .int .i64 k, .slice A n c] := hd ⟨22, .data⟩ (by simp) rfl
                      have e23 : x 23 = .int .u64 sq := hd ⟨23, .data⟩ (by simp) rfl
                      have s0 : fr.eval (Operand.tmp 115) = .agg #[.int .i64 b, .int .i64 m, .int .i64 k, .slice A n c] := (Slot.eval_at ((sl 22 _ 115 rfl rfl).trans (congrArg some e22)))
                      have s1 : fr.eval (Operand.tmp 116) = .int .u64 sq := (Slot.eval_at ((sl 23 _ 116 rfl rfl).trans (congrArg some e23)))
                      have ha : (#[fr.eval (Operand.tmp 115), fr.eval (Operand.tmp 116)] : Array Value) = #[.agg #[.int .i64 b, .int .i64 m, .int .i64 k, .slice A n c], .int .u64 sq] := by rw [s0, s1]
                      refine Slot.wp_call (f := 13) (by kernel_rfl) ha (HP.out W HX.out.2.2.2.1 HX.out.2.2.2.2) ?_
                      rintro e w2' ⟨⟨A', c', q'⟩, rfl, ⟨h1, h2⟩, h3⟩
                      have hG : PS (.slice A' q'.length c') w2' pq := ⟨A', c', q', rfl, h1, h2⟩
                      exact ⟨_, rfl, hK _ _ h3 hG⟩
                    | 25, ho =>
                      obtain rfl := Option.some.inj ho
                      have e13 : x 13 = .bool false := hd ⟨13, .guard⟩ (by simp) rfl
                      refine Slot.op_if ho rfl rfl rfl ((sl 13 _ 106 rfl rfl).trans (congrArg some e13)) ?_
                      obtain ⟨A90, c90, q90, e24, hr90, hq90⟩ := (hd ⟨24, .data⟩ (by simp) rfl : PS (x 24) W pq)
                      exact Slot.wp_value (Slot.run_convert rfl (Slot.eval_at ((sl 24 _ 117 rfl rfl).trans (congrArg some e24))) (conv_row0 hr90 hq90)) (hK _ _ (Below.refl _ _) rfl)
                    | 26, ho =>
                      obtain rfl := Option.some.inj ho
                      have e13 : x 13 = .bool false := hd ⟨13, .guard⟩ (by simp) rfl
                      refine Slot.op_if ho rfl rfl rfl ((sl 13 _ 106 rfl rfl).trans (congrArg some e13)) ?_
                      have e18 : x 18 = .string (strOfNums pq) := hd ⟨18, .data⟩ (by simp) rfl
                      have e25 : x 25 = .string (strOfNums pq) := hd ⟨25, .data⟩ (by simp) rfl
                      exact Slot.wp_value (TrnH0_r26 fr.eval _ W b1 p1 i len cap n gs cs gn cn b m k sq A A63 A64 A65 A66 c c63 c64 c65 c66 q63 q64 q65 q66 z0 z1 pq  rfl (Slot.eval_at ((sl 18 _ 111 rfl rfl).trans (congrArg some e18))) (Slot.eval_at ((sl 25 _ 118 rfl rfl).trans (congrArg some e25)))) (hK _ _ (Below.refl _ _) rfl)
                    | 27, ho =>
                      obtain rfl := Option.some.inj ho
                      refine Slot.op_go ho rfl ?_
                      have e26 : x 26 = .bool false := hd ⟨26, .data⟩ (by simp) rfl
                      have e13 : x 13 = .bool false := hd ⟨13, .data⟩ (by simp) rfl
                      exact Slot.wp_value (Slot.run_pick rfl (Slot.eval_at ((sl 13 _ 106 rfl rfl).trans (congrArg some e13))) ((if_neg Bool.false_ne_true).trans (Slot.eval_at ((sl 26 _ 119 rfl rfl).trans (congrArg some e26))))) (hK _ _ (Below.refl _ _) rfl)
                    | n + 28, ho => simp at ho
                  · intro x W hB hx
                    have e27 : x 27 = .bool false := hx 27 (by simp)
                    simp only [Inv.fill, Act.put, List.setIfInBounds_toArray, List.set_cons_zero, List.set_cons_succ, e27]
                    clear hx e27
                    have TC_5 := Lib.hid (TC_4.out.next hB)
                    have BF_5 := Lib.hid (BF_4.out.next hB)
                    have LY_5 := Lib.hid (LY_4.out.next hB)
                    have SZ_5 := Lib.hid (SZ_4.out.next hB)
                    have RP_5 := Lib.hid (RP_4.out.next hB)
                    have JB_5 := Lib.hid (JB_4.out.next hB)
                    have SN_4 := Lib.hid (SN_3.out.next hB)
                    have MB_3 := Lib.hid (MB_2.out.next hB)
                    have LM_3 := Lib.hid (LM_2.out.next hB)
                    have OB_2 := Lib.hid (OB_1.out.next hB)
                    have LO_2 := Lib.hid (LO_1.out.next hB)
                    clear TC_4 BF_4 LY_4 SZ_4 RP_4 JB_4 SN_3 MB_2 LM_2 OB_1 LO_1
                    go_wp2
                    go_roundw
                    case rel => exact ⟨i + 1, _, _, _, congrArg (Value.int .i64) (show sq = ((i + 1 : Nat) : Int) by omega), by omega, Lib.hid ⟨BF_5.out.bel, JB_5.out, HB5.out.1, HB5.out.2.1, HE.out.1, HE.out.2.1, by rw [HE.out.2.2]; omega⟩⟩
                    case measure => simp [intOf]; omega
            · obtain ⟨v0, v1⟩ := t1 hp
              rw [v0, v1] at HW HLd HE
              have tm : sq.tmod 2 = 1 := by rw [Int.tmod_eq_emod_of_nonneg (by omega)]; exact hp
              clear t0 t1 hp v0 v1
              obtain ⟨d0, d1, d2, d3⟩ := JA_0.out.box.bx.c4
              obtain ⟨⟨A0, c0, q0⟩, ⟨A1, c1, q1⟩, ⟨A2, c2, q2⟩, ⟨A3, c3, q3⟩⟩ := jr
              simp only [RowV.val] at d0 d1 d2 d3
              go_wp2_with (first
                | (go_at_call 10; (refine (few_at LX_0.out b m k).mono ?_; rintro e w3 ⟨rfl, h3⟩; have TB_1 := Lib.hid (TB_0.out.next h3); have BE_1 := Lib.hid (BE_0.out.next h3); have RO_1 := Lib.hid (RO_0.out.next h3); have LX_1 := Lib.hid (LX_0.out.next h3); have JA_1 := Lib.hid (JA_0.out.next h3); rw [f1]; clear TB_0 BE_0 RO_0 LX_0 JA_0 h3; obtain ⟨x0, x1, x2, x3⟩ := And.intro RO_1.out.h0 (And.intro RO_1.out.h1 (And.intro RO_1.out.h2 RO_1.out.h3)); obtain ⟨d0, d1, d2, d3⟩ := JA_1.out.box.bx.c4; simp only [RowV.val] at d0 d1 d2 d3))
                | (go_at_call 25; (refine (check_at LX_1.out (by omega) b m k).mono ?_; rintro e w4 ⟨rfl, h4⟩; have TB_2 := Lib.hid (TB_1.out.next h4); have BE_2 := Lib.hid (BE_1.out.next h4); have RO_2 := Lib.hid (RO_1.out.next h4); have LX_2 := Lib.hid (LX_1.out.next h4); have JA_2 := Lib.hid (JA_1.out.next h4); rw [HM.out]; clear TB_1 BE_1 RO_1 LX_1 JA_1 h4; obtain ⟨x0, x1, x2, x3⟩ := And.intro RO_2.out.h0 (And.intro RO_2.out.h1 (And.intro RO_2.out.h2 RO_2.out.h3)); obtain ⟨d0, d1, d2, d3⟩ := JA_2.out.box.bx.c4; simp only [RowV.val] at d0 d1 d2 d3))
                | (go_at_call 20; (refine (slots_new z0 z1 q2 q3 ⟨⟨A0, c0, q0⟩, ⟨A1, c1, q1⟩, ⟨A2, c2, q2⟩, ⟨A3, c3, q3⟩⟩ JA_2.out.in_ ⟨HZ.out.1.1, HZ.out.1.2, rfl, rfl⟩).mono ?_; rintro e w5 ⟨gs, cs, ⟨A63, c63, q63⟩, ⟨A64, c64, q64⟩, rfl, hs5, hg5, hb5, h5⟩; have TB_3 := Lib.hid (TB_2.out.next h5); have BE_3 := Lib.hid (BE_2.out.next h5); have RO_3 := Lib.hid (RO_2.out.next h5); have LX_3 := Lib.hid (LX_2.out.next h5); have JA_3 := Lib.hid (JA_2.out.next h5); have SS_0 := Lib.hid hs5; have HS5 := Lib.hid hb5; have hne : gs ≠ w2.heap.size := (by have := (JA_2.out.box.bx.lt); omega); clear hb5 hs5 hg5; clear TB_2 BE_2 RO_2 LX_2 JA_2 h5; obtain ⟨x0, x1, x2, x3⟩ := And.intro RO_3.out.h0 (And.intro RO_3.out.h1 (And.intro RO_3.out.h2 RO_3.out.h3)); obtain ⟨d0, d1, d2, d3⟩ := JA_3.out.box.bx.c4; simp only [RowV.val] at d0 d1 d2 d3)))
              have HA : Hid (∀ W, Below w5.heap.size w5 W → (W.cell? ⟨w2.heap.size, 0, none⟩ = some (.slice A0 q0.length c0) ∧ W.cell? ⟨w2.heap.size, 1, none⟩ = some (.slice A1 q1.length c1) ∧ W.cell? ⟨w2.heap.size, 2, none⟩ = some (.slice A2 q2.length c2) ∧ W.cell? ⟨w2.heap.size, 3, none⟩ = some (.slice A3 q3.length c3)) ∧ (W.cell? ⟨b1, p1 + i * 4, none⟩ = some (.int .i64 b) ∧ W.cell? ⟨b1, p1 + i * 4 + 1, none⟩ = some (.int .i64 m) ∧ W.cell? ⟨b1, p1 + i * 4 + 2, none⟩ = some (.int .i64 k) ∧ W.cell? ⟨b1, p1 + i * 4 + 3, none⟩ = some (.slice A n c)) ∧ Tab W ∧ Jr.In W ⟨⟨A0, c0, q0⟩, ⟨A1, c1, q1⟩, ⟨A2, c2, q2⟩, ⟨A3, c3, q3⟩⟩ ∧ LI W A c n l) := Lib.hid fun W hW => ⟨(JA_3.out.next hW).box.bx.c4, ⟨(RO_3.out.next hW).h0, (RO_3.out.next hW).h1, (RO_3.out.next hW).h2, (RO_3.out.next hW).h3⟩, TB_3.out.next hW, (JA_3.out.next hW).in_, LX_3.out.next hW⟩
              refine Slot.wp_region_slotst 6 (TrnF1 w2.heap.size b1 p1 i len cap n b m k A A0 A1 A2 A3 c c0 c1 c2 c3 q0 q1 q2 q3 z0 z1 pq) (by kernel_rfl) (by kernel_rfl) (by kernel_rfl) (by kernel_rfl) (TrnF1_next w2.heap.size b1 p1 i len cap n b m k A A0 A1 A2 A3 c c0 c1 c2 c3 q0 q1 q2 q3 z0 z1 pq) ?_ ?_
              · intro ii o x W K fr hi ho hB hd sl hbs hK
                have HX := Lib.hid (HA.out W hB)
                match ii, ho with
                | 0, ho =>
                  obtain rfl := Option.some.inj ho
                  refine Slot.op_go ho rfl ?_
                  exact Slot.wp_value (TrnF1_r0 fr.eval _ W w2.heap.size b1 p1 i len cap n b m k A A0 A1 A2 A3 c c0 c1 c2 c3 q0 q1 q2 q3 z0 z1 pq  rfl (Slot.eval_at ((hbs 4 (Slot.off_of (by kernel_rfl))).trans rfl)) (HX.out.1.1) (HX.out.1.2.1) (HX.out.1.2.2.1) (HX.out.1.2.2.2)) (hK _ _ (Below.refl _ _) rfl)
                | 1, ho =>
                  obtain rfl := Option.some.inj ho
                  refine Slot.op_go ho rfl ?_
                  exact Slot.wp_value (Slot.run_move rfl (Slot.eval_at ((hbs 0 (Slot.off_of (by kernel_rfl))).trans rfl))) (hK _ _ (Below.refl _ _) rfl)
                | 2, ho =>
                  obtain rfl := Option.some.inj ho
                  refine Slot.op_go ho rfl ?_
                  exact Slot.wp_value (Slot.run_move rfl (Slot.eval_at ((hbs 5 (Slot.off_of (by kernel_rfl))).trans rfl))) (hK _ _ (Below.refl _ _) rfl)
                | 3, ho =>
                  obtain rfl := Option.some.inj ho
                  refine Slot.op_go ho rfl ?_
                  have e1 : x 1 = .slice (some ⟨b1, p1, none⟩) len cap := hd ⟨1, .data⟩ (by simp) rfl
                  have e2 : x 2 = .int .i64 ↑i := hd ⟨2, .data⟩ (by simp) rfl
                  exact Slot.wp_value (TrnF1_r3 fr.eval _ W w2.heap.size b1 p1 i len cap n b m k A A0 A1 A2 A3 c c0 c1 c2 c3 q0 q1 q2 q3 z0 z1 pq  rfl (Slot.eval_at ((sl 1 _ 45 rfl rfl).trans (congrArg some e1))) (Slot.eval_at ((sl 2 _ 46 rfl rfl).trans (congrArg some e2))) (i1)) (hK _ _ (Below.refl _ _) rfl)
                | 4, ho =>
                  obtain rfl := Option.some.inj ho
                  refine Slot.op_go ho rfl ?_
                  have e3 : x 3 = .pointer (some ⟨b1, p1 + i * 4, none⟩) := hd ⟨3, .data⟩ (by simp) rfl
                  exact Slot.wp_value (TrnF1_r4 fr.eval _ W w2.heap.size b1 p1 i len cap n b m k A A0 A1 A2 A3 c c0 c1 c2 c3 q0 q1 q2 q3 z0 z1 pq  rfl (Slot.eval_at ((sl 3 _ 47 rfl rfl).trans (congrArg some e3))) (HX.out.2.1.1) (HX.out.2.1.2.1) (HX.out.2.1.2.2.1) (HX.out.2.1.2.2.2)) (hK _ _ (Below.refl _ _) rfl)
                | 5, ho =>
                  obtain rfl := Option.some.inj ho
                  refine Slot.op_go ho rfl ?_
                  have e0 : x 0 = .agg #[.slice A0 q0.length c0, .slice A1 q1.length c1, .slice A2 q2.length c2, .slice A3 q3.length c3] := hd ⟨0, .data⟩ (by simp) rfl
                  have e4 : x 4 = .agg #[.int .i64 b, .int .i64 m, .int .i64 k, .slice A n c] := hd ⟨4, .data⟩ (by simp) rfl
                  have s0 : fr.eval (Operand.tmp 44) = .agg #[.slice A0 q0.length c0, .slice A1 q1.length c1, .slice A2 q2.length c2, .slice A3 q3.length c3] := (Slot.eval_at ((sl 0 _ 44 rfl rfl).trans (congrArg some e0)))
                  have s1 : fr.eval (Operand.tmp 48) = .agg #[.int .i64 b, .int .i64 m, .int .i64 k, .slice A n c] := (Slot.eval_at ((sl 4 _ 48 rfl rfl).trans (congrArg some e4)))
                  have ha : (#[fr.eval (Operand.tmp 44), fr.eval (Operand.tmp 48)] : Array Value) = #[.agg #[.slice A0 q0.length c0, .slice A1 q1.length c1, .slice A2 q2.length c2, .slice A3 q3.length c3], .agg #[.int .i64 b, .int .i64 m, .int .i64 k, .slice A n c]] := by rw [s0, s1]
                  refine Slot.wp_call (f := 23) (by kernel_rfl) ha (HW.out ⟨⟨A0, c0, q0⟩, ⟨A1, c1, q1⟩, ⟨A2, c2, q2⟩, ⟨A3, c3, q3⟩⟩ W HX.out.2.2.1 HX.out.2.2.2.1 HZ.out.1 HX.out.2.2.2.2) ?_
                  rintro e w2' ⟨j', rfl, h1, h2, h3⟩
                  have hG : JV j'.val w2' z0 pq z0 z1 := ⟨j', rfl, h1, h2⟩
                  exact ⟨_, rfl, hK _ _ h3 hG⟩
                | n + 6, ho => exact absurd hi (by omega)
              · intro x W hB hx
                obtain ⟨j5, e5, hi5, hb5⟩ := (hx 5 (by simp) : JV (x 5) W z0 pq z0 z1)
                simp only [Inv.fill, Act.put, List.setIfInBounds_toArray, List.set_cons_zero, List.set_cons_succ, List.take_succ_cons, List.take_zero, List.drop_succ_cons, List.drop_zero, e5]
                clear hx e5
                obtain ⟨⟨A20, c20, q20⟩, ⟨A21, c21, q21⟩, ⟨A22, c22, q22⟩, ⟨A23, c23, q23⟩⟩ := j5
                have hbx : BxT W w2.heap.size #[.slice A0 q0.length c0, .slice A1 q1.length c1, .slice A2 q2.length c2, .slice A3 q3.length c3] 45 := (JA_3.out.next hB).box
                have hW4 : Below w.heap.size w ((((W.setCell ⟨w2.heap.size, 0, none⟩ (.slice A20 q20.length c20)).setCell ⟨w2.heap.size, 1, none⟩ (.slice A21 q21.length c21)).setCell ⟨w2.heap.size, 2, none⟩ (.slice A22 q22.length c22)).setCell ⟨w2.heap.size, 3, none⟩ (.slice A23 q23.length c23)) := below4 (BE_3.out.next hB).bel hX _ _ _ _
                have JB_0 : Hid (JB ((((W.setCell ⟨w2.heap.size, 0, none⟩ (.slice A20 q20.length c20)).setCell ⟨w2.heap.size, 1, none⟩ (.slice A21 q21.length c21)).setCell ⟨w2.heap.size, 2, none⟩ (.slice A22 q22.length c22)).setCell ⟨w2.heap.size, 3, none⟩ (.slice A23 q23.length c23)) w2.heap.size ⟨⟨A20, c20, q20⟩, ⟨A21, c21, q21⟩, ⟨A22, c22, q22⟩, ⟨A23, c23, q23⟩⟩) := Lib.hid ⟨set4 hbx, in4 hi5 hbx (by decide) _ _ _ _⟩
                have ss0 := SS_0.out.next hB
                have SZ_0 : Hid (SI ((((W.setCell ⟨w2.heap.size, 0, none⟩ (.slice A20 q20.length c20)).setCell ⟨w2.heap.size, 1, none⟩ (.slice A21 q21.length c21)).setCell ⟨w2.heap.size, 2, none⟩ (.slice A22 q22.length c22)).setCell ⟨w2.heap.size, 3, none⟩ (.slice A23 q23.length c23)) gs cs ⟨A63, c63, q63⟩ ⟨A64, c64, q64⟩) := Lib.hid ((((ss0.set hbx (by decide) hne 0 _).set (hbx.set 0 _) (by decide) hne 1 _).set ((hbx.set 0 _).set 1 _) (by decide) hne 2 _).set (((hbx.set 0 _).set 1 _).set 2 _) (by decide) hne 3 _)
                have HB5 := Lib.hid hb5
                have TC_0 := Lib.hid (HT.out.next hW4)
                have BF_0 := Lib.hid (BW.mk hW4)
                have RP_0 := Lib.hid (hrow0.out.next hW4)
                have LY_0 := Lib.hid (hli0.out.next hW4)
                obtain ⟨k0', k1', k2', k3'⟩ := hbx.bx.c4
                obtain ⟨g0', g1', g2', g3'⟩ := hbx.bx.f4
                clear HA hb5 hi5 hbx hW4 ss0 hB x0 x1 x2 x3 d0 d1 d2 d3 TB_3 BE_3 RO_3 LX_3 JA_3 SS_0
                simp only [Jr.val, Jr.arr, RowV.val]
                change wpList _ _ _ _ _ _
                go_wp2_with (first
                  | (go_at_call 20; (refine (slots_si z0 pq z0 z1 ⟨⟨A20, c20, q20⟩, ⟨A21, c21, q21⟩, ⟨A22, c22, q22⟩, ⟨A23, c23, q23⟩⟩ JB_0.out.in_ HB5.out).mono ?_; rintro e w6 ⟨gn, cn, ⟨A65, c65, q65⟩, ⟨A66, c66, q66⟩, rfl, hs6, hb6, h6⟩; have TC_1 := Lib.hid (TC_0.out.next h6); have BF_1 := Lib.hid (BF_0.out.next h6); have LY_1 := Lib.hid (LY_0.out.next h6); have SZ_1 := Lib.hid (SZ_0.out.next h6); have RP_1 := Lib.hid (RP_0.out.next h6); have JB_1 := Lib.hid (JB_0.out.next h6); have SN_0 := Lib.hid hs6; have HS6 := Lib.hid hb6; clear hb6 hs6; clear TC_0 BF_0 LY_0 SZ_0 RP_0 JB_0 h6; obtain ⟨x0, x1, x2, x3⟩ := And.intro RP_1.out.h0 (And.intro RP_1.out.h1 (And.intro RP_1.out.h2 RP_1.out.h3)); obtain ⟨d0, d1, d2, d3⟩ := JB_1.out.box.bx.c4; simp only [RowV.val] at d0 d1 d2 d3))
                  | (go_at_call 18; (refine (HLd.out ⟨⟨A20, c20, q20⟩, ⟨A21, c21, q21⟩, ⟨A22, c22, q22⟩, ⟨A23, c23, q23⟩⟩ _ TC_1.out JB_1.out.in_ ⟨HB5.out.1, HB5.out.2.1⟩).mono ?_; rintro e w7 ⟨A30, c30, rfl, hl7, h7⟩; have TC_2 := Lib.hid ((TC_1.out.next h7).next (below_box (o := .cells #[.int .i64 b, .int .i64 m, .int .i64 0, .slice A30 n c30] 24))); have BF_2 := Lib.hid ((BF_1.out.next h7).next (below_box (o := .cells #[.int .i64 b, .int .i64 m, .int .i64 0, .slice A30 n c30] 24))); have LY_2 := Lib.hid ((LY_1.out.next h7).next (below_box (o := .cells #[.int .i64 b, .int .i64 m, .int .i64 0, .slice A30 n c30] 24))); have SZ_2 := Lib.hid ((SZ_1.out.next h7).next (below_box (o := .cells #[.int .i64 b, .int .i64 m, .int .i64 0, .slice A30 n c30] 24))); have RP_2 := Lib.hid ((RP_1.out.next h7).next (below_box (o := .cells #[.int .i64 b, .int .i64 m, .int .i64 0, .slice A30 n c30] 24))); have JB_2 := Lib.hid ((JB_1.out.next h7).next (below_box (o := .cells #[.int .i64 b, .int .i64 m, .int .i64 0, .slice A30 n c30] 24))); have SN_1 := Lib.hid ((SN_0.out.next h7).next (below_box (o := .cells #[.int .i64 b, .int .i64 m, .int .i64 0, .slice A30 n c30] 24))); have MB_0 := Lib.hid (BxT.new w7 #[.int .i64 b, .int .i64 m, .int .i64 0, .slice A30 n c30] 24); have LM_0 := Lib.hid (hl7.next (below_box (o := .cells #[.int .i64 b, .int .i64 m, .int .i64 0, .slice A30 n c30] 24))); clear hl7; clear TC_1 BF_1 LY_1 SZ_1 RP_1 JB_1 SN_0 h7; obtain ⟨x0, x1, x2, x3⟩ := And.intro RP_2.out.h0 (And.intro RP_2.out.h1 (And.intro RP_2.out.h2 RP_2.out.h3)); obtain ⟨d0, d1, d2, d3⟩ := JB_2.out.box.bx.c4; simp only [RowV.val] at d0 d1 d2 d3; obtain ⟨r0, r1, r2, r3⟩ := MB_0.out.bx.c4))
                  | (go_at_call 15; (refine (of_at LY_2.out HN.out b m k).mono ?_; rintro e w8 ⟨A31, c31, rfl, hl8, h8⟩; have TC_3 := Lib.hid ((TC_2.out.next h8).next (below_box (o := .cells #[.int .i64 b, .int .i64 m, .int .i64 0, .slice A31 n c31] 34))); have BF_3 := Lib.hid ((BF_2.out.next h8).next (below_box (o := .cells #[.int .i64 b, .int .i64 m, .int .i64 0, .slice A31 n c31] 34))); have LY_3 := Lib.hid ((LY_2.out.next h8).next (below_box (o := .cells #[.int .i64 b, .int .i64 m, .int .i64 0, .slice A31 n c31] 34))); have SZ_3 := Lib.hid ((SZ_2.out.next h8).next (below_box (o := .cells #[.int .i64 b, .int .i64 m, .int .i64 0, .slice A31 n c31] 34))); have RP_3 := Lib.hid ((RP_2.out.next h8).next (below_box (o := .cells #[.int .i64 b, .int .i64 m, .int .i64 0, .slice A31 n c31] 34))); have JB_3 := Lib.hid ((JB_2.out.next h8).next (below_box (o := .cells #[.int .i64 b, .int .i64 m, .int .i64 0, .slice A31 n c31] 34))); have SN_2 := Lib.hid ((SN_1.out.next h8).next (below_box (o := .cells #[.int .i64 b, .int .i64 m, .int .i64 0, .slice A31 n c31] 34))); have MB_1 := Lib.hid ((MB_0.out.next h8).next (below_box (o := .cells #[.int .i64 b, .int .i64 m, .int .i64 0, .slice A31 n c31] 34))); have LM_1 := Lib.hid ((LM_0.out.next h8).next (below_box (o := .cells #[.int .i64 b, .int .i64 m, .int .i64 0, .slice A31 n c31] 34))); have OB_0 := Lib.hid (BxT.new w8 #[.int .i64 b, .int .i64 m, .int .i64 0, .slice A31 n c31] 34); have LO_0 := Lib.hid (hl8.next (below_box (o := .cells #[.int .i64 b, .int .i64 m, .int .i64 0, .slice A31 n c31] 34))); clear hl8; obtain ⟨m0, m1, m2, m3⟩ := (Bx.new w8 #[.int .i64 b, .int .i64 m, .int .i64 k, .slice A31 n c31] 34).c4; obtain ⟨m4, m5, m6, m7⟩ := (Bx.new w8 #[.int .i64 b, .int .i64 m, .int .i64 k, .slice A31 n c31] 34).f4; clear TC_2 BF_2 LY_2 SZ_2 RP_2 JB_2 SN_1 MB_0 LM_0 h8; obtain ⟨x0, x1, x2, x3⟩ := And.intro RP_3.out.h0 (And.intro RP_3.out.h1 (And.intro RP_3.out.h2 RP_3.out.h3)); obtain ⟨d0, d1, d2, d3⟩ := JB_3.out.box.bx.c4; simp only [RowV.val] at d0 d1 d2 d3; obtain ⟨r0, r1, r2, r3⟩ := MB_1.out.bx.c4; obtain ⟨o0, o1, o2, o3⟩ := OB_0.out.bx.c4)))
                have HA : Hid (∀ W, Below (w8.alloc (.cells #[.int .i64 b, .int .i64 m, .int .i64 0, .slice A31 n c31] 34)).heap.size (w8.alloc (.cells #[.int .i64 b, .int .i64 m, .int .i64 0, .slice A31 n c31] 34)) W → (W.cell? ⟨w7.heap.size, 0, none⟩ = some (.int .i64 b) ∧ W.cell? ⟨w7.heap.size, 1, none⟩ = some (.int .i64 m) ∧ W.cell? ⟨w7.heap.size, 2, none⟩ = some (.int .i64 0) ∧ W.cell? ⟨w7.heap.size, 3, none⟩ = some (.slice A30 n c30)) ∧ (W.cell? ⟨w8.heap.size, 0, none⟩ = some (.int .i64 b) ∧ W.cell? ⟨w8.heap.size, 1, none⟩ = some (.int .i64 m) ∧ W.cell? ⟨w8.heap.size, 2, none⟩ = some (.int .i64 0) ∧ W.cell? ⟨w8.heap.size, 3, none⟩ = some (.slice A31 n c31)) ∧ LI W A30 c30 n l ∧ LI W A31 c31 n l) := Lib.hid fun W hW => ⟨(MB_1.out.next hW).bx.c4, (OB_0.out.next hW).bx.c4, LM_1.out.next hW, LO_0.out.next hW⟩
                clear x0 x1 x2 x3 d0 d1 d2 d3 r0 r1 r2 r3 o0 o1 o2 o3 m0 m1 m2 m3 m4 m5 m6 m7
                refine Slot.wp_region_slots (TrnG1 w7.heap.size w8.heap.size gs cs gn cn i n b m sq l A30 A31 c30 c31) (by kernel_rfl) (by kernel_rfl) (by kernel_rfl) (by kernel_rfl) (fun kk vv W W' _ h hb => TrnG1_next w7.heap.size w8.heap.size gs cs gn cn i n b m sq l A30 A31 c30 c31 kk vv W W' h hb) ?_ ?_
                · intro ii o x W K fr ho hB hd sl hbs hK
                  have HX := Lib.hid (HA.out W hB)
                  match ii, ho with
                  | 0, ho =>
                    obtain rfl := Option.some.inj ho
                    refine Slot.op_go ho rfl ?_
                    exact Slot.wp_value (Slot.run_move rfl (Slot.eval_at ((hbs 11 (Slot.off_of (by kernel_rfl))).trans rfl))) (hK _ _ (Below.refl _ _) rfl)
                  | 1, ho =>
                    obtain rfl := Option.some.inj ho
                    refine Slot.op_go ho rfl ?_
                    have e0 : x 0 = .bool true := hd ⟨0, .data⟩ (by simp) rfl
                    exact Slot.wp_value (TrnG1_r1 fr.eval _ W w7.heap.size w8.heap.size gs cs gn cn i n b m sq l A30 A31 c30 c31  rfl (Slot.eval_at ((sl 0 _ 64 rfl rfl).trans (congrArg some e0)))) (hK _ _ (Below.refl _ _) rfl)
                  | 2, ho =>
                    obtain rfl := Option.some.inj ho
                    refine Slot.op_go ho rfl ?_
                    have e1 : x 1 = .bool false := hd ⟨1, .data⟩ (by simp) rfl
                    exact Slot.wp_value (Slot.run_move rfl (Slot.eval_at ((sl 1 _ 65 rfl rfl).trans (congrArg some e1)))) (hK _ _ (Below.refl _ _) rfl)
                  | 3, ho =>
                    obtain rfl := Option.some.inj ho
                    have e2 : x 2 = .bool false := hd ⟨2, .guard⟩ (by simp) rfl
                    refine Slot.op_if ho rfl rfl rfl ((sl 2 _ 66 rfl rfl).trans (congrArg some e2)) ?_
                    exact Slot.wp_value (Slot.run_move rfl (Slot.eval_at ((hbs 10 (Slot.off_of (by kernel_rfl))).trans rfl))) (hK _ _ (Below.refl _ _) rfl)
                  | 4, ho =>
                    obtain rfl := Option.some.inj ho
                    have e2 : x 2 = .bool false := hd ⟨2, .guard⟩ (by simp) rfl
                    refine Slot.op_if ho rfl rfl rfl ((sl 2 _ 66 rfl rfl).trans (congrArg some e2)) ?_
                    exact Slot.wp_value (Slot.run_move rfl (Slot.eval_at ((hbs 5 (Slot.off_of (by kernel_rfl))).trans rfl))) (hK _ _ (Below.refl _ _) rfl)
                  | 5, ho =>
                    obtain rfl := Option.some.inj ho
                    have e2 : x 2 = .bool false := hd ⟨2, .guard⟩ (by simp) rfl
                    refine Slot.op_if ho rfl rfl rfl ((sl 2 _ 66 rfl rfl).trans (congrArg some e2)) ?_
                    have e4 : x 4 = .int .i64 ↑i := hd ⟨4, .data⟩ (by simp) rfl
                    exact Slot.wp_value (TrnG1_r5 fr.eval _ W w7.heap.size w8.heap.size gs cs gn cn i n b m sq l A30 A31 c30 c31  rfl (Slot.eval_at ((sl 4 _ 68 rfl rfl).trans (congrArg some e4))) (u1)) (hK _ _ (Below.refl _ _) rfl)
                  | 6, ho =>
                    obtain rfl := Option.some.inj ho
                    have e2 : x 2 = .bool false := hd ⟨2, .guard⟩ (by simp) rfl
                    refine Slot.op_if ho rfl rfl rfl ((sl 2 _ 66 rfl rfl).trans (congrArg some e2)) ?_
                    have e5 : x 5 = .int .u64 ↑i := hd ⟨5, .data⟩ (by simp) rfl
                    exact Slot.wp_value (TrnG1_r6 fr.eval _ W w7.heap.size w8.heap.size gs cs gn cn i n b m sq l A30 A31 c30 c31  rfl (Slot.eval_at ((sl 5 _ 69 rfl rfl).trans (congrArg some e5))) rfl (u2)) (hK _ _ (Below.refl _ _) rfl)
                  | 7, ho =>
                    obtain rfl := Option.some.inj ho
                    have e2 : x 2 = .bool false := hd ⟨2, .guard⟩ (by simp) rfl
                    refine Slot.op_if ho rfl rfl rfl ((sl 2 _ 66 rfl rfl).trans (congrArg some e2)) ?_
                    have e3 : x 3 = .int .u64 sq := hd ⟨3, .data⟩ (by simp) rfl
                    have e6 : x 6 = .int .u64 sq := hd ⟨6, .data⟩ (by simp) rfl
                    exact Slot.wp_value (TrnG1_r7 fr.eval _ W w7.heap.size w8.heap.size gs cs gn cn i n b m sq l A30 A31 c30 c31  rfl (Slot.eval_at ((sl 3 _ 67 rfl rfl).trans (congrArg some e3))) (Slot.eval_at ((sl 6 _ 70 rfl rfl).trans (congrArg some e6)))) (hK _ _ (Below.refl _ _) rfl)
                  | 8, ho =>
                    obtain rfl := Option.some.inj ho
                    refine Slot.op_go ho rfl ?_
                    have e7 : x 7 = .bool false := hd ⟨7, .data⟩ (by simp) rfl
                    have e2 : x 2 = .bool false := hd ⟨2, .data⟩ (by simp) rfl
                    exact Slot.wp_value (Slot.run_pick rfl (Slot.eval_at ((sl 2 _ 66 rfl rfl).trans (congrArg some e2))) ((if_neg Bool.false_ne_true).trans (Slot.eval_at ((sl 7 _ 71 rfl rfl).trans (congrArg some e7))))) (hK _ _ (Below.refl _ _) rfl)
                  | 9, ho =>
                    obtain rfl := Option.some.inj ho
                    refine Slot.op_go ho rfl ?_
                    have e8 : x 8 = .bool false := hd ⟨8, .data⟩ (by simp) rfl
                    exact Slot.wp_value (Slot.run_move rfl (Slot.eval_at ((sl 8 _ 72 rfl rfl).trans (congrArg some e8)))) (hK _ _ (Below.refl _ _) rfl)
                  | 10, ho =>
                    obtain rfl := Option.some.inj ho
                    have e9 : x 9 = .bool false := hd ⟨9, .guard⟩ (by simp) rfl
                    refine Slot.op_if ho rfl rfl rfl ((sl 9 _ 73 rfl rfl).trans (congrArg some e9)) ?_
                    exact Slot.wp_value (TrnG1_r10 fr.eval _ W w7.heap.size w8.heap.size gs cs gn cn i n b m sq l A30 A31 c30 c31  rfl (Slot.eval_at ((hbs 9 (Slot.off_of (by kernel_rfl))).trans rfl)) (HX.out.1.1) (HX.out.1.2.1) (HX.out.1.2.2.1) (HX.out.1.2.2.2)) (hK _ _ (Below.refl _ _) rfl)
                  | 11, ho =>
                    obtain rfl := Option.some.inj ho
                    have e9 : x 9 = .bool false := hd ⟨9, .chain⟩ (by simp) rfl
                    refine Slot.op_if ho rfl rfl rfl ((sl 9 _ 73 rfl rfl).trans (congrArg some e9)) ?_
                    have e10 : x 10 = .agg #[.int .i64 b, .int .i64 m, .int .i64 0, .slice A30 n c30] := hd ⟨10, .data⟩ (by simp) rfl
                    have s0 : fr.eval (Operand.tmp 74) = .agg #[.int .i64 b, .int .i64 m, .int .i64 0, .slice A30 n c30] := (Slot.eval_at ((sl 10 _ 74 rfl rfl).trans (congrArg some e10)))
                    have ha : (#[fr.eval (Operand.tmp 74)] : Array Value) = #[.agg #[.int .i64 b, .int .i64 m, .int .i64 0, .slice A30 n c30]] := by rw [s0]
                    refine Slot.wp_call (f := 15) (by kernel_rfl) ha (of_at HX.out.2.2.1 HN.out b m 0) ?_
                    rintro e w2' ⟨A', c', rfl, h1, h2⟩
                    have hG : GV (.agg #[.int .i64 b, .int .i64 m, .int .i64 0, .slice A' n c']) w2' b m 0 n l := ⟨A', c', rfl, h1⟩
                    exact ⟨_, rfl, hK _ _ h2 hG⟩
                  | 12, ho =>
                    obtain rfl := Option.some.inj ho
                    have e9 : x 9 = .bool false := hd ⟨9, .guard⟩ (by simp) rfl
                    refine Slot.op_if ho rfl rfl rfl ((sl 9 _ 73 rfl rfl).trans (congrArg some e9)) ?_
                    exact Slot.wp_value (TrnG1_r12 fr.eval _ W w7.heap.size w8.heap.size gs cs gn cn i n b m sq l A30 A31 c30 c31  rfl (Slot.eval_at ((hbs 12 (Slot.off_of (by kernel_rfl))).trans rfl)) (HX.out.2.1.1) (HX.out.2.1.2.1) (HX.out.2.1.2.2.1) (HX.out.2.1.2.2.2)) (hK _ _ (Below.refl _ _) rfl)
                  | 13, ho =>
                    obtain rfl := Option.some.inj ho
                    have e9 : x 9 = .bool false := hd ⟨9, .guard⟩ (by simp) rfl
                    refine Slot.op_if ho rfl rfl rfl ((sl 9 _ 73 rfl rfl).trans (congrArg some e9)) ?_
                    obtain ⟨A84, c84, e11, hl84⟩ := (hd ⟨11, .data⟩ (by simp) rfl : GV (x 11) W b m 0 n l)
                    have e12 : x 12 = .agg #[.int .i64 b, .int .i64 m, .int .i64 0, .slice A31 n c31] := hd ⟨12, .data⟩ (by simp) rfl
                    have s0 : fr.eval (Operand.tmp 75) = .agg #[.int .i64 b, .int .i64 m, .int .i64 0, .slice A84 n c84] := (Slot.eval_at ((sl 11 _ 75 rfl rfl).trans (congrArg some e11)))
                    have s1 : fr.eval (Operand.tmp 76) = .agg #[.int .i64 b, .int .i64 m, .int .i64 0, .slice A31 n c31] := (Slot.eval_at ((sl 12 _ 76 rfl rfl).trans (congrArg some e12)))
                    have ha : (#[fr.eval (Operand.tmp 75), fr.eval (Operand.tmp 76)] : Array Value) = #[.agg #[.int .i64 b, .int .i64 m, .int .i64 0, .slice A84 n c84], .agg #[.int .i64 b, .int .i64 m, .int .i64 0, .slice A31 n c31]] := by rw [s0, s1]
                    refine Slot.wp_call (f := 16) (by kernel_rfl) ha (same_at hl84 HX.out.2.2.2 HN.out b m 0) ?_
                    rintro e w2 ⟨rfl, h1⟩
                    exact ⟨_, rfl, hK _ _ h1 rfl⟩
                  | 14, ho =>
                    obtain rfl := Option.some.inj ho
                    have e9 : x 9 = .bool false := hd ⟨9, .guard⟩ (by simp) rfl
                    refine Slot.op_if ho rfl rfl rfl ((sl 9 _ 73 rfl rfl).trans (congrArg some e9)) ?_
                    have e13 : x 13 = .bool true := hd ⟨13, .data⟩ (by simp) rfl
                    exact Slot.wp_value (TrnG1_r14 fr.eval _ W w7.heap.size w8.heap.size gs cs gn cn i n b m sq l A30 A31 c30 c31  rfl (Slot.eval_at ((sl 13 _ 77 rfl rfl).trans (congrArg some e13)))) (hK _ _ (Below.refl _ _) rfl)
                  | 15, ho =>
                    obtain rfl := Option.some.inj ho
                    refine Slot.op_go ho rfl ?_
                    have e14 : x 14 = .bool false := hd ⟨14, .data⟩ (by simp) rfl
                    have e9 : x 9 = .bool false := hd ⟨9, .data⟩ (by simp) rfl
                    exact Slot.wp_value (Slot.run_pick rfl (Slot.eval_at ((sl 9 _ 73 rfl rfl).trans (congrArg some e9))) ((if_neg Bool.false_ne_true).trans (Slot.eval_at ((sl 14 _ 78 rfl rfl).trans (congrArg some e14))))) (hK _ _ (Below.refl _ _) rfl)
                  | 16, ho =>
                    obtain rfl := Option.some.inj ho
                    refine Slot.op_go ho rfl ?_
                    have e15 : x 15 = .bool false := hd ⟨15, .data⟩ (by simp) rfl
                    exact Slot.wp_value (Slot.run_move rfl (Slot.eval_at ((sl 15 _ 79 rfl rfl).trans (congrArg some e15)))) (hK _ _ (Below.refl _ _) rfl)
                  | 17, ho =>
                    obtain rfl := Option.some.inj ho
                    have e16 : x 16 = .bool false := hd ⟨16, .guard⟩ (by simp) rfl
                    refine Slot.op_if ho rfl rfl rfl ((sl 16 _ 80 rfl rfl).trans (congrArg some e16)) ?_
                    exact Slot.wp_value (Slot.run_move rfl (Slot.eval_at ((hbs 7 (Slot.off_of (by kernel_rfl))).trans rfl))) (hK _ _ (Below.refl _ _) rfl)
                  | 18, ho =>
                    obtain rfl := Option.some.inj ho
                    have e16 : x 16 = .bool false := hd ⟨16, .guard⟩ (by simp) rfl
                    refine Slot.op_if ho rfl rfl rfl ((sl 16 _ 80 rfl rfl).trans (congrArg some e16)) ?_
                    have e17 : x 17 = .slice (some ⟨gs, 0, none⟩) 2 cs := hd ⟨17, .data⟩ (by simp) rfl
                    exact Slot.wp_value (TrnG1_r18 fr.eval _ W w7.heap.size w8.heap.size gs cs gn cn i n b m sq l A30 A31 c30 c31  rfl (Slot.eval_at ((sl 17 _ 81 rfl rfl).trans (congrArg some e17)))) (hK _ _ (Below.refl _ _) rfl)
                  | 19, ho =>
                    obtain rfl := Option.some.inj ho
                    have e16 : x 16 = .bool false := hd ⟨16, .guard⟩ (by simp) rfl
                    refine Slot.op_if ho rfl rfl rfl ((sl 16 _ 80 rfl rfl).trans (congrArg some e16)) ?_
                    have e18 : x 18 = .int .i64 2 := hd ⟨18, .data⟩ (by simp) rfl
                    exact Slot.wp_value (TrnG1_r19 fr.eval _ W w7.heap.size w8.heap.size gs cs gn cn i n b m sq l A30 A31 c30 c31  rfl (Slot.eval_at ((sl 18 _ 82 rfl rfl).trans (congrArg some e18))) rfl) (hK _ _ (Below.refl _ _) rfl)
                  | 20, ho =>
                    obtain rfl := Option.some.inj ho
                    refine Slot.op_go ho rfl ?_
                    have e19 : x 19 = .bool false := hd ⟨19, .data⟩ (by simp) rfl
                    have e16 : x 16 = .bool false := hd ⟨16, .data⟩ (by simp) rfl
                    exact Slot.wp_value (Slot.run_pick rfl (Slot.eval_at ((sl 16 _ 80 rfl rfl).trans (congrArg some e16))) ((if_neg Bool.false_ne_true).trans (Slot.eval_at ((sl 19 _ 83 rfl rfl).trans (congrArg some e19))))) (hK _ _ (Below.refl _ _) rfl)
                  | 21, ho =>
                    obtain rfl := Option.some.inj ho
                    refine Slot.op_go ho rfl ?_
                    have e20 : x 20 = .bool false := hd ⟨20, .data⟩ (by simp) rfl
                    exact Slot.wp_value (Slot.run_move rfl (Slot.eval_at ((sl 20 _ 84 rfl rfl).trans (congrArg some e20)))) (hK _ _ (Below.refl _ _) rfl)
                  | 22, ho =>
                    obtain rfl := Option.some.inj ho
                    have e21 : x 21 = .bool false := hd ⟨21, .guard⟩ (by simp) rfl
                    refine Slot.op_if ho rfl rfl rfl ((sl 21 _ 85 rfl rfl).trans (congrArg some e21)) ?_
                    exact Slot.wp_value (Slot.run_move rfl (Slot.eval_at ((hbs 8 (Slot.off_of (by kernel_rfl))).trans rfl))) (hK _ _ (Below.refl _ _) rfl)
                  | 23, ho =>
                    obtain rfl := Option.some.inj ho
                    have e21 : x 21 = .bool false := hd ⟨21, .guard⟩ (by simp) rfl
                    refine Slot.op_if ho rfl rfl rfl ((sl 21 _ 85 rfl rfl).trans (congrArg some e21)) ?_
                    have e22 : x 22 = .slice (some ⟨gn, 0, none⟩) 2 cn := hd ⟨22, .data⟩ (by simp) rfl
                    exact Slot.wp_value (TrnG1_r23 fr.eval _ W w7.heap.size w8.heap.size gs cs gn cn i n b m sq l A30 A31 c30 c31  rfl (Slot.eval_at ((sl 22 _ 86 rfl rfl).trans (congrArg some e22)))) (hK _ _ (Below.refl _ _) rfl)
                  | 24, ho =>
                    obtain rfl := Option.some.inj ho
                    have e21 : x 21 = .bool false := hd ⟨21, .guard⟩ (by simp) rfl
                    refine Slot.op_if ho rfl rfl rfl ((sl 21 _ 85 rfl rfl).trans (congrArg some e21)) ?_
                    have e23 : x 23 = .int .i64 2 := hd ⟨23, .data⟩ (by simp) rfl
                    exact Slot.wp_value (TrnG1_r24 fr.eval _ W w7.heap.size w8.heap.size gs cs gn cn i n b m sq l A30 A31 c30 c31  rfl (Slot.eval_at ((sl 23 _ 87 rfl rfl).trans (congrArg some e23))) rfl) (hK _ _ (Below.refl _ _) rfl)
                  | 25, ho =>
                    obtain rfl := Option.some.inj ho
                    refine Slot.op_go ho rfl ?_
                    have e24 : x 24 = .bool false := hd ⟨24, .data⟩ (by simp) rfl
                    have e21 : x 21 = .bool false := hd ⟨21, .data⟩ (by simp) rfl
                    exact Slot.wp_value (Slot.run_pick rfl (Slot.eval_at ((sl 21 _ 85 rfl rfl).trans (congrArg some e21))) ((if_neg Bool.false_ne_true).trans (Slot.eval_at ((sl 24 _ 88 rfl rfl).trans (congrArg some e24))))) (hK _ _ (Below.refl _ _) rfl)
                  | n + 26, ho => simp at ho
                · intro x W hB hx
                  have e25 : x 25 = .bool false := hx 25 (by simp)
                  simp only [Inv.fill, Act.put, List.setIfInBounds_toArray, List.set_cons_zero, List.set_cons_succ, e25]
                  clear hx e25
                  have TC_4 := Lib.hid (TC_3.out.next hB)
                  have BF_4 := Lib.hid (BF_3.out.next hB)
                  have LY_4 := Lib.hid (LY_3.out.next hB)
                  have SZ_4 := Lib.hid (SZ_3.out.next hB)
                  have RP_4 := Lib.hid (RP_3.out.next hB)
                  have JB_4 := Lib.hid (JB_3.out.next hB)
                  have SN_3 := Lib.hid (SN_2.out.next hB)
                  have MB_2 := Lib.hid (MB_1.out.next hB)
                  have LM_2 := Lib.hid (LM_1.out.next hB)
                  have OB_1 := Lib.hid (OB_0.out.next hB)
                  have LO_1 := Lib.hid (LO_0.out.next hB)
                  clear TC_3 BF_3 LY_3 SZ_3 RP_3 JB_3 SN_2 MB_1 LM_1 OB_0 LO_0
                  clear HA hB
                  have tk : IntKind.i64.wrap 1 = 1 := by first | rfl | decide
                  go_wp2
                  have HA : Hid (∀ W', Below W.heap.size W W' → SI W' gs cs ⟨A63, c63, q63⟩ ⟨A64, c64, q64⟩ ∧ SI W' gn cn ⟨A65, c65, q65⟩ ⟨A66, c66, q66⟩ ∧ C4 W' b1 (p1 + i * 4) (.int .i64 b) (.int .i64 m) (.int .i64 k) (.slice A n c) ∧ Tab W' ∧ LI W' A c n l) := Lib.hid fun W' hW => ⟨SZ_4.out.next hW, SN_3.out.next hW, RP_4.out.next hW, TC_4.out.next hW, LY_4.out.next hW⟩
                  have HQ : Hid ((q63 = z0 ∧ q64 = z1) ∧ (q65 = z0 ∧ q66 = pq)) := Lib.hid ⟨HS5.out, HS6.out⟩
                  refine Slot.wp_region_slots (TrnH1 b1 p1 i len cap n gs cs gn cn b m k sq A A63 A64 A65 A66 c c63 c64 c65 c66 q63 q64 q65 q66 z0 z1 pq) (by kernel_rfl) (by kernel_rfl) (by kernel_rfl) (by kernel_rfl) (fun kk vv W W' _ h hb => TrnH1_next b1 p1 i len cap n gs cs gn cn b m k sq A A63 A64 A65 A66 c c63 c64 c65 c66 q63 q64 q65 q66 z0 z1 pq kk vv W W' h hb) ?_ ?_
                  · intro ii o x W K fr ho hB hd sl hbs hK
                    have HX := Lib.hid (HA.out W hB)
                    match ii, ho with
                    | 0, ho =>
                      obtain rfl := Option.some.inj ho
                      refine Slot.op_go ho rfl ?_
                      exact Slot.wp_value (Slot.run_move rfl (Slot.eval_at ((hbs 8 (Slot.off_of (by kernel_rfl))).trans rfl))) (hK _ _ (Below.refl _ _) rfl)
                    | 1, ho =>
                      obtain rfl := Option.some.inj ho
                      refine Slot.op_go ho rfl ?_
                      exact Slot.wp_value (Slot.run_move rfl (Slot.eval_at ((hbs 13 (Slot.off_of (by kernel_rfl))).trans rfl))) (hK _ _ (Below.refl _ _) rfl)
                    | 2, ho =>
                      obtain rfl := Option.some.inj ho
                      refine Slot.op_go ho rfl ?_
                      have e1 : x 1 = .int .i64 1 := hd ⟨1, .data⟩ (by simp) rfl
                      exact Slot.wp_value (TrnH1_r2 fr.eval _ W b1 p1 i len cap n gs cs gn cn b m k sq A A63 A64 A65 A66 c c63 c64 c65 c66 q63 q64 q65 q66 z0 z1 pq  rfl rfl (Slot.eval_at ((sl 1 _ 94 rfl rfl).trans (congrArg some e1)))) (hK _ _ (Below.refl _ _) rfl)
                    | 3, ho =>
                      obtain rfl := Option.some.inj ho
                      refine Slot.op_go ho rfl ?_
                      have e0 : x 0 = .slice (some ⟨gn, 0, none⟩) 2 cn := hd ⟨0, .data⟩ (by simp) rfl
                      have e2 : x 2 = .int .i64 0 := hd ⟨2, .data⟩ (by simp) rfl
                      exact Slot.wp_value (TrnH1_r3 fr.eval _ W b1 p1 i len cap n gs cs gn cn b m k sq A A63 A64 A65 A66 c c63 c64 c65 c66 q63 q64 q65 q66 z0 z1 pq  rfl (Slot.eval_at ((sl 0 _ 93 rfl rfl).trans (congrArg some e0))) (Slot.eval_at ((sl 2 _ 95 rfl rfl).trans (congrArg some e2)))) (hK _ _ (Below.refl _ _) rfl)
                    | 4, ho =>
                      obtain rfl := Option.some.inj ho
                      refine Slot.op_go ho rfl ?_
                      have e3 : x 3 = .pointer (some ⟨gn, 0, none⟩) := hd ⟨3, .data⟩ (by simp) rfl
                      exact Slot.wp_value (TrnH1_r4 fr.eval _ W b1 p1 i len cap n gs cs gn cn b m k sq A A63 A64 A65 A66 c c63 c64 c65 c66 q63 q64 q65 q66 z0 z1 pq  rfl (Slot.eval_at ((sl 3 _ 96 rfl rfl).trans (congrArg some e3))) (HX.out.2.1.h0)) (hK _ _ (Below.refl _ _) rfl)
                    | 5, ho =>
                      obtain rfl := Option.some.inj ho
                      refine Slot.op_go ho rfl ?_
                      have e4 : x 4 = .slice A65 q65.length c65 := hd ⟨4, .data⟩ (by simp) rfl
                      exact Slot.wp_value (Slot.run_convert rfl (Slot.eval_at ((sl 4 _ 97 rfl rfl).trans (congrArg some e4))) (conv_row0 HX.out.2.1.t0 HQ.out.2.1)) (hK _ _ (Below.refl _ _) rfl)
                    | 6, ho =>
                      obtain rfl := Option.some.inj ho
                      refine Slot.op_go ho rfl ?_
                      exact Slot.wp_value (Slot.run_move rfl (Slot.eval_at ((hbs 7 (Slot.off_of (by kernel_rfl))).trans rfl))) (hK _ _ (Below.refl _ _) rfl)
                    | 7, ho =>
                      obtain rfl := Option.some.inj ho
                      refine Slot.op_go ho rfl ?_
                      exact Slot.wp_value (Slot.run_move rfl (Slot.eval_at ((hbs 13 (Slot.off_of (by kernel_rfl))).trans rfl))) (hK _ _ (Below.refl _ _) rfl)
                    | 8, ho =>
                      obtain rfl := Option.some.inj ho
                      refine Slot.op_go ho rfl ?_
                      have e7 : x 7 = .int .i64 1 := hd ⟨7, .data⟩ (by simp) rfl
                      exact Slot.wp_value (TrnH1_r8 fr.eval _ W b1 p1 i len cap n gs cs gn cn b m k sq A A63 A64 A65 A66 c c63 c64 c65 c66 q63 q64 q65 q66 z0 z1 pq  rfl rfl (Slot.eval_at ((sl 7 _ 100 rfl rfl).trans (congrArg some e7)))) (hK _ _ (Below.refl _ _) rfl)
                    | 9, ho =>
                      obtain rfl := Option.some.inj ho
                      refine Slot.op_go ho rfl ?_
                      have e6 : x 6 = .slice (some ⟨gs, 0, none⟩) 2 cs := hd ⟨6, .data⟩ (by simp) rfl
                      have e8 : x 8 = .int .i64 0 := hd ⟨8, .data⟩ (by simp) rfl
                      exact Slot.wp_value (TrnH1_r9 fr.eval _ W b1 p1 i len cap n gs cs gn cn b m k sq A A63 A64 A65 A66 c c63 c64 c65 c66 q63 q64 q65 q66 z0 z1 pq  rfl (Slot.eval_at ((sl 6 _ 99 rfl rfl).trans (congrArg some e6))) (Slot.eval_at ((sl 8 _ 101 rfl rfl).trans (congrArg some e8)))) (hK _ _ (Below.refl _ _) rfl)
                    | 10, ho =>
                      obtain rfl := Option.some.inj ho
                      refine Slot.op_go ho rfl ?_
                      have e9 : x 9 = .pointer (some ⟨gs, 0, none⟩) := hd ⟨9, .data⟩ (by simp) rfl
                      exact Slot.wp_value (TrnH1_r10 fr.eval _ W b1 p1 i len cap n gs cs gn cn b m k sq A A63 A64 A65 A66 c c63 c64 c65 c66 q63 q64 q65 q66 z0 z1 pq  rfl (Slot.eval_at ((sl 9 _ 102 rfl rfl).trans (congrArg some e9))) (HX.out.1.h0)) (hK _ _ (Below.refl _ _) rfl)
                    | 11, ho =>
                      obtain rfl := Option.some.inj ho
                      refine Slot.op_go ho rfl ?_
                      have e10 : x 10 = .slice A63 q63.length c63 := hd ⟨10, .data⟩ (by simp) rfl
                      exact Slot.wp_value (Slot.run_convert rfl (Slot.eval_at ((sl 10 _ 103 rfl rfl).trans (congrArg some e10))) (conv_row0 HX.out.1.t0 HQ.out.1.1)) (hK _ _ (Below.refl _ _) rfl)
                    | 12, ho =>
                      obtain rfl := Option.some.inj ho
                      refine Slot.op_go ho rfl ?_
                      have e5 : x 5 = .string (strOfNums z0) := hd ⟨5, .data⟩ (by simp) rfl
                      have e11 : x 11 = .string (strOfNums z0) := hd ⟨11, .data⟩ (by simp) rfl
                      exact Slot.wp_value (TrnH1_r12 fr.eval _ W b1 p1 i len cap n gs cs gn cn b m k sq A A63 A64 A65 A66 c c63 c64 c65 c66 q63 q64 q65 q66 z0 z1 pq  rfl (Slot.eval_at ((sl 5 _ 98 rfl rfl).trans (congrArg some e5))) (Slot.eval_at ((sl 11 _ 104 rfl rfl).trans (congrArg some e11)))) (hK _ _ (Below.refl _ _) rfl)
                    | 13, ho =>
                      obtain rfl := Option.some.inj ho
                      refine Slot.op_go ho rfl ?_
                      have e12 : x 12 = .bool false := hd ⟨12, .data⟩ (by simp) rfl
                      exact Slot.wp_value (Slot.run_move rfl (Slot.eval_at ((sl 12 _ 105 rfl rfl).trans (congrArg some e12)))) (hK _ _ (Below.refl _ _) rfl)
                    | 14, ho =>
                      obtain rfl := Option.some.inj ho
                      have e13 : x 13 = .bool false := hd ⟨13, .guard⟩ (by simp) rfl
                      refine Slot.op_if ho rfl rfl rfl ((sl 13 _ 106 rfl rfl).trans (congrArg some e13)) ?_
                      exact Slot.wp_value (Slot.run_move rfl (Slot.eval_at ((hbs 8 (Slot.off_of (by kernel_rfl))).trans rfl))) (hK _ _ (Below.refl _ _) rfl)
                    | 15, ho =>
                      obtain rfl := Option.some.inj ho
                      have e13 : x 13 = .bool false := hd ⟨13, .guard⟩ (by simp) rfl
                      refine Slot.op_if ho rfl rfl rfl ((sl 13 _ 106 rfl rfl).trans (congrArg some e13)) ?_
                      exact Slot.wp_value (Slot.run_move rfl (Slot.eval_at ((hbs 13 (Slot.off_of (by kernel_rfl))).trans rfl))) (hK _ _ (Below.refl _ _) rfl)
                    | 16, ho =>
                      obtain rfl := Option.some.inj ho
                      have e13 : x 13 = .bool false := hd ⟨13, .guard⟩ (by simp) rfl
                      refine Slot.op_if ho rfl rfl rfl ((sl 13 _ 106 rfl rfl).trans (congrArg some e13)) ?_
                      have e14 : x 14 = .slice (some ⟨gn, 0, none⟩) 2 cn := hd ⟨14, .data⟩ (by simp) rfl
                      have e15 : x 15 = .int .i64 1 := hd ⟨15, .data⟩ (by simp) rfl
                      exact Slot.wp_value (TrnH1_r16 fr.eval _ W b1 p1 i len cap n gs cs gn cn b m k sq A A63 A64 A65 A66 c c63 c64 c65 c66 q63 q64 q65 q66 z0 z1 pq  rfl (Slot.eval_at ((sl 14 _ 107 rfl rfl).trans (congrArg some e14))) (Slot.eval_at ((sl 15 _ 108 rfl rfl).trans (congrArg some e15)))) (hK _ _ (Below.refl _ _) rfl)
                    | 17, ho =>
                      obtain rfl := Option.some.inj ho
                      have e13 : x 13 = .bool false := hd ⟨13, .guard⟩ (by simp) rfl
                      refine Slot.op_if ho rfl rfl rfl ((sl 13 _ 106 rfl rfl).trans (congrArg some e13)) ?_
                      have e16 : x 16 = .pointer (some ⟨gn, 1, none⟩) := hd ⟨16, .data⟩ (by simp) rfl
                      exact Slot.wp_value (TrnH1_r17 fr.eval _ W b1 p1 i len cap n gs cs gn cn b m k sq A A63 A64 A65 A66 c c63 c64 c65 c66 q63 q64 q65 q66 z0 z1 pq  rfl (Slot.eval_at ((sl 16 _ 109 rfl rfl).trans (congrArg some e16))) (HX.out.2.1.h1)) (hK _ _ (Below.refl _ _) rfl)
                    | 18, ho =>
                      obtain rfl := Option.some.inj ho
                      have e13 : x 13 = .bool false := hd ⟨13, .guard⟩ (by simp) rfl
                      refine Slot.op_if ho rfl rfl rfl ((sl 13 _ 106 rfl rfl).trans (congrArg some e13)) ?_
                      have e17 : x 17 = .slice A66 q66.length c66 := hd ⟨17, .data⟩ (by simp) rfl
                      exact Slot.wp_value (Slot.run_convert rfl (Slot.eval_at ((sl 17 _ 110 rfl rfl).trans (congrArg some e17))) (conv_row0 HX.out.2.1.t1 HQ.out.2.2)) (hK _ _ (Below.refl _ _) rfl)
                    | 19, ho =>
                      obtain rfl := Option.some.inj ho
                      have e13 : x 13 = .bool false := hd ⟨13, .guard⟩ (by simp) rfl
                      refine Slot.op_if ho rfl rfl rfl ((sl 13 _ 106 rfl rfl).trans (congrArg some e13)) ?_
                      exact Slot.wp_value (Slot.run_move rfl (Slot.eval_at ((hbs 0 (Slot.off_of (by kernel_rfl))).trans rfl))) (hK _ _ (Below.refl _ _) rfl)
                    | 20, ho =>
                      obtain rfl := Option.some.inj ho
                      have e13 : x 13 = .bool false := hd ⟨13, .guard⟩ (by simp) rfl
                      refine Slot.op_if ho rfl rfl rfl ((sl 13 _ 106 rfl rfl).trans (congrArg some e13)) ?_
                      exact Slot.wp_value (Slot.run_move rfl (Slot.eval_at ((hbs 5 (Slot.off_of (by kernel_rfl))).trans rfl))) (hK _ _ (Below.refl _ _) rfl)
                    | 21, ho =>
                      obtain rfl := Option.some.inj ho
                      have e13 : x 13 = .bool false := hd ⟨13, .guard⟩ (by simp) rfl
                      refine Slot.op_if ho rfl rfl rfl ((sl 13 _ 106 rfl rfl).trans (congrArg some e13)) ?_
                      have e19 : x 19 = .slice (some ⟨b1, p1, none⟩) len cap := hd ⟨19, .data⟩ (by simp) rfl
                      have e20 : x 20 = .int .i64 ↑i := hd ⟨20, .data⟩ (by simp) rfl
                      exact Slot.wp_value (TrnH1_r21 fr.eval _ W b1 p1 i len cap n gs cs gn cn b m k sq A A63 A64 A65 A66 c c63 c64 c65 c66 q63 q64 q65 q66 z0 z1 pq  rfl (Slot.eval_at ((sl 19 _ 112 rfl rfl).trans (congrArg some e19))) (Slot.eval_at ((sl 20 _ 113 rfl rfl).trans (congrArg some e20))) (i1)) (hK _ _ (Below.refl _ _) rfl)
                    | 22, ho =>
                      obtain rfl := Option.some.inj ho
                      have e13 : x 13 = .bool false := hd ⟨13, .guard⟩ (by simp) rfl
                      refine Slot.op_if ho rfl rfl rfl ((sl 13 _ 106 rfl rfl).trans (congrArg some e13)) ?_
                      have e21 : x 21 = .pointer (some ⟨b1, p1 + i * 4, none⟩) := hd ⟨21, .data⟩ (by simp) rfl
                      exact Slot.wp_value (TrnH1_r22 fr.eval _ W b1 p1 i len cap n gs cs gn cn b m k sq A A63 A64 A65 A66 c c63 c64 c65 c66 q63 q64 q65 q66 z0 z1 pq  rfl (Slot.eval_at ((sl 21 _ 114 rfl rfl).trans (congrArg some e21))) (HX.out.2.2.1.h0) (HX.out.2.2.1.h1) (HX.out.2.2.1.h2) (HX.out.2.2.1.h3)) (hK _ _ (Below.refl _ _) rfl)
                    | 23, ho =>
                      obtain rfl := Option.some.inj ho
                      have e13 : x 13 = .bool false := hd ⟨13, .guard⟩ (by simp) rfl
                      refine Slot.op_if ho rfl rfl rfl ((sl 13 _ 106 rfl rfl).trans (congrArg some e13)) ?_
                      exact Slot.wp_value (Slot.run_move rfl (Slot.eval_at ((hbs 10 (Slot.off_of (by kernel_rfl))).trans rfl))) (hK _ _ (Below.refl _ _) rfl)
                    | 24, ho =>
                      obtain rfl := Option.some.inj ho
                      have e13 : x 13 = .bool false := hd ⟨13, .chain⟩ (by simp) rfl
                      refine Slot.op_if ho rfl rfl rfl ((sl 13 _ 106 rfl rfl).trans (congrArg some e13)) ?_
                      have e22 : x 22 = .agg #[.int .i64 b, .int .i64 m, .int .i64 k, .slice A n c] := hd ⟨22, .data⟩ (by simp) rfl
                      have e23 : x 23 = .int .u64 sq := hd ⟨23, .data⟩ (by simp) rfl
                      have s0 : fr.eval (Operand.tmp 115) = .agg #[.int .i64 b, .int .i64 m, .int .i64 k, .slice A n c] := (Slot.eval_at ((sl 22 _ 115 rfl rfl).trans (congrArg some e22)))
                      have s1 : fr.eval (Operand.tmp 116) = .int .u64 sq := (Slot.eval_at ((sl 23 _ 116 rfl rfl).trans (congrArg some e23)))
                      have ha : (#[fr.eval (Operand.tmp 115), fr.eval (Operand.tmp 116)] : Array Value) = #[.agg #[.int .i64 b, .int .i64 m, .int .i64 k, .slice A n c], .int .u64 sq] := by rw [s0, s1]
                      refine Slot.wp_call (f := 13) (by kernel_rfl) ha (HP.out W HX.out.2.2.2.1 HX.out.2.2.2.2) ?_
                      rintro e w2' ⟨⟨A', c', q'⟩, rfl, ⟨h1, h2⟩, h3⟩
                      have hG : PS (.slice A' q'.length c') w2' pq := ⟨A', c', q', rfl, h1, h2⟩
                      exact ⟨_, rfl, hK _ _ h3 hG⟩
                    | 25, ho =>
                      obtain rfl := Option.some.inj ho
                      have e13 : x 13 = .bool false := hd ⟨13, .guard⟩ (by simp) rfl
                      refine Slot.op_if ho rfl rfl rfl ((sl 13 _ 106 rfl rfl).trans (congrArg some e13)) ?_
                      obtain ⟨A90, c90, q90, e24, hr90, hq90⟩ := (hd ⟨24, .data⟩ (by simp) rfl : PS (x 24) W pq)
                      exact Slot.wp_value (Slot.run_convert rfl (Slot.eval_at ((sl 24 _ 117 rfl rfl).trans (congrArg some e24))) (conv_row0 hr90 hq90)) (hK _ _ (Below.refl _ _) rfl)
                    | 26, ho =>
                      obtain rfl := Option.some.inj ho
                      have e13 : x 13 = .bool false := hd ⟨13, .guard⟩ (by simp) rfl
                      refine Slot.op_if ho rfl rfl rfl ((sl 13 _ 106 rfl rfl).trans (congrArg some e13)) ?_
                      have e18 : x 18 = .string (strOfNums pq) := hd ⟨18, .data⟩ (by simp) rfl
                      have e25 : x 25 = .string (strOfNums pq) := hd ⟨25, .data⟩ (by simp) rfl
                      exact Slot.wp_value (TrnH1_r26 fr.eval _ W b1 p1 i len cap n gs cs gn cn b m k sq A A63 A64 A65 A66 c c63 c64 c65 c66 q63 q64 q65 q66 z0 z1 pq  rfl (Slot.eval_at ((sl 18 _ 111 rfl rfl).trans (congrArg some e18))) (Slot.eval_at ((sl 25 _ 118 rfl rfl).trans (congrArg some e25)))) (hK _ _ (Below.refl _ _) rfl)
                    | 27, ho =>
                      obtain rfl := Option.some.inj ho
                      refine Slot.op_go ho rfl ?_
                      have e26 : x 26 = .bool false := hd ⟨26, .data⟩ (by simp) rfl
                      have e13 : x 13 = .bool false := hd ⟨13, .data⟩ (by simp) rfl
                      exact Slot.wp_value (Slot.run_pick rfl (Slot.eval_at ((sl 13 _ 106 rfl rfl).trans (congrArg some e13))) ((if_neg Bool.false_ne_true).trans (Slot.eval_at ((sl 26 _ 119 rfl rfl).trans (congrArg some e26))))) (hK _ _ (Below.refl _ _) rfl)
                    | n + 28, ho => simp at ho
                  · intro x W hB hx
                    have e27 : x 27 = .bool false := hx 27 (by simp)
                    simp only [Inv.fill, Act.put, List.setIfInBounds_toArray, List.set_cons_zero, List.set_cons_succ, e27]
                    clear hx e27
                    have TC_5 := Lib.hid (TC_4.out.next hB)
                    have BF_5 := Lib.hid (BF_4.out.next hB)
                    have LY_5 := Lib.hid (LY_4.out.next hB)
                    have SZ_5 := Lib.hid (SZ_4.out.next hB)
                    have RP_5 := Lib.hid (RP_4.out.next hB)
                    have JB_5 := Lib.hid (JB_4.out.next hB)
                    have SN_4 := Lib.hid (SN_3.out.next hB)
                    have MB_3 := Lib.hid (MB_2.out.next hB)
                    have LM_3 := Lib.hid (LM_2.out.next hB)
                    have OB_2 := Lib.hid (OB_1.out.next hB)
                    have LO_2 := Lib.hid (LO_1.out.next hB)
                    clear TC_4 BF_4 LY_4 SZ_4 RP_4 JB_4 SN_3 MB_2 LM_2 OB_1 LO_1
                    go_wp2
                    go_roundw
                    case rel => exact ⟨i + 1, _, _, _, congrArg (Value.int .i64) (show sq = ((i + 1 : Nat) : Int) by omega), by omega, Lib.hid ⟨BF_5.out.bel, JB_5.out, HB5.out.1, HB5.out.2.1, HE.out.1, HE.out.2.1, by rw [HE.out.2.2]; omega⟩⟩
                    case measure => simp [intOf]; omega
        · have f1 : decide (n ≤ 80) = false := decide_eq_false h80
          clear JA_0
          go_wp2_with (first
            | (go_at_call 10; (refine (few_at LX_0.out b m k).mono ?_; rintro e w3 ⟨rfl, h3⟩; have TB_1 := Lib.hid (TB_0.out.next h3); have BE_1 := Lib.hid (BE_0.out.next h3); have RO_1 := Lib.hid (RO_0.out.next h3); have LX_1 := Lib.hid (LX_0.out.next h3); rw [f1]; clear TB_0 BE_0 RO_0 LX_0 h3; obtain ⟨x0, x1, x2, x3⟩ := And.intro RO_1.out.h0 (And.intro RO_1.out.h1 (And.intro RO_1.out.h2 RO_1.out.h3)))))
          go_ret
          exact ⟨rfl, BE_1.out.bel⟩
      · obtain rfl : i = len := by omega
        go_wp2
        go_ret
        exact ⟨rfl, hj.out.bel⟩

end Go.Proofs.YtgbgbodhpahceaaDoor.Walk
