/- The walk of ConfTells. -/
import Derived.Test.YtkicijgempccfaaConM
namespace Go.Proofs.Ytkicijgempccfaa.Walk
open Go.RowKit Go.ChangeShapes Go.Proofs.Ytkicijgempccfaa.RatP Go.Proofs.Ytkicijgempccfaa.SatP Go.Proofs.Ytkicijgempccfaa.ConP Go.Proofs.Ytkicijgempccfaa.Rat Go.Proofs.Ytkicijgempccfaa.Con
set_option linter.unusedVariables false

/-- while ConfTells runs: its box, and the document's group -/
structure TJ (w W : World) (N X : Nat) (v : V) (A' : Option Addr) (cb' : Nat) : Prop where
  lj : LJ w W N v
  box : CBox W X (vOf v A' cb')
  inn : V.In W (vOf v A' cb')
theorem TJ.next {w W W' : World} {N X : Nat} {v : V} {A' : Option Addr} {cb' : Nat} (h : TJ w W N X v A' cb') (hb : Below W.heap.size W W') : TJ w W' N X v A' cb' := ⟨h.lj.next hb, h.box.next hb, h.inn.next hb⟩

def TellsF1 (N X : Nat) (v : V) (A' : Option Addr) (cb' : Nat) (y bq : Int) : Nat → Value → World → Prop
  | 0, vv, _ => vv = .agg #[.slice v.A v.c.banks.length v.cb, .int .i64 v.c.floors, .int .i64 v.c.home, .slice v.O v.c.order.length v.co, .int .i64 v.c.speed, .int .i64 v.c.width, .int .i64 v.c.dwell, .int .i64 v.c.good, .int .i64 v.c.dead, .int .i64 v.c.lag, .int .i64 v.c.turn, .int .i64 v.c.cost, .int .i64 v.c.full]
  | 1, vv, _ => vv = .int .i64 y
  | 2, vv, _ => vv = .int .i64 bq
  | 3, vv, _ => vv = .agg #[.slice A' v.c.banks.length cb', .int .i64 v.c.floors, .int .i64 v.c.home, .slice v.O v.c.order.length v.co, .int .i64 v.c.speed, .int .i64 v.c.width, .int .i64 v.c.dwell, .int .i64 v.c.good, .int .i64 v.c.dead, .int .i64 v.c.lag, .int .i64 v.c.turn, .int .i64 v.c.cost, .int .i64 v.c.full]
  | 4, vv, _ => vv = .int .i64 y
  | 5, vv, _ => vv = .int .i64 bq
  | 6, vv, _ => vv = .bool false
  | _, _, _ => True

def TellsF2 (N X : Nat) (v : V) (A' : Option Addr) (cb' : Nat) (blocked nc ms rn ds y8 sv lm bt : Int) : Nat → Value → World → Prop
  | 0, vv, _ => vv = .agg #[.slice v.A v.c.banks.length v.cb, .int .i64 v.c.floors, .int .i64 v.c.home, .slice v.O v.c.order.length v.co, .int .i64 v.c.speed, .int .i64 v.c.width, .int .i64 v.c.dwell, .int .i64 v.c.good, .int .i64 v.c.dead, .int .i64 v.c.lag, .int .i64 v.c.turn, .int .i64 v.c.cost, .int .i64 v.c.full]
  | 1, vv, _ => vv = .int .i64 nc
  | 2, vv, _ => vv = .agg #[.slice A' v.c.banks.length cb', .int .i64 v.c.floors, .int .i64 v.c.home, .slice v.O v.c.order.length v.co, .int .i64 v.c.speed, .int .i64 v.c.width, .int .i64 v.c.dwell, .int .i64 v.c.good, .int .i64 v.c.dead, .int .i64 v.c.lag, .int .i64 v.c.turn, .int .i64 v.c.cost, .int .i64 v.c.full]
  | 3, vv, _ => vv = .int .i64 nc
  | 4, vv, _ => vv = .bool true
  | 5, vv, _ => vv = .bool true
  | 6, vv, _ => vv = .agg #[.slice v.A v.c.banks.length v.cb, .int .i64 v.c.floors, .int .i64 v.c.home, .slice v.O v.c.order.length v.co, .int .i64 v.c.speed, .int .i64 v.c.width, .int .i64 v.c.dwell, .int .i64 v.c.good, .int .i64 v.c.dead, .int .i64 v.c.lag, .int .i64 v.c.turn, .int .i64 v.c.cost, .int .i64 v.c.full]
  | 7, vv, _ => vv = .int .i64 ms
  | 8, vv, _ => vv = .agg #[.slice A' v.c.banks.length cb', .int .i64 v.c.floors, .int .i64 v.c.home, .slice v.O v.c.order.length v.co, .int .i64 v.c.speed, .int .i64 v.c.width, .int .i64 v.c.dwell, .int .i64 v.c.good, .int .i64 v.c.dead, .int .i64 v.c.lag, .int .i64 v.c.turn, .int .i64 v.c.cost, .int .i64 v.c.full]
  | 9, vv, _ => vv = .int .i64 ms
  | 10, vv, _ => vv = .bool true
  | 11, vv, _ => vv = .bool true
  | 12, vv, _ => vv = .bool true
  | 13, vv, _ => vv = .agg #[.slice v.A v.c.banks.length v.cb, .int .i64 v.c.floors, .int .i64 v.c.home, .slice v.O v.c.order.length v.co, .int .i64 v.c.speed, .int .i64 v.c.width, .int .i64 v.c.dwell, .int .i64 v.c.good, .int .i64 v.c.dead, .int .i64 v.c.lag, .int .i64 v.c.turn, .int .i64 v.c.cost, .int .i64 v.c.full]
  | 14, vv, _ => vv = .int .i64 rn
  | 15, vv, _ => vv = .agg #[.slice A' v.c.banks.length cb', .int .i64 v.c.floors, .int .i64 v.c.home, .slice v.O v.c.order.length v.co, .int .i64 v.c.speed, .int .i64 v.c.width, .int .i64 v.c.dwell, .int .i64 v.c.good, .int .i64 v.c.dead, .int .i64 v.c.lag, .int .i64 v.c.turn, .int .i64 v.c.cost, .int .i64 v.c.full]
  | 16, vv, _ => vv = .int .i64 rn
  | 17, vv, _ => vv = .bool true
  | 18, vv, _ => vv = .bool true
  | 19, vv, _ => vv = .bool true
  | 20, vv, _ => vv = .agg #[.slice v.A v.c.banks.length v.cb, .int .i64 v.c.floors, .int .i64 v.c.home, .slice v.O v.c.order.length v.co, .int .i64 v.c.speed, .int .i64 v.c.width, .int .i64 v.c.dwell, .int .i64 v.c.good, .int .i64 v.c.dead, .int .i64 v.c.lag, .int .i64 v.c.turn, .int .i64 v.c.cost, .int .i64 v.c.full]
  | 21, vv, _ => vv = .int .i64 ds
  | 22, vv, _ => vv = .pointer (some ⟨N, 5, none⟩)
  | 23, vv, _ => vv = .int .i64 v.c.width
  | 24, vv, _ => vv = .int .i64 ds
  | 25, vv, _ => vv = .bool true
  | 26, vv, _ => vv = .bool true
  | 27, vv, _ => vv = .bool true
  | 28, vv, _ => vv = .agg #[.slice v.A v.c.banks.length v.cb, .int .i64 v.c.floors, .int .i64 v.c.home, .slice v.O v.c.order.length v.co, .int .i64 v.c.speed, .int .i64 v.c.width, .int .i64 v.c.dwell, .int .i64 v.c.good, .int .i64 v.c.dead, .int .i64 v.c.lag, .int .i64 v.c.turn, .int .i64 v.c.cost, .int .i64 v.c.full]
  | 29, vv, _ => vv = .int .i64 sv
  | 30, vv, _ => vv = .pointer (some ⟨N, 11, none⟩)
  | 31, vv, _ => vv = .int .i64 v.c.cost
  | 32, vv, _ => vv = .pointer (some ⟨N, 5, none⟩)
  | 33, vv, _ => vv = .int .i64 v.c.width
  | 34, vv, _ => vv = .int .i64 y8
  | 35, vv, _ => vv = .int .i64 sv
  | 36, vv, _ => vv = .bool true
  | 37, vv, _ => vv = .bool true
  | 38, vv, _ => vv = .bool true
  | 39, vv, _ => vv = .agg #[.slice v.A v.c.banks.length v.cb, .int .i64 v.c.floors, .int .i64 v.c.home, .slice v.O v.c.order.length v.co, .int .i64 v.c.speed, .int .i64 v.c.width, .int .i64 v.c.dwell, .int .i64 v.c.good, .int .i64 v.c.dead, .int .i64 v.c.lag, .int .i64 v.c.turn, .int .i64 v.c.cost, .int .i64 v.c.full]
  | 40, vv, _ => vv = .int .i64 blocked
  | 41, vv, _ => vv = .int .i64 lm
  | 42, vv, _ => vv = .agg #[.slice A' v.c.banks.length cb', .int .i64 v.c.floors, .int .i64 v.c.home, .slice v.O v.c.order.length v.co, .int .i64 v.c.speed, .int .i64 v.c.width, .int .i64 v.c.dwell, .int .i64 v.c.good, .int .i64 v.c.dead, .int .i64 v.c.lag, .int .i64 v.c.turn, .int .i64 v.c.cost, .int .i64 v.c.full]
  | 43, vv, _ => vv = .int .i64 blocked
  | 44, vv, _ => vv = .int .i64 lm
  | 45, vv, _ => vv = .bool true
  | 46, vv, _ => vv = .bool true
  | 47, vv, _ => vv = .bool true
  | 48, vv, _ => vv = .agg #[.slice v.A v.c.banks.length v.cb, .int .i64 v.c.floors, .int .i64 v.c.home, .slice v.O v.c.order.length v.co, .int .i64 v.c.speed, .int .i64 v.c.width, .int .i64 v.c.dwell, .int .i64 v.c.good, .int .i64 v.c.dead, .int .i64 v.c.lag, .int .i64 v.c.turn, .int .i64 v.c.cost, .int .i64 v.c.full]
  | 49, vv, _ => vv = .int .i64 blocked
  | 50, vv, _ => vv = .int .i64 bt
  | 51, vv, _ => vv = .agg #[.slice A' v.c.banks.length cb', .int .i64 v.c.floors, .int .i64 v.c.home, .slice v.O v.c.order.length v.co, .int .i64 v.c.speed, .int .i64 v.c.width, .int .i64 v.c.dwell, .int .i64 v.c.good, .int .i64 v.c.dead, .int .i64 v.c.lag, .int .i64 v.c.turn, .int .i64 v.c.cost, .int .i64 v.c.full]
  | 52, vv, _ => vv = .int .i64 blocked
  | 53, vv, _ => vv = .int .i64 bt
  | 54, vv, _ => vv = .bool true
  | 55, vv, _ => vv = .bool true
  | 56, vv, _ => vv = .bool true
  | _, _, _ => True

set_option maxRecDepth 100000 in
set_option maxHeartbeats 16000000 in
theorem confTells_walk (w : World) (v : V) (blocked : Int) (hin : V.In w v) (_w1 : (Lit.int .i64 blocked).wf = true) : Calls Try.prog 4 #[v.val, .int .i64 blocked] w fun e w' => e = .returned (.bool true) ∧ Below w.heap.size w w' := by
  have H0 := Lib.hid (LJ.new hin 25)
  have HIN := Lib.hid hin
  clear hin
  unfold V.arr at H0
  cases hsm : smB v
  · have HS := Lib.hid hsm
    clear hsm
    unfold V.val
    go_enter Try.func4, Try.ntmps4
    go_wp2_with (first
      | (go_at_call 9; refine (lj_awake H0).mono ?_; clear H0; rintro e w1 ⟨rfl, h1⟩; obtain ⟨a0, a1, a2, a3, a4, a5, a6, a7, a8, a9, a10, a11, a12⟩ := lj_all h1)
      | (go_at_call 10; refine (lj_small HS h1).mono ?_; clear h1; rintro e w2 ⟨rfl, h2⟩))
    go_ret
    exact ⟨rfl, h2.out.below⟩
  have HS := Lib.hid hsm
  clear hsm
  cases hq : mayC v.c
  · have HQ := Lib.hid hq
    clear hq
    unfold V.val
    go_enter Try.func4, Try.ntmps4
    go_wp2_with (first
      | (go_at_call 9; refine (lj_awake H0).mono ?_; clear H0; rintro e w1 ⟨rfl, h1⟩; obtain ⟨a0, a1, a2, a3, a4, a5, a6, a7, a8, a9, a10, a11, a12⟩ := lj_all h1)
      | (go_at_call 10; refine (lj_small HS h1).mono ?_; clear h1 a0 a1 a2 a3 a4 a5 a6 a7 a8 a9 a10 a11 a12; rintro e w2 ⟨rfl, h2⟩; obtain ⟨a0, a1, a2, a3, a4, a5, a6, a7, a8, a9, a10, a11, a12⟩ := lj_all h2)
      | (go_at_call 11; refine (lj_check HS HQ h2).mono ?_; clear h2; rintro e w3 ⟨rfl, h3⟩))
    go_ret
    exact ⟨rfl, h3.out.below⟩
  have HQ := Lib.hid hq
  have HM := Lib.hid ((mayC_iff v.c).1 hq)
  clear hq

  clear _w1
  have hm := HM.out
  have hnb := hm.nb
  have hfl := hm.fl
  have hwd := hm.wd
  have hco := hm.co
  have hB0 := fun (y : Int) (hy : y ≤ 1000000) W (h : V.In W v) => Bank_any v hm.bs (by omega) y hy W h
  have hRB0 := fun (A' : Option Addr) (cb' : Nat) (y : Int) W (h : V.In W (vOf v A' cb')) => refBank_any (vOf v A' cb') hm.bs (by show v.c.banks.length ≤ 1000; omega) y W h
  have hCA := fun W (h : V.In W v) => Cars_any v hm.bs (by omega) W h
  have hRCA := fun (A' : Option Addr) (cb' : Nat) W (h : V.In W (vOf v A' cb')) => refCars_any (vOf v A' cb') hm.bs (by show v.c.banks.length ≤ 1000; omega) W h
  have hMO := fun W (h : V.In W v) => Most_conf v hm.bs (by omega) W h
  have hRMO := fun (A' : Option Addr) (cb' : Nat) W (h : V.In W (vOf v A' cb')) => refMost_conf (vOf v A' cb') hm.bs (by show v.c.banks.length ≤ 1000; omega) W h
  have hRU := fun W => Run_any v (by omega) (by omega) W
  have hRRU := fun (A' : Option Addr) (cb' : Nat) W => refRun_any (vOf v A' cb') (by show 0 ≤ v.c.floors; omega) (by show v.c.floors ≤ 100; omega) W
  have hDO := fun W => Doors_any v (by omega) (by omega) W
  have hSA := fun W => Saves_any v (by omega) (by omega) (by omega) (by omega) W
  have hLI := fun W (h : V.In W v) => Limit_any v hm blocked W h
  have hRLI := fun (A' : Option Addr) (cb' : Nat) W (h : V.In W (vOf v A' cb')) => refLimit_any (vOf v A' cb') hm blocked W h
  have hBK := fun W => Back_any v hm blocked W
  have hRBK := fun (A' : Option Addr) (cb' : Nat) W => refBack_any (vOf v A' cb') hm blocked W
  have hE1 : IntKind.i64.wrap (v.c.width + 1) = doors v.c := IntWalk.i64_in _ (by omega)
  obtain ⟨y8, hy8⟩ : ∃ y, 8 + v.c.width = y := ⟨_, rfl⟩
  have hE2 : IntKind.i64.wrap (8 + v.c.width) = y8 := (IntWalk.i64_in _ (by omega)).trans hy8
  have hp : v.c.cost * (8 + v.c.width) ≤ 100 * 24 := Int.mul_le_mul (by omega) (by omega) (by omega) (by omega)
  have hp0 : 0 ≤ v.c.cost * (8 + v.c.width) := Int.mul_nonneg (by omega) (by omega)
  have hE3 : IntKind.i64.wrap (v.c.cost * y8) = saves v.c := by rw [← hy8]; exact IntWalk.i64_in _ (by omega)
  simp only [vOf] at hRB0 hRCA hRMO hRRU hRLI hRBK
  generalize cars v.c.banks = nc at hCA hRCA
  generalize mo v.c.banks = ms at hMO hRMO
  generalize run v.c = rn at hRU hRRU
  generalize doors v.c = ds at hDO hE1
  generalize saves v.c = sv at hSA hE3
  generalize limit v.c blocked = lm at hLI hRLI
  generalize back v.c blocked = bt at hBK hRBK
  clear hy8
  have HB0 := Lib.hid hB0
  have HRB0 := Lib.hid hRB0
  have HCA := Lib.hid hCA
  have HRCA0 := Lib.hid hRCA
  have HMO := Lib.hid hMO
  have HRMO0 := Lib.hid hRMO
  have HRU := Lib.hid hRU
  have HRRU0 := Lib.hid hRRU
  have HDO := Lib.hid hDO
  have HSA := Lib.hid hSA
  have HLI := Lib.hid hLI
  have HRLI0 := Lib.hid hRLI
  have HBK := Lib.hid hBK
  have HRBK0 := Lib.hid hRBK
  have E1 := Lib.hid hE1
  have E2 := Lib.hid hE2
  have E3 := Lib.hid hE3
  clear hm hnb hfl hwd hco hB0 hRB0 hCA hRCA hMO hRMO hRU hRRU hDO hSA hLI hRLI hBK hRBK hE1 hE2 hE3 hp hp0
  unfold V.val
  go_enter Try.func4, Try.ntmps4
  go_wp2_with (first
      | (go_at_call 9; refine (lj_awake H0).mono ?_; clear H0; rintro e w1 ⟨rfl, h1⟩; obtain ⟨a0, a1, a2, a3, a4, a5, a6, a7, a8, a9, a10, a11, a12⟩ := lj_all h1)
      | (go_at_call 10; refine (lj_small HS h1).mono ?_; clear h1 a0 a1 a2 a3 a4 a5 a6 a7 a8 a9 a10 a11 a12; rintro e w2 ⟨rfl, h2⟩; obtain ⟨a0, a1, a2, a3, a4, a5, a6, a7, a8, a9, a10, a11, a12⟩ := lj_all h2)
      | (go_at_call 11; refine (lj_check HS HQ h2).mono ?_; clear h2 a0 a1 a2 a3 a4 a5 a6 a7 a8 a9 a10 a11 a12; rintro e w3 ⟨rfl, h3⟩; obtain ⟨a0, a1, a2, a3, a4, a5, a6, a7, a8, a9, a10, a11, a12⟩ := lj_all h3)
      | (go_at_call 13; refine (lj_ofc HS h3).mono ?_; clear h3 a0 a1 a2 a3 a4 a5 a6 a7 a8 a9 a10 a11 a12; rintro e w4 ⟨A', cb', rfl, h4, i4⟩))
  have HT0 : Hid (TJ w (w4.alloc (.cells (vOf v A' cb').arr 31)) w.heap.size w4.heap.size v A' cb') := Lib.hid ⟨h4.out.next Con.says_box, CBox.new w4 (vOf v A' cb') _, i4.out.box _⟩
  simp only [V.arr, vOf] at HT0
  have HRB1 := Lib.hid (HRB0.out A' cb')
  have HRCA := Lib.hid (HRCA0.out A' cb')
  have HRMO := Lib.hid (HRMO0.out A' cb')
  have HRRU := Lib.hid (HRRU0.out A' cb')
  have HRLI := Lib.hid (HRLI0.out A' cb')
  have HRBK := Lib.hid (HRBK0.out A' cb')
  clear h4 i4 HRB0 HRCA0 HRMO0 HRRU0 HRLI0 HRBK0
  generalize hX : w4.heap.size = X at *
  clear hX
  go_loopw [8] (fun car wr => ∃ k : Nat, k ≤ 66 ∧ car = .int .i64 ((k : Int) - 1) ∧ TJ w wr w.heap.size X v A' cb') (fun car _ => (65 - intOf car).toNat)
  case atStart => exact ⟨0, by omega, rfl, HT0.out⟩
  case round =>
    obtain ⟨k, hk, rfl, ht⟩ := hrel
    have HT := Lib.hid ht
    clear ht HT0
    by_cases hlt : k < 66
    · obtain ⟨y, hy⟩ : ∃ y : Int, (k : Int) - 1 = y := ⟨_, rfl⟩
      rw [hy]
      have hy0 : -1 ≤ y := by omega
      have hy1 : y ≤ 64 := by omega
      have HY := Lib.hid hy
      have HBA := Lib.hid (HB0.out y (by omega))
      have HRB := Lib.hid (HRB1.out y)
      clear hy
      generalize bankOf v.c.banks y = bq at HBA HRB
      go_wp2
      refine Inv.wp_region_inv (TellsF1 w.heap.size X v A' cb' y bq) (by kernel_rfl) (by kernel_rfl) (by kernel_rfl) ?_ ?_ ?_
      · intro i v W W' _ h hb
        unfold TellsF1 at h ⊢
        split at h <;> first | exact h | exact NewRow.next h hb
      · intro i o x W K ho hB hd hK
        match i, ho with
        | 0, ho =>
          obtain rfl := Option.some.inj ho
          simp only [Inv.fill, Act.put, List.setIfInBounds_toArray, List.set_cons_zero, List.set_cons_succ] at hK ⊢
          clear hd ho
          rw [wpOp]
          refine (if_pos rfl).mpr (.inl ?_)
          have g0 := (HT.out.next hB).lj.box.c0
          have g1 := (HT.out.next hB).lj.box.c1
          have g2 := (HT.out.next hB).lj.box.c2
          have g3 := (HT.out.next hB).lj.box.c3
          have g4 := (HT.out.next hB).lj.box.c4
          have g5 := (HT.out.next hB).lj.box.c5
          have g6 := (HT.out.next hB).lj.box.c6
          have g7 := (HT.out.next hB).lj.box.c7
          have g8 := (HT.out.next hB).lj.box.c8
          have g9 := (HT.out.next hB).lj.box.c9
          have g10 := (HT.out.next hB).lj.box.c10
          have g11 := (HT.out.next hB).lj.box.c11
          have g12 := (HT.out.next hB).lj.box.c12
          go_simp
          exact hK _ _ (Below.refl _ _) rfl
        | 1, ho =>
          obtain rfl := Option.some.inj ho
          simp only [Inv.fill, Act.put, List.setIfInBounds_toArray, List.set_cons_zero, List.set_cons_succ] at hK ⊢
          clear hd ho
          rw [wpOp]
          refine (if_pos rfl).mpr (.inl ?_)
          go_simp
          exact hK _ _ (Below.refl _ _) rfl
        | 2, ho =>
          obtain rfl := Option.some.inj ho
          have e0 : x 0 = .agg #[.slice v.A v.c.banks.length v.cb, .int .i64 v.c.floors, .int .i64 v.c.home, .slice v.O v.c.order.length v.co, .int .i64 v.c.speed, .int .i64 v.c.width, .int .i64 v.c.dwell, .int .i64 v.c.good, .int .i64 v.c.dead, .int .i64 v.c.lag, .int .i64 v.c.turn, .int .i64 v.c.cost, .int .i64 v.c.full] := hd ⟨0, .data⟩ (by simp) rfl
          have e1 : x 1 = .int .i64 y := hd ⟨1, .data⟩ (by simp) rfl
          simp only [Inv.fill, Act.put, List.setIfInBounds_toArray, List.set_cons_zero, List.set_cons_succ, e0, e1] at hK ⊢
          clear hd ho e0 e1
          rw [wpOp]
          refine (if_pos rfl).mpr (.inl ?_)
          have hc := HBA.out W (HT.out.next hB).lj.inn
          go_simp
          refine hc.mono ?_
          rintro e w2 ⟨rfl, hb2⟩
          exact hK _ _ hb2 rfl
        | 3, ho =>
          obtain rfl := Option.some.inj ho
          simp only [Inv.fill, Act.put, List.setIfInBounds_toArray, List.set_cons_zero, List.set_cons_succ] at hK ⊢
          clear hd ho
          rw [wpOp]
          refine (if_pos rfl).mpr (.inl ?_)
          have g0 := (HT.out.next hB).box.c0
          have g1 := (HT.out.next hB).box.c1
          have g2 := (HT.out.next hB).box.c2
          have g3 := (HT.out.next hB).box.c3
          have g4 := (HT.out.next hB).box.c4
          have g5 := (HT.out.next hB).box.c5
          have g6 := (HT.out.next hB).box.c6
          have g7 := (HT.out.next hB).box.c7
          have g8 := (HT.out.next hB).box.c8
          have g9 := (HT.out.next hB).box.c9
          have g10 := (HT.out.next hB).box.c10
          have g11 := (HT.out.next hB).box.c11
          have g12 := (HT.out.next hB).box.c12
          go_simp
          exact hK _ _ (Below.refl _ _) rfl
        | 4, ho =>
          obtain rfl := Option.some.inj ho
          simp only [Inv.fill, Act.put, List.setIfInBounds_toArray, List.set_cons_zero, List.set_cons_succ] at hK ⊢
          clear hd ho
          rw [wpOp]
          refine (if_pos rfl).mpr (.inl ?_)
          go_simp
          exact hK _ _ (Below.refl _ _) rfl
        | 5, ho =>
          obtain rfl := Option.some.inj ho
          have e3 : x 3 = .agg #[.slice A' v.c.banks.length cb', .int .i64 v.c.floors, .int .i64 v.c.home, .slice v.O v.c.order.length v.co, .int .i64 v.c.speed, .int .i64 v.c.width, .int .i64 v.c.dwell, .int .i64 v.c.good, .int .i64 v.c.dead, .int .i64 v.c.lag, .int .i64 v.c.turn, .int .i64 v.c.cost, .int .i64 v.c.full] := hd ⟨3, .data⟩ (by simp) rfl
          have e4 : x 4 = .int .i64 y := hd ⟨4, .data⟩ (by simp) rfl
          simp only [Inv.fill, Act.put, List.setIfInBounds_toArray, List.set_cons_zero, List.set_cons_succ, e3, e4] at hK ⊢
          clear hd ho e3 e4
          rw [wpOp]
          refine (if_pos rfl).mpr (.inl ?_)
          have hc := HRB.out W (HT.out.next hB).inn
          go_simp
          refine hc.mono ?_
          rintro e w2 ⟨rfl, hb2⟩
          exact hK _ _ hb2 rfl
        | 6, ho =>
          obtain rfl := Option.some.inj ho
          have e2 : x 2 = .int .i64 bq := hd ⟨2, .data⟩ (by simp) rfl
          have e5 : x 5 = .int .i64 bq := hd ⟨5, .data⟩ (by simp) rfl
          simp only [Inv.fill, Act.put, List.setIfInBounds_toArray, List.set_cons_zero, List.set_cons_succ, e2, e5] at hK ⊢
          clear hd ho e2 e5
          rw [wpOp]
          refine (if_pos rfl).mpr (.inl ?_)
          go_simp
          exact hK _ _ (Below.refl _ _) (show Value.bool _ = Value.bool false by simp)
        | n + 7, ho => simp at ho
      · intro x W hB hx
        have e6 : x 6 = .bool false := hx 6 (by simp)
        simp only [Inv.fill, Act.put, List.setIfInBounds_toArray, List.set_cons_zero, List.set_cons_succ, e6]
        clear hx e6
        have HT2 := Lib.hid (HT.out.next hB)
        clear HT
        go_wp2
        go_roundw
        case rel => exact ⟨k + 1, by omega, by have := HY.out; congr 1; omega, HT2.out⟩
        case measure => simp [intOf]; have := HY.out; omega
    · obtain rfl : k = 66 := by omega
      go_wp2
      refine Inv.wp_region_inv (TellsF2 w.heap.size X v A' cb' blocked nc ms rn ds y8 sv lm bt) (by kernel_rfl) (by kernel_rfl) (by kernel_rfl) ?_ ?_ ?_
      · intro i v W W' _ h hb
        unfold TellsF2 at h ⊢
        split at h <;> first | exact h | exact NewRow.next h hb
      · intro i o x W K ho hB hd hK
        match i, ho with
        | 0, ho =>
          obtain rfl := Option.some.inj ho
          simp only [Inv.fill, Act.put, List.setIfInBounds_toArray, List.set_cons_zero, List.set_cons_succ] at hK ⊢
          clear hd ho
          rw [wpOp]
          refine (if_pos rfl).mpr (.inl ?_)
          have g0 := (HT.out.next hB).lj.box.c0
          have g1 := (HT.out.next hB).lj.box.c1
          have g2 := (HT.out.next hB).lj.box.c2
          have g3 := (HT.out.next hB).lj.box.c3
          have g4 := (HT.out.next hB).lj.box.c4
          have g5 := (HT.out.next hB).lj.box.c5
          have g6 := (HT.out.next hB).lj.box.c6
          have g7 := (HT.out.next hB).lj.box.c7
          have g8 := (HT.out.next hB).lj.box.c8
          have g9 := (HT.out.next hB).lj.box.c9
          have g10 := (HT.out.next hB).lj.box.c10
          have g11 := (HT.out.next hB).lj.box.c11
          have g12 := (HT.out.next hB).lj.box.c12
          go_simp
          exact hK _ _ (Below.refl _ _) rfl
        | 1, ho =>
          obtain rfl := Option.some.inj ho
          have e0 : x 0 = .agg #[.slice v.A v.c.banks.length v.cb, .int .i64 v.c.floors, .int .i64 v.c.home, .slice v.O v.c.order.length v.co, .int .i64 v.c.speed, .int .i64 v.c.width, .int .i64 v.c.dwell, .int .i64 v.c.good, .int .i64 v.c.dead, .int .i64 v.c.lag, .int .i64 v.c.turn, .int .i64 v.c.cost, .int .i64 v.c.full] := hd ⟨0, .data⟩ (by simp) rfl
          simp only [Inv.fill, Act.put, List.setIfInBounds_toArray, List.set_cons_zero, List.set_cons_succ, e0] at hK ⊢
          clear hd ho e0
          rw [wpOp]
          refine (if_pos rfl).mpr (.inl ?_)
          have hc := HCA.out W (HT.out.next hB).lj.inn
          go_simp
          refine hc.mono ?_
          rintro e w2 ⟨rfl, hb2⟩
          exact hK _ _ hb2 rfl
        | 2, ho =>
          obtain rfl := Option.some.inj ho
          simp only [Inv.fill, Act.put, List.setIfInBounds_toArray, List.set_cons_zero, List.set_cons_succ] at hK ⊢
          clear hd ho
          rw [wpOp]
          refine (if_pos rfl).mpr (.inl ?_)
          have g0 := (HT.out.next hB).box.c0
          have g1 := (HT.out.next hB).box.c1
          have g2 := (HT.out.next hB).box.c2
          have g3 := (HT.out.next hB).box.c3
          have g4 := (HT.out.next hB).box.c4
          have g5 := (HT.out.next hB).box.c5
          have g6 := (HT.out.next hB).box.c6
          have g7 := (HT.out.next hB).box.c7
          have g8 := (HT.out.next hB).box.c8
          have g9 := (HT.out.next hB).box.c9
          have g10 := (HT.out.next hB).box.c10
          have g11 := (HT.out.next hB).box.c11
          have g12 := (HT.out.next hB).box.c12
          go_simp
          exact hK _ _ (Below.refl _ _) rfl
        | 3, ho =>
          obtain rfl := Option.some.inj ho
          have e2 : x 2 = .agg #[.slice A' v.c.banks.length cb', .int .i64 v.c.floors, .int .i64 v.c.home, .slice v.O v.c.order.length v.co, .int .i64 v.c.speed, .int .i64 v.c.width, .int .i64 v.c.dwell, .int .i64 v.c.good, .int .i64 v.c.dead, .int .i64 v.c.lag, .int .i64 v.c.turn, .int .i64 v.c.cost, .int .i64 v.c.full] := hd ⟨2, .data⟩ (by simp) rfl
          simp only [Inv.fill, Act.put, List.setIfInBounds_toArray, List.set_cons_zero, List.set_cons_succ, e2] at hK ⊢
          clear hd ho e2
          rw [wpOp]
          refine (if_pos rfl).mpr (.inl ?_)
          have hc := HRCA.out W (HT.out.next hB).inn
          go_simp
          refine hc.mono ?_
          rintro e w2 ⟨rfl, hb2⟩
          exact hK _ _ hb2 rfl
        | 4, ho =>
          obtain rfl := Option.some.inj ho
          have e1 : x 1 = .int .i64 nc := hd ⟨1, .data⟩ (by simp) rfl
          have e3 : x 3 = .int .i64 nc := hd ⟨3, .data⟩ (by simp) rfl
          simp only [Inv.fill, Act.put, List.setIfInBounds_toArray, List.set_cons_zero, List.set_cons_succ, e1, e3] at hK ⊢
          clear hd ho e1 e3
          rw [wpOp]
          refine (if_pos rfl).mpr (.inl ?_)
          go_simp
          exact hK _ _ (Below.refl _ _) (show Value.bool _ = Value.bool true by simp)
        | 5, ho =>
          obtain rfl := Option.some.inj ho
          have e4 : x 4 = .bool true := hd ⟨4, .data⟩ (by simp) rfl
          simp only [Inv.fill, Act.put, List.setIfInBounds_toArray, List.set_cons_zero, List.set_cons_succ, e4] at hK ⊢
          clear hd ho e4
          rw [wpOp]
          refine (if_pos rfl).mpr (.inl ?_)
          go_simp
          exact hK _ _ (Below.refl _ _) rfl
        | 6, ho =>
          obtain rfl := Option.some.inj ho
          have e5 : x 5 = .bool true := hd ⟨5, .guard⟩ (by simp) rfl
          simp only [Inv.fill, Act.put, List.setIfInBounds_toArray, List.set_cons_zero, List.set_cons_succ, e5] at hK ⊢
          clear hd ho e5
          rw [wpOp]
          refine (if_pos rfl).mpr (.inl ?_)
          have g0 := (HT.out.next hB).lj.box.c0
          have g1 := (HT.out.next hB).lj.box.c1
          have g2 := (HT.out.next hB).lj.box.c2
          have g3 := (HT.out.next hB).lj.box.c3
          have g4 := (HT.out.next hB).lj.box.c4
          have g5 := (HT.out.next hB).lj.box.c5
          have g6 := (HT.out.next hB).lj.box.c6
          have g7 := (HT.out.next hB).lj.box.c7
          have g8 := (HT.out.next hB).lj.box.c8
          have g9 := (HT.out.next hB).lj.box.c9
          have g10 := (HT.out.next hB).lj.box.c10
          have g11 := (HT.out.next hB).lj.box.c11
          have g12 := (HT.out.next hB).lj.box.c12
          go_simp
          exact hK _ _ (Below.refl _ _) rfl
        | 7, ho =>
          obtain rfl := Option.some.inj ho
          have e6 : x 6 = .agg #[.slice v.A v.c.banks.length v.cb, .int .i64 v.c.floors, .int .i64 v.c.home, .slice v.O v.c.order.length v.co, .int .i64 v.c.speed, .int .i64 v.c.width, .int .i64 v.c.dwell, .int .i64 v.c.good, .int .i64 v.c.dead, .int .i64 v.c.lag, .int .i64 v.c.turn, .int .i64 v.c.cost, .int .i64 v.c.full] := hd ⟨6, .data⟩ (by simp) rfl
          have e5 : x 5 = .bool true := hd ⟨5, .chain⟩ (by simp) rfl
          simp only [Inv.fill, Act.put, List.setIfInBounds_toArray, List.set_cons_zero, List.set_cons_succ, e6, e5] at hK ⊢
          clear hd ho e6 e5
          rw [wpOp]
          refine (if_pos rfl).mpr (.inl ?_)
          have hc := HMO.out W (HT.out.next hB).lj.inn
          go_simp
          refine hc.mono ?_
          rintro e w2 ⟨rfl, hb2⟩
          exact hK _ _ hb2 rfl
        | 8, ho =>
          obtain rfl := Option.some.inj ho
          have e5 : x 5 = .bool true := hd ⟨5, .guard⟩ (by simp) rfl
          simp only [Inv.fill, Act.put, List.setIfInBounds_toArray, List.set_cons_zero, List.set_cons_succ, e5] at hK ⊢
          clear hd ho e5
          rw [wpOp]
          refine (if_pos rfl).mpr (.inl ?_)
          have g0 := (HT.out.next hB).box.c0
          have g1 := (HT.out.next hB).box.c1
          have g2 := (HT.out.next hB).box.c2
          have g3 := (HT.out.next hB).box.c3
          have g4 := (HT.out.next hB).box.c4
          have g5 := (HT.out.next hB).box.c5
          have g6 := (HT.out.next hB).box.c6
          have g7 := (HT.out.next hB).box.c7
          have g8 := (HT.out.next hB).box.c8
          have g9 := (HT.out.next hB).box.c9
          have g10 := (HT.out.next hB).box.c10
          have g11 := (HT.out.next hB).box.c11
          have g12 := (HT.out.next hB).box.c12
          go_simp
          exact hK _ _ (Below.refl _ _) rfl
        | 9, ho =>
          obtain rfl := Option.some.inj ho
          have e8 : x 8 = .agg #[.slice A' v.c.banks.length cb', .int .i64 v.c.floors, .int .i64 v.c.home, .slice v.O v.c.order.length v.co, .int .i64 v.c.speed, .int .i64 v.c.width, .int .i64 v.c.dwell, .int .i64 v.c.good, .int .i64 v.c.dead, .int .i64 v.c.lag, .int .i64 v.c.turn, .int .i64 v.c.cost, .int .i64 v.c.full] := hd ⟨8, .data⟩ (by simp) rfl
          have e5 : x 5 = .bool true := hd ⟨5, .guard⟩ (by simp) rfl
          simp only [Inv.fill, Act.put, List.setIfInBounds_toArray, List.set_cons_zero, List.set_cons_succ, e8, e5] at hK ⊢
          clear hd ho e8 e5
          rw [wpOp]
          refine (if_pos rfl).mpr (.inl ?_)
          have hc := HRMO.out W (HT.out.next hB).inn
          go_simp
          refine hc.mono ?_
          rintro e w2 ⟨rfl, hb2⟩
          exact hK _ _ hb2 rfl
        | 10, ho =>
          obtain rfl := Option.some.inj ho
          have e7 : x 7 = .int .i64 ms := hd ⟨7, .data⟩ (by simp) rfl
          have e9 : x 9 = .int .i64 ms := hd ⟨9, .data⟩ (by simp) rfl
          have e5 : x 5 = .bool true := hd ⟨5, .guard⟩ (by simp) rfl
          simp only [Inv.fill, Act.put, List.setIfInBounds_toArray, List.set_cons_zero, List.set_cons_succ, e7, e9, e5] at hK ⊢
          clear hd ho e7 e9 e5
          rw [wpOp]
          refine (if_pos rfl).mpr (.inl ?_)
          go_simp
          exact hK _ _ (Below.refl _ _) (show Value.bool _ = Value.bool true by simp)
        | 11, ho =>
          obtain rfl := Option.some.inj ho
          have e5 : x 5 = .bool true := hd ⟨5, .data⟩ (by simp) rfl
          have e10 : x 10 = .bool true := hd ⟨10, .data⟩ (by simp) rfl
          simp only [Inv.fill, Act.put, List.setIfInBounds_toArray, List.set_cons_zero, List.set_cons_succ, e5, e10] at hK ⊢
          clear hd ho e5 e10
          rw [wpOp]
          refine (if_pos rfl).mpr (.inl ?_)
          go_simp
          exact hK _ _ (Below.refl _ _) rfl
        | 12, ho =>
          obtain rfl := Option.some.inj ho
          have e11 : x 11 = .bool true := hd ⟨11, .data⟩ (by simp) rfl
          simp only [Inv.fill, Act.put, List.setIfInBounds_toArray, List.set_cons_zero, List.set_cons_succ, e11] at hK ⊢
          clear hd ho e11
          rw [wpOp]
          refine (if_pos rfl).mpr (.inl ?_)
          go_simp
          exact hK _ _ (Below.refl _ _) rfl
        | 13, ho =>
          obtain rfl := Option.some.inj ho
          have e12 : x 12 = .bool true := hd ⟨12, .guard⟩ (by simp) rfl
          simp only [Inv.fill, Act.put, List.setIfInBounds_toArray, List.set_cons_zero, List.set_cons_succ, e12] at hK ⊢
          clear hd ho e12
          rw [wpOp]
          refine (if_pos rfl).mpr (.inl ?_)
          have g0 := (HT.out.next hB).lj.box.c0
          have g1 := (HT.out.next hB).lj.box.c1
          have g2 := (HT.out.next hB).lj.box.c2
          have g3 := (HT.out.next hB).lj.box.c3
          have g4 := (HT.out.next hB).lj.box.c4
          have g5 := (HT.out.next hB).lj.box.c5
          have g6 := (HT.out.next hB).lj.box.c6
          have g7 := (HT.out.next hB).lj.box.c7
          have g8 := (HT.out.next hB).lj.box.c8
          have g9 := (HT.out.next hB).lj.box.c9
          have g10 := (HT.out.next hB).lj.box.c10
          have g11 := (HT.out.next hB).lj.box.c11
          have g12 := (HT.out.next hB).lj.box.c12
          go_simp
          exact hK _ _ (Below.refl _ _) rfl
        | 14, ho =>
          obtain rfl := Option.some.inj ho
          have e13 : x 13 = .agg #[.slice v.A v.c.banks.length v.cb, .int .i64 v.c.floors, .int .i64 v.c.home, .slice v.O v.c.order.length v.co, .int .i64 v.c.speed, .int .i64 v.c.width, .int .i64 v.c.dwell, .int .i64 v.c.good, .int .i64 v.c.dead, .int .i64 v.c.lag, .int .i64 v.c.turn, .int .i64 v.c.cost, .int .i64 v.c.full] := hd ⟨13, .data⟩ (by simp) rfl
          have e12 : x 12 = .bool true := hd ⟨12, .chain⟩ (by simp) rfl
          simp only [Inv.fill, Act.put, List.setIfInBounds_toArray, List.set_cons_zero, List.set_cons_succ, e13, e12] at hK ⊢
          clear hd ho e13 e12
          rw [wpOp]
          refine (if_pos rfl).mpr (.inl ?_)
          have hc := HRU.out W
          go_simp
          refine hc.mono ?_
          rintro e w2 ⟨rfl, hb2⟩
          exact hK _ _ hb2 rfl
        | 15, ho =>
          obtain rfl := Option.some.inj ho
          have e12 : x 12 = .bool true := hd ⟨12, .guard⟩ (by simp) rfl
          simp only [Inv.fill, Act.put, List.setIfInBounds_toArray, List.set_cons_zero, List.set_cons_succ, e12] at hK ⊢
          clear hd ho e12
          rw [wpOp]
          refine (if_pos rfl).mpr (.inl ?_)
          have g0 := (HT.out.next hB).box.c0
          have g1 := (HT.out.next hB).box.c1
          have g2 := (HT.out.next hB).box.c2
          have g3 := (HT.out.next hB).box.c3
          have g4 := (HT.out.next hB).box.c4
          have g5 := (HT.out.next hB).box.c5
          have g6 := (HT.out.next hB).box.c6
          have g7 := (HT.out.next hB).box.c7
          have g8 := (HT.out.next hB).box.c8
          have g9 := (HT.out.next hB).box.c9
          have g10 := (HT.out.next hB).box.c10
          have g11 := (HT.out.next hB).box.c11
          have g12 := (HT.out.next hB).box.c12
          go_simp
          exact hK _ _ (Below.refl _ _) rfl
        | 16, ho =>
          obtain rfl := Option.some.inj ho
          have e15 : x 15 = .agg #[.slice A' v.c.banks.length cb', .int .i64 v.c.floors, .int .i64 v.c.home, .slice v.O v.c.order.length v.co, .int .i64 v.c.speed, .int .i64 v.c.width, .int .i64 v.c.dwell, .int .i64 v.c.good, .int .i64 v.c.dead, .int .i64 v.c.lag, .int .i64 v.c.turn, .int .i64 v.c.cost, .int .i64 v.c.full] := hd ⟨15, .data⟩ (by simp) rfl
          have e12 : x 12 = .bool true := hd ⟨12, .guard⟩ (by simp) rfl
          simp only [Inv.fill, Act.put, List.setIfInBounds_toArray, List.set_cons_zero, List.set_cons_succ, e15, e12] at hK ⊢
          clear hd ho e15 e12
          rw [wpOp]
          refine (if_pos rfl).mpr (.inl ?_)
          have hc := HRRU.out W
          go_simp
          refine hc.mono ?_
          rintro e w2 ⟨rfl, hb2⟩
          exact hK _ _ hb2 rfl
        | 17, ho =>
          obtain rfl := Option.some.inj ho
          have e14 : x 14 = .int .i64 rn := hd ⟨14, .data⟩ (by simp) rfl
          have e16 : x 16 = .int .i64 rn := hd ⟨16, .data⟩ (by simp) rfl
          have e12 : x 12 = .bool true := hd ⟨12, .guard⟩ (by simp) rfl
          simp only [Inv.fill, Act.put, List.setIfInBounds_toArray, List.set_cons_zero, List.set_cons_succ, e14, e16, e12] at hK ⊢
          clear hd ho e14 e16 e12
          rw [wpOp]
          refine (if_pos rfl).mpr (.inl ?_)
          go_simp
          exact hK _ _ (Below.refl _ _) (show Value.bool _ = Value.bool true by simp)
        | 18, ho =>
          obtain rfl := Option.some.inj ho
          have e12 : x 12 = .bool true := hd ⟨12, .data⟩ (by simp) rfl
          have e17 : x 17 = .bool true := hd ⟨17, .data⟩ (by simp) rfl
          simp only [Inv.fill, Act.put, List.setIfInBounds_toArray, List.set_cons_zero, List.set_cons_succ, e12, e17] at hK ⊢
          clear hd ho e12 e17
          rw [wpOp]
          refine (if_pos rfl).mpr (.inl ?_)
          go_simp
          exact hK _ _ (Below.refl _ _) rfl
        | 19, ho =>
          obtain rfl := Option.some.inj ho
          have e18 : x 18 = .bool true := hd ⟨18, .data⟩ (by simp) rfl
          simp only [Inv.fill, Act.put, List.setIfInBounds_toArray, List.set_cons_zero, List.set_cons_succ, e18] at hK ⊢
          clear hd ho e18
          rw [wpOp]
          refine (if_pos rfl).mpr (.inl ?_)
          go_simp
          exact hK _ _ (Below.refl _ _) rfl
        | 20, ho =>
          obtain rfl := Option.some.inj ho
          have e19 : x 19 = .bool true := hd ⟨19, .guard⟩ (by simp) rfl
          simp only [Inv.fill, Act.put, List.setIfInBounds_toArray, List.set_cons_zero, List.set_cons_succ, e19] at hK ⊢
          clear hd ho e19
          rw [wpOp]
          refine (if_pos rfl).mpr (.inl ?_)
          have g0 := (HT.out.next hB).lj.box.c0
          have g1 := (HT.out.next hB).lj.box.c1
          have g2 := (HT.out.next hB).lj.box.c2
          have g3 := (HT.out.next hB).lj.box.c3
          have g4 := (HT.out.next hB).lj.box.c4
          have g5 := (HT.out.next hB).lj.box.c5
          have g6 := (HT.out.next hB).lj.box.c6
          have g7 := (HT.out.next hB).lj.box.c7
          have g8 := (HT.out.next hB).lj.box.c8
          have g9 := (HT.out.next hB).lj.box.c9
          have g10 := (HT.out.next hB).lj.box.c10
          have g11 := (HT.out.next hB).lj.box.c11
          have g12 := (HT.out.next hB).lj.box.c12
          go_simp
          exact hK _ _ (Below.refl _ _) rfl
        | 21, ho =>
          obtain rfl := Option.some.inj ho
          have e20 : x 20 = .agg #[.slice v.A v.c.banks.length v.cb, .int .i64 v.c.floors, .int .i64 v.c.home, .slice v.O v.c.order.length v.co, .int .i64 v.c.speed, .int .i64 v.c.width, .int .i64 v.c.dwell, .int .i64 v.c.good, .int .i64 v.c.dead, .int .i64 v.c.lag, .int .i64 v.c.turn, .int .i64 v.c.cost, .int .i64 v.c.full] := hd ⟨20, .data⟩ (by simp) rfl
          have e19 : x 19 = .bool true := hd ⟨19, .chain⟩ (by simp) rfl
          simp only [Inv.fill, Act.put, List.setIfInBounds_toArray, List.set_cons_zero, List.set_cons_succ, e20, e19] at hK ⊢
          clear hd ho e20 e19
          rw [wpOp]
          refine (if_pos rfl).mpr (.inl ?_)
          have hc := HDO.out W
          go_simp
          refine hc.mono ?_
          rintro e w2 ⟨rfl, hb2⟩
          exact hK _ _ hb2 rfl
        | 22, ho =>
          obtain rfl := Option.some.inj ho
          have e19 : x 19 = .bool true := hd ⟨19, .guard⟩ (by simp) rfl
          simp only [Inv.fill, Act.put, List.setIfInBounds_toArray, List.set_cons_zero, List.set_cons_succ, e19] at hK ⊢
          clear hd ho e19
          rw [wpOp]
          refine (if_pos rfl).mpr (.inl ?_)
          go_simp
          exact hK _ _ (Below.refl _ _) rfl
        | 23, ho =>
          obtain rfl := Option.some.inj ho
          have e22 : x 22 = .pointer (some ⟨w.heap.size, 5, none⟩) := hd ⟨22, .data⟩ (by simp) rfl
          have e19 : x 19 = .bool true := hd ⟨19, .guard⟩ (by simp) rfl
          simp only [Inv.fill, Act.put, List.setIfInBounds_toArray, List.set_cons_zero, List.set_cons_succ, e22, e19] at hK ⊢
          clear hd ho e22 e19
          rw [wpOp]
          refine (if_pos rfl).mpr (.inl ?_)
          have g5 := (HT.out.next hB).lj.box.c5
          go_simp
          exact hK _ _ (Below.refl _ _) rfl
        | 24, ho =>
          obtain rfl := Option.some.inj ho
          have e23 : x 23 = .int .i64 v.c.width := hd ⟨23, .data⟩ (by simp) rfl
          have e19 : x 19 = .bool true := hd ⟨19, .guard⟩ (by simp) rfl
          simp only [Inv.fill, Act.put, List.setIfInBounds_toArray, List.set_cons_zero, List.set_cons_succ, e23, e19] at hK ⊢
          clear hd ho e23 e19
          rw [wpOp]
          refine (if_pos rfl).mpr (.inl ?_)
          go_simp
          exact hK _ _ (Below.refl _ _) (congrArg (Value.int .i64) E1.out)
        | 25, ho =>
          obtain rfl := Option.some.inj ho
          have e21 : x 21 = .int .i64 ds := hd ⟨21, .data⟩ (by simp) rfl
          have e24 : x 24 = .int .i64 ds := hd ⟨24, .data⟩ (by simp) rfl
          have e19 : x 19 = .bool true := hd ⟨19, .guard⟩ (by simp) rfl
          simp only [Inv.fill, Act.put, List.setIfInBounds_toArray, List.set_cons_zero, List.set_cons_succ, e21, e24, e19] at hK ⊢
          clear hd ho e21 e24 e19
          rw [wpOp]
          refine (if_pos rfl).mpr (.inl ?_)
          go_simp
          exact hK _ _ (Below.refl _ _) (show Value.bool _ = Value.bool true by simp)
        | 26, ho =>
          obtain rfl := Option.some.inj ho
          have e19 : x 19 = .bool true := hd ⟨19, .data⟩ (by simp) rfl
          have e25 : x 25 = .bool true := hd ⟨25, .data⟩ (by simp) rfl
          simp only [Inv.fill, Act.put, List.setIfInBounds_toArray, List.set_cons_zero, List.set_cons_succ, e19, e25] at hK ⊢
          clear hd ho e19 e25
          rw [wpOp]
          refine (if_pos rfl).mpr (.inl ?_)
          go_simp
          exact hK _ _ (Below.refl _ _) rfl
        | 27, ho =>
          obtain rfl := Option.some.inj ho
          have e26 : x 26 = .bool true := hd ⟨26, .data⟩ (by simp) rfl
          simp only [Inv.fill, Act.put, List.setIfInBounds_toArray, List.set_cons_zero, List.set_cons_succ, e26] at hK ⊢
          clear hd ho e26
          rw [wpOp]
          refine (if_pos rfl).mpr (.inl ?_)
          go_simp
          exact hK _ _ (Below.refl _ _) rfl
        | 28, ho =>
          obtain rfl := Option.some.inj ho
          have e27 : x 27 = .bool true := hd ⟨27, .guard⟩ (by simp) rfl
          simp only [Inv.fill, Act.put, List.setIfInBounds_toArray, List.set_cons_zero, List.set_cons_succ, e27] at hK ⊢
          clear hd ho e27
          rw [wpOp]
          refine (if_pos rfl).mpr (.inl ?_)
          have g0 := (HT.out.next hB).lj.box.c0
          have g1 := (HT.out.next hB).lj.box.c1
          have g2 := (HT.out.next hB).lj.box.c2
          have g3 := (HT.out.next hB).lj.box.c3
          have g4 := (HT.out.next hB).lj.box.c4
          have g5 := (HT.out.next hB).lj.box.c5
          have g6 := (HT.out.next hB).lj.box.c6
          have g7 := (HT.out.next hB).lj.box.c7
          have g8 := (HT.out.next hB).lj.box.c8
          have g9 := (HT.out.next hB).lj.box.c9
          have g10 := (HT.out.next hB).lj.box.c10
          have g11 := (HT.out.next hB).lj.box.c11
          have g12 := (HT.out.next hB).lj.box.c12
          go_simp
          exact hK _ _ (Below.refl _ _) rfl
        | 29, ho =>
          obtain rfl := Option.some.inj ho
          have e28 : x 28 = .agg #[.slice v.A v.c.banks.length v.cb, .int .i64 v.c.floors, .int .i64 v.c.home, .slice v.O v.c.order.length v.co, .int .i64 v.c.speed, .int .i64 v.c.width, .int .i64 v.c.dwell, .int .i64 v.c.good, .int .i64 v.c.dead, .int .i64 v.c.lag, .int .i64 v.c.turn, .int .i64 v.c.cost, .int .i64 v.c.full] := hd ⟨28, .data⟩ (by simp) rfl
          have e27 : x 27 = .bool true := hd ⟨27, .chain⟩ (by simp) rfl
          simp only [Inv.fill, Act.put, List.setIfInBounds_toArray, List.set_cons_zero, List.set_cons_succ, e28, e27] at hK ⊢
          clear hd ho e28 e27
          rw [wpOp]
          refine (if_pos rfl).mpr (.inl ?_)
          have hc := HSA.out W
          go_simp
          refine hc.mono ?_
          rintro e w2 ⟨rfl, hb2⟩
          exact hK _ _ hb2 rfl
        | 30, ho =>
          obtain rfl := Option.some.inj ho
          have e27 : x 27 = .bool true := hd ⟨27, .guard⟩ (by simp) rfl
          simp only [Inv.fill, Act.put, List.setIfInBounds_toArray, List.set_cons_zero, List.set_cons_succ, e27] at hK ⊢
          clear hd ho e27
          rw [wpOp]
          refine (if_pos rfl).mpr (.inl ?_)
          go_simp
          exact hK _ _ (Below.refl _ _) rfl
        | 31, ho =>
          obtain rfl := Option.some.inj ho
          have e30 : x 30 = .pointer (some ⟨w.heap.size, 11, none⟩) := hd ⟨30, .data⟩ (by simp) rfl
          have e27 : x 27 = .bool true := hd ⟨27, .guard⟩ (by simp) rfl
          simp only [Inv.fill, Act.put, List.setIfInBounds_toArray, List.set_cons_zero, List.set_cons_succ, e30, e27] at hK ⊢
          clear hd ho e30 e27
          rw [wpOp]
          refine (if_pos rfl).mpr (.inl ?_)
          have g11 := (HT.out.next hB).lj.box.c11
          go_simp
          exact hK _ _ (Below.refl _ _) rfl
        | 32, ho =>
          obtain rfl := Option.some.inj ho
          have e27 : x 27 = .bool true := hd ⟨27, .guard⟩ (by simp) rfl
          simp only [Inv.fill, Act.put, List.setIfInBounds_toArray, List.set_cons_zero, List.set_cons_succ, e27] at hK ⊢
          clear hd ho e27
          rw [wpOp]
          refine (if_pos rfl).mpr (.inl ?_)
          go_simp
          exact hK _ _ (Below.refl _ _) rfl
        | 33, ho =>
          obtain rfl := Option.some.inj ho
          have e32 : x 32 = .pointer (some ⟨w.heap.size, 5, none⟩) := hd ⟨32, .data⟩ (by simp) rfl
          have e27 : x 27 = .bool true := hd ⟨27, .guard⟩ (by simp) rfl
          simp only [Inv.fill, Act.put, List.setIfInBounds_toArray, List.set_cons_zero, List.set_cons_succ, e32, e27] at hK ⊢
          clear hd ho e32 e27
          rw [wpOp]
          refine (if_pos rfl).mpr (.inl ?_)
          have g5 := (HT.out.next hB).lj.box.c5
          go_simp
          exact hK _ _ (Below.refl _ _) rfl
        | 34, ho =>
          obtain rfl := Option.some.inj ho
          have e33 : x 33 = .int .i64 v.c.width := hd ⟨33, .data⟩ (by simp) rfl
          have e27 : x 27 = .bool true := hd ⟨27, .guard⟩ (by simp) rfl
          simp only [Inv.fill, Act.put, List.setIfInBounds_toArray, List.set_cons_zero, List.set_cons_succ, e33, e27] at hK ⊢
          clear hd ho e33 e27
          rw [wpOp]
          refine (if_pos rfl).mpr (.inl ?_)
          go_simp
          exact hK _ _ (Below.refl _ _) (congrArg (Value.int .i64) E2.out)
        | 35, ho =>
          obtain rfl := Option.some.inj ho
          have e31 : x 31 = .int .i64 v.c.cost := hd ⟨31, .data⟩ (by simp) rfl
          have e34 : x 34 = .int .i64 y8 := hd ⟨34, .data⟩ (by simp) rfl
          have e27 : x 27 = .bool true := hd ⟨27, .guard⟩ (by simp) rfl
          simp only [Inv.fill, Act.put, List.setIfInBounds_toArray, List.set_cons_zero, List.set_cons_succ, e31, e34, e27] at hK ⊢
          clear hd ho e31 e34 e27
          rw [wpOp]
          refine (if_pos rfl).mpr (.inl ?_)
          go_simp
          exact hK _ _ (Below.refl _ _) (congrArg (Value.int .i64) E3.out)
        | 36, ho =>
          obtain rfl := Option.some.inj ho
          have e29 : x 29 = .int .i64 sv := hd ⟨29, .data⟩ (by simp) rfl
          have e35 : x 35 = .int .i64 sv := hd ⟨35, .data⟩ (by simp) rfl
          have e27 : x 27 = .bool true := hd ⟨27, .guard⟩ (by simp) rfl
          simp only [Inv.fill, Act.put, List.setIfInBounds_toArray, List.set_cons_zero, List.set_cons_succ, e29, e35, e27] at hK ⊢
          clear hd ho e29 e35 e27
          rw [wpOp]
          refine (if_pos rfl).mpr (.inl ?_)
          go_simp
          exact hK _ _ (Below.refl _ _) (show Value.bool _ = Value.bool true by simp)
        | 37, ho =>
          obtain rfl := Option.some.inj ho
          have e27 : x 27 = .bool true := hd ⟨27, .data⟩ (by simp) rfl
          have e36 : x 36 = .bool true := hd ⟨36, .data⟩ (by simp) rfl
          simp only [Inv.fill, Act.put, List.setIfInBounds_toArray, List.set_cons_zero, List.set_cons_succ, e27, e36] at hK ⊢
          clear hd ho e27 e36
          rw [wpOp]
          refine (if_pos rfl).mpr (.inl ?_)
          go_simp
          exact hK _ _ (Below.refl _ _) rfl
        | 38, ho =>
          obtain rfl := Option.some.inj ho
          have e37 : x 37 = .bool true := hd ⟨37, .data⟩ (by simp) rfl
          simp only [Inv.fill, Act.put, List.setIfInBounds_toArray, List.set_cons_zero, List.set_cons_succ, e37] at hK ⊢
          clear hd ho e37
          rw [wpOp]
          refine (if_pos rfl).mpr (.inl ?_)
          go_simp
          exact hK _ _ (Below.refl _ _) rfl
        | 39, ho =>
          obtain rfl := Option.some.inj ho
          have e38 : x 38 = .bool true := hd ⟨38, .guard⟩ (by simp) rfl
          simp only [Inv.fill, Act.put, List.setIfInBounds_toArray, List.set_cons_zero, List.set_cons_succ, e38] at hK ⊢
          clear hd ho e38
          rw [wpOp]
          refine (if_pos rfl).mpr (.inl ?_)
          have g0 := (HT.out.next hB).lj.box.c0
          have g1 := (HT.out.next hB).lj.box.c1
          have g2 := (HT.out.next hB).lj.box.c2
          have g3 := (HT.out.next hB).lj.box.c3
          have g4 := (HT.out.next hB).lj.box.c4
          have g5 := (HT.out.next hB).lj.box.c5
          have g6 := (HT.out.next hB).lj.box.c6
          have g7 := (HT.out.next hB).lj.box.c7
          have g8 := (HT.out.next hB).lj.box.c8
          have g9 := (HT.out.next hB).lj.box.c9
          have g10 := (HT.out.next hB).lj.box.c10
          have g11 := (HT.out.next hB).lj.box.c11
          have g12 := (HT.out.next hB).lj.box.c12
          go_simp
          exact hK _ _ (Below.refl _ _) rfl
        | 40, ho =>
          obtain rfl := Option.some.inj ho
          have e38 : x 38 = .bool true := hd ⟨38, .guard⟩ (by simp) rfl
          simp only [Inv.fill, Act.put, List.setIfInBounds_toArray, List.set_cons_zero, List.set_cons_succ, e38] at hK ⊢
          clear hd ho e38
          rw [wpOp]
          refine (if_pos rfl).mpr (.inl ?_)
          go_simp
          exact hK _ _ (Below.refl _ _) rfl
        | 41, ho =>
          obtain rfl := Option.some.inj ho
          have e39 : x 39 = .agg #[.slice v.A v.c.banks.length v.cb, .int .i64 v.c.floors, .int .i64 v.c.home, .slice v.O v.c.order.length v.co, .int .i64 v.c.speed, .int .i64 v.c.width, .int .i64 v.c.dwell, .int .i64 v.c.good, .int .i64 v.c.dead, .int .i64 v.c.lag, .int .i64 v.c.turn, .int .i64 v.c.cost, .int .i64 v.c.full] := hd ⟨39, .data⟩ (by simp) rfl
          have e40 : x 40 = .int .i64 blocked := hd ⟨40, .data⟩ (by simp) rfl
          have e38 : x 38 = .bool true := hd ⟨38, .chain⟩ (by simp) rfl
          simp only [Inv.fill, Act.put, List.setIfInBounds_toArray, List.set_cons_zero, List.set_cons_succ, e39, e40, e38] at hK ⊢
          clear hd ho e39 e40 e38
          rw [wpOp]
          refine (if_pos rfl).mpr (.inl ?_)
          have hc := HLI.out W (HT.out.next hB).lj.inn
          go_simp
          refine hc.mono ?_
          rintro e w2 ⟨rfl, hb2⟩
          exact hK _ _ hb2 rfl
        | 42, ho =>
          obtain rfl := Option.some.inj ho
          have e38 : x 38 = .bool true := hd ⟨38, .guard⟩ (by simp) rfl
          simp only [Inv.fill, Act.put, List.setIfInBounds_toArray, List.set_cons_zero, List.set_cons_succ, e38] at hK ⊢
          clear hd ho e38
          rw [wpOp]
          refine (if_pos rfl).mpr (.inl ?_)
          have g0 := (HT.out.next hB).box.c0
          have g1 := (HT.out.next hB).box.c1
          have g2 := (HT.out.next hB).box.c2
          have g3 := (HT.out.next hB).box.c3
          have g4 := (HT.out.next hB).box.c4
          have g5 := (HT.out.next hB).box.c5
          have g6 := (HT.out.next hB).box.c6
          have g7 := (HT.out.next hB).box.c7
          have g8 := (HT.out.next hB).box.c8
          have g9 := (HT.out.next hB).box.c9
          have g10 := (HT.out.next hB).box.c10
          have g11 := (HT.out.next hB).box.c11
          have g12 := (HT.out.next hB).box.c12
          go_simp
          exact hK _ _ (Below.refl _ _) rfl
        | 43, ho =>
          obtain rfl := Option.some.inj ho
          have e38 : x 38 = .bool true := hd ⟨38, .guard⟩ (by simp) rfl
          simp only [Inv.fill, Act.put, List.setIfInBounds_toArray, List.set_cons_zero, List.set_cons_succ, e38] at hK ⊢
          clear hd ho e38
          rw [wpOp]
          refine (if_pos rfl).mpr (.inl ?_)
          go_simp
          exact hK _ _ (Below.refl _ _) rfl
        | 44, ho =>
          obtain rfl := Option.some.inj ho
          have e42 : x 42 = .agg #[.slice A' v.c.banks.length cb', .int .i64 v.c.floors, .int .i64 v.c.home, .slice v.O v.c.order.length v.co, .int .i64 v.c.speed, .int .i64 v.c.width, .int .i64 v.c.dwell, .int .i64 v.c.good, .int .i64 v.c.dead, .int .i64 v.c.lag, .int .i64 v.c.turn, .int .i64 v.c.cost, .int .i64 v.c.full] := hd ⟨42, .data⟩ (by simp) rfl
          have e43 : x 43 = .int .i64 blocked := hd ⟨43, .data⟩ (by simp) rfl
          have e38 : x 38 = .bool true := hd ⟨38, .guard⟩ (by simp) rfl
          simp only [Inv.fill, Act.put, List.setIfInBounds_toArray, List.set_cons_zero, List.set_cons_succ, e42, e43, e38] at hK ⊢
          clear hd ho e42 e43 e38
          rw [wpOp]
          refine (if_pos rfl).mpr (.inl ?_)
          have hc := HRLI.out W (HT.out.next hB).inn
          go_simp
          refine hc.mono ?_
          rintro e w2 ⟨rfl, hb2⟩
          exact hK _ _ hb2 rfl
        | 45, ho =>
          obtain rfl := Option.some.inj ho
          have e41 : x 41 = .int .i64 lm := hd ⟨41, .data⟩ (by simp) rfl
          have e44 : x 44 = .int .i64 lm := hd ⟨44, .data⟩ (by simp) rfl
          have e38 : x 38 = .bool true := hd ⟨38, .guard⟩ (by simp) rfl
          simp only [Inv.fill, Act.put, List.setIfInBounds_toArray, List.set_cons_zero, List.set_cons_succ, e41, e44, e38] at hK ⊢
          clear hd ho e41 e44 e38
          rw [wpOp]
          refine (if_pos rfl).mpr (.inl ?_)
          go_simp
          exact hK _ _ (Below.refl _ _) (show Value.bool _ = Value.bool true by simp)
        | 46, ho =>
          obtain rfl := Option.some.inj ho
          have e38 : x 38 = .bool true := hd ⟨38, .data⟩ (by simp) rfl
          have e45 : x 45 = .bool true := hd ⟨45, .data⟩ (by simp) rfl
          simp only [Inv.fill, Act.put, List.setIfInBounds_toArray, List.set_cons_zero, List.set_cons_succ, e38, e45] at hK ⊢
          clear hd ho e38 e45
          rw [wpOp]
          refine (if_pos rfl).mpr (.inl ?_)
          go_simp
          exact hK _ _ (Below.refl _ _) rfl
        | 47, ho =>
          obtain rfl := Option.some.inj ho
          have e46 : x 46 = .bool true := hd ⟨46, .data⟩ (by simp) rfl
          simp only [Inv.fill, Act.put, List.setIfInBounds_toArray, List.set_cons_zero, List.set_cons_succ, e46] at hK ⊢
          clear hd ho e46
          rw [wpOp]
          refine (if_pos rfl).mpr (.inl ?_)
          go_simp
          exact hK _ _ (Below.refl _ _) rfl
        | 48, ho =>
          obtain rfl := Option.some.inj ho
          have e47 : x 47 = .bool true := hd ⟨47, .guard⟩ (by simp) rfl
          simp only [Inv.fill, Act.put, List.setIfInBounds_toArray, List.set_cons_zero, List.set_cons_succ, e47] at hK ⊢
          clear hd ho e47
          rw [wpOp]
          refine (if_pos rfl).mpr (.inl ?_)
          have g0 := (HT.out.next hB).lj.box.c0
          have g1 := (HT.out.next hB).lj.box.c1
          have g2 := (HT.out.next hB).lj.box.c2
          have g3 := (HT.out.next hB).lj.box.c3
          have g4 := (HT.out.next hB).lj.box.c4
          have g5 := (HT.out.next hB).lj.box.c5
          have g6 := (HT.out.next hB).lj.box.c6
          have g7 := (HT.out.next hB).lj.box.c7
          have g8 := (HT.out.next hB).lj.box.c8
          have g9 := (HT.out.next hB).lj.box.c9
          have g10 := (HT.out.next hB).lj.box.c10
          have g11 := (HT.out.next hB).lj.box.c11
          have g12 := (HT.out.next hB).lj.box.c12
          go_simp
          exact hK _ _ (Below.refl _ _) rfl
        | 49, ho =>
          obtain rfl := Option.some.inj ho
          have e47 : x 47 = .bool true := hd ⟨47, .guard⟩ (by simp) rfl
          simp only [Inv.fill, Act.put, List.setIfInBounds_toArray, List.set_cons_zero, List.set_cons_succ, e47] at hK ⊢
          clear hd ho e47
          rw [wpOp]
          refine (if_pos rfl).mpr (.inl ?_)
          go_simp
          exact hK _ _ (Below.refl _ _) rfl
        | 50, ho =>
          obtain rfl := Option.some.inj ho
          have e48 : x 48 = .agg #[.slice v.A v.c.banks.length v.cb, .int .i64 v.c.floors, .int .i64 v.c.home, .slice v.O v.c.order.length v.co, .int .i64 v.c.speed, .int .i64 v.c.width, .int .i64 v.c.dwell, .int .i64 v.c.good, .int .i64 v.c.dead, .int .i64 v.c.lag, .int .i64 v.c.turn, .int .i64 v.c.cost, .int .i64 v.c.full] := hd ⟨48, .data⟩ (by simp) rfl
          have e49 : x 49 = .int .i64 blocked := hd ⟨49, .data⟩ (by simp) rfl
          have e47 : x 47 = .bool true := hd ⟨47, .chain⟩ (by simp) rfl
          simp only [Inv.fill, Act.put, List.setIfInBounds_toArray, List.set_cons_zero, List.set_cons_succ, e48, e49, e47] at hK ⊢
          clear hd ho e48 e49 e47
          rw [wpOp]
          refine (if_pos rfl).mpr (.inl ?_)
          have hc := HBK.out W
          go_simp
          refine hc.mono ?_
          rintro e w2 ⟨rfl, hb2⟩
          exact hK _ _ hb2 rfl
        | 51, ho =>
          obtain rfl := Option.some.inj ho
          have e47 : x 47 = .bool true := hd ⟨47, .guard⟩ (by simp) rfl
          simp only [Inv.fill, Act.put, List.setIfInBounds_toArray, List.set_cons_zero, List.set_cons_succ, e47] at hK ⊢
          clear hd ho e47
          rw [wpOp]
          refine (if_pos rfl).mpr (.inl ?_)
          have g0 := (HT.out.next hB).box.c0
          have g1 := (HT.out.next hB).box.c1
          have g2 := (HT.out.next hB).box.c2
          have g3 := (HT.out.next hB).box.c3
          have g4 := (HT.out.next hB).box.c4
          have g5 := (HT.out.next hB).box.c5
          have g6 := (HT.out.next hB).box.c6
          have g7 := (HT.out.next hB).box.c7
          have g8 := (HT.out.next hB).box.c8
          have g9 := (HT.out.next hB).box.c9
          have g10 := (HT.out.next hB).box.c10
          have g11 := (HT.out.next hB).box.c11
          have g12 := (HT.out.next hB).box.c12
          go_simp
          exact hK _ _ (Below.refl _ _) rfl
        | 52, ho =>
          obtain rfl := Option.some.inj ho
          have e47 : x 47 = .bool true := hd ⟨47, .guard⟩ (by simp) rfl
          simp only [Inv.fill, Act.put, List.setIfInBounds_toArray, List.set_cons_zero, List.set_cons_succ, e47] at hK ⊢
          clear hd ho e47
          rw [wpOp]
          refine (if_pos rfl).mpr (.inl ?_)
          go_simp
          exact hK _ _ (Below.refl _ _) rfl
        | 53, ho =>
          obtain rfl := Option.some.inj ho
          have e51 : x 51 = .agg #[.slice A' v.c.banks.length cb', .int .i64 v.c.floors, .int .i64 v.c.home, .slice v.O v.c.order.length v.co, .int .i64 v.c.speed, .int .i64 v.c.width, .int .i64 v.c.dwell, .int .i64 v.c.good, .int .i64 v.c.dead, .int .i64 v.c.lag, .int .i64 v.c.turn, .int .i64 v.c.cost, .int .i64 v.c.full] := hd ⟨51, .data⟩ (by simp) rfl
          have e52 : x 52 = .int .i64 blocked := hd ⟨52, .data⟩ (by simp) rfl
          have e47 : x 47 = .bool true := hd ⟨47, .guard⟩ (by simp) rfl
          simp only [Inv.fill, Act.put, List.setIfInBounds_toArray, List.set_cons_zero, List.set_cons_succ, e51, e52, e47] at hK ⊢
          clear hd ho e51 e52 e47
          rw [wpOp]
          refine (if_pos rfl).mpr (.inl ?_)
          have hc := HRBK.out W
          go_simp
          refine hc.mono ?_
          rintro e w2 ⟨rfl, hb2⟩
          exact hK _ _ hb2 rfl
        | 54, ho =>
          obtain rfl := Option.some.inj ho
          have e50 : x 50 = .int .i64 bt := hd ⟨50, .data⟩ (by simp) rfl
          have e53 : x 53 = .int .i64 bt := hd ⟨53, .data⟩ (by simp) rfl
          have e47 : x 47 = .bool true := hd ⟨47, .guard⟩ (by simp) rfl
          simp only [Inv.fill, Act.put, List.setIfInBounds_toArray, List.set_cons_zero, List.set_cons_succ, e50, e53, e47] at hK ⊢
          clear hd ho e50 e53 e47
          rw [wpOp]
          refine (if_pos rfl).mpr (.inl ?_)
          go_simp
          exact hK _ _ (Below.refl _ _) (show Value.bool _ = Value.bool true by simp)
        | 55, ho =>
          obtain rfl := Option.some.inj ho
          have e47 : x 47 = .bool true := hd ⟨47, .data⟩ (by simp) rfl
          have e54 : x 54 = .bool true := hd ⟨54, .data⟩ (by simp) rfl
          simp only [Inv.fill, Act.put, List.setIfInBounds_toArray, List.set_cons_zero, List.set_cons_succ, e47, e54] at hK ⊢
          clear hd ho e47 e54
          rw [wpOp]
          refine (if_pos rfl).mpr (.inl ?_)
          go_simp
          exact hK _ _ (Below.refl _ _) rfl
        | 56, ho =>
          obtain rfl := Option.some.inj ho
          have e55 : x 55 = .bool true := hd ⟨55, .data⟩ (by simp) rfl
          simp only [Inv.fill, Act.put, List.setIfInBounds_toArray, List.set_cons_zero, List.set_cons_succ, e55] at hK ⊢
          clear hd ho e55
          rw [wpOp]
          refine (if_pos rfl).mpr (.inl ?_)
          go_simp
          exact hK _ _ (Below.refl _ _) rfl
        | n + 57, ho => simp at ho
      · intro x W hB hx
        have e56 : x 56 = .bool true := hx 56 (by simp)
        simp only [Inv.fill, Act.put, List.setIfInBounds_toArray, List.set_cons_zero, List.set_cons_succ, e56]
        clear hx e56
        go_wp2
        go_ret
        exact ⟨rfl, (HT.out.next hB).lj.below⟩

end Go.Proofs.Ytkicijgempccfaa.Walk
