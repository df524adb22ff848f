/- The walk of ConfBlocked. -/
import Derived.Test.YtkicijgempccfaaConM
namespace Go.Proofs.Ytkicijgempccfaa.Walk
open Go.RowKit Go.ChangeShapes Go.Proofs.Ytkicijgempccfaa.RatP Go.Proofs.Ytkicijgempccfaa.SatP Go.Proofs.Ytkicijgempccfaa.ConP Go.Proofs.Ytkicijgempccfaa.Rat Go.Proofs.Ytkicijgempccfaa.Con
set_option linter.unusedVariables false

def BlockedF1 (N : Nat) (v : V) (a b xa yb la lb ba bb sv d : Int) : Nat → Value → World → Prop
  | 0, vv, _ => vv = .agg #[.slice v.A v.c.banks.length v.cb, .int .i64 v.c.floors, .int .i64 v.c.home, .slice v.O v.c.order.length v.co, .int .i64 v.c.speed, .int .i64 v.c.width, .int .i64 v.c.dwell, .int .i64 v.c.good, .int .i64 v.c.dead, .int .i64 v.c.lag, .int .i64 v.c.turn, .int .i64 v.c.cost, .int .i64 v.c.full]
  | 1, vv, _ => vv = .int .i64 a
  | 2, vv, _ => vv = .int .i64 la
  | 3, vv, _ => vv = .agg #[.slice v.A v.c.banks.length v.cb, .int .i64 v.c.floors, .int .i64 v.c.home, .slice v.O v.c.order.length v.co, .int .i64 v.c.speed, .int .i64 v.c.width, .int .i64 v.c.dwell, .int .i64 v.c.good, .int .i64 v.c.dead, .int .i64 v.c.lag, .int .i64 v.c.turn, .int .i64 v.c.cost, .int .i64 v.c.full]
  | 4, vv, _ => vv = .int .i64 xa
  | 5, vv, _ => vv = .int .i64 la
  | 6, vv, _ => vv = .bool false
  | 7, vv, _ => vv = .bool false
  | 8, vv, _ => vv = .agg #[.slice v.A v.c.banks.length v.cb, .int .i64 v.c.floors, .int .i64 v.c.home, .slice v.O v.c.order.length v.co, .int .i64 v.c.speed, .int .i64 v.c.width, .int .i64 v.c.dwell, .int .i64 v.c.good, .int .i64 v.c.dead, .int .i64 v.c.lag, .int .i64 v.c.turn, .int .i64 v.c.cost, .int .i64 v.c.full]
  | 9, vv, _ => vv = .int .i64 b
  | 10, vv, _ => vv = .int .i64 bb
  | 11, vv, _ => vv = .agg #[.slice v.A v.c.banks.length v.cb, .int .i64 v.c.floors, .int .i64 v.c.home, .slice v.O v.c.order.length v.co, .int .i64 v.c.speed, .int .i64 v.c.width, .int .i64 v.c.dwell, .int .i64 v.c.good, .int .i64 v.c.dead, .int .i64 v.c.lag, .int .i64 v.c.turn, .int .i64 v.c.cost, .int .i64 v.c.full]
  | 12, vv, _ => vv = .int .i64 yb
  | 13, vv, _ => vv = .int .i64 bb
  | 14, vv, _ => vv = .bool false
  | 15, vv, _ => vv = .bool false
  | _, _, _ => True

def BlockedF2 (N : Nat) (v : V) (a b xa yb la lb ba bb sv d : Int) : Nat → Value → World → Prop
  | 0, vv, _ => vv = .agg #[.slice v.A v.c.banks.length v.cb, .int .i64 v.c.floors, .int .i64 v.c.home, .slice v.O v.c.order.length v.co, .int .i64 v.c.speed, .int .i64 v.c.width, .int .i64 v.c.dwell, .int .i64 v.c.good, .int .i64 v.c.dead, .int .i64 v.c.lag, .int .i64 v.c.turn, .int .i64 v.c.cost, .int .i64 v.c.full]
  | 1, vv, _ => vv = .int .i64 a
  | 2, vv, _ => vv = .int .i64 la
  | 3, vv, _ => vv = .agg #[.slice v.A v.c.banks.length v.cb, .int .i64 v.c.floors, .int .i64 v.c.home, .slice v.O v.c.order.length v.co, .int .i64 v.c.speed, .int .i64 v.c.width, .int .i64 v.c.dwell, .int .i64 v.c.good, .int .i64 v.c.dead, .int .i64 v.c.lag, .int .i64 v.c.turn, .int .i64 v.c.cost, .int .i64 v.c.full]
  | 4, vv, _ => vv = .int .i64 b
  | 5, vv, _ => vv = .int .i64 lb
  | 6, vv, _ => vv = .int .i64 d
  | 7, vv, _ => vv = .int .i64 xa
  | 8, vv, _ => vv = .int .i64 yb
  | 9, vv, _ => vv = .int .i64 d
  | 10, vv, _ => vv = .bool true
  | 11, vv, _ => vv = .bool true
  | 12, vv, _ => vv = .agg #[.slice v.A v.c.banks.length v.cb, .int .i64 v.c.floors, .int .i64 v.c.home, .slice v.O v.c.order.length v.co, .int .i64 v.c.speed, .int .i64 v.c.width, .int .i64 v.c.dwell, .int .i64 v.c.good, .int .i64 v.c.dead, .int .i64 v.c.lag, .int .i64 v.c.turn, .int .i64 v.c.cost, .int .i64 v.c.full]
  | 13, vv, _ => vv = .int .i64 a
  | 14, vv, _ => vv = .int .i64 ba
  | 15, vv, _ => vv = .agg #[.slice v.A v.c.banks.length v.cb, .int .i64 v.c.floors, .int .i64 v.c.home, .slice v.O v.c.order.length v.co, .int .i64 v.c.speed, .int .i64 v.c.width, .int .i64 v.c.dwell, .int .i64 v.c.good, .int .i64 v.c.dead, .int .i64 v.c.lag, .int .i64 v.c.turn, .int .i64 v.c.cost, .int .i64 v.c.full]
  | 16, vv, _ => vv = .int .i64 b
  | 17, vv, _ => vv = .int .i64 bb
  | 18, vv, _ => vv = .int .i64 d
  | 19, vv, _ => vv = .int .i64 xa
  | 20, vv, _ => vv = .int .i64 yb
  | 21, vv, _ => vv = .int .i64 d
  | 22, vv, _ => vv = .bool true
  | 23, vv, _ => vv = .bool true
  | 24, vv, _ => vv = .bool true
  | 25, vv, _ => vv = .agg #[.slice v.A v.c.banks.length v.cb, .int .i64 v.c.floors, .int .i64 v.c.home, .slice v.O v.c.order.length v.co, .int .i64 v.c.speed, .int .i64 v.c.width, .int .i64 v.c.dwell, .int .i64 v.c.good, .int .i64 v.c.dead, .int .i64 v.c.lag, .int .i64 v.c.turn, .int .i64 v.c.cost, .int .i64 v.c.full]
  | 26, vv, _ => vv = .int .i64 sv
  | 27, vv, _ => vv = .bool true
  | 28, vv, _ => vv = .bool true
  | 29, vv, _ => vv = .bool true
  | 30, vv, _ => vv = .agg #[.slice v.A v.c.banks.length v.cb, .int .i64 v.c.floors, .int .i64 v.c.home, .slice v.O v.c.order.length v.co, .int .i64 v.c.speed, .int .i64 v.c.width, .int .i64 v.c.dwell, .int .i64 v.c.good, .int .i64 v.c.dead, .int .i64 v.c.lag, .int .i64 v.c.turn, .int .i64 v.c.cost, .int .i64 v.c.full]
  | 31, vv, _ => vv = .int .i64 sv
  | 32, vv, _ => vv = .bool true
  | 33, vv, _ => vv = .bool true
  | 34, vv, _ => vv = .bool true
  | _, _, _ => True

set_option maxRecDepth 100000 in
set_option maxHeartbeats 16000000 in
theorem confBlocked_walk (w : World) (v : V) (a b : Int) (hin : V.In w v) (_w1 : (Lit.int .i64 a).wf = true) (_w2 : (Lit.int .i64 b).wf = true) : Calls Try.prog 8 #[v.val, .int .i64 a, .int .i64 b] w fun e w' => e = .returned (.bool true) ∧ Below w.heap.size w w' := by
  have H0 := Lib.hid (LJ.new hin 25)
  have HIN := Lib.hid hin
  clear hin
  unfold V.arr at H0
  cases hsm : smB v
  · have HS := Lib.hid hsm
    clear hsm
    unfold V.val
    go_enter Try.func8, Try.ntmps8
    go_wp2_with (first
      | (go_at_call 9; refine (lj_awake H0).mono ?_; clear H0; rintro e w1 ⟨rfl, h1⟩; obtain ⟨a0, a1, a2, a3, a4, a5, a6, a7, a8, a9, a10, a11, a12⟩ := lj_all h1)
      | (go_at_call 10; refine (lj_small HS h1).mono ?_; clear h1; rintro e w2 ⟨rfl, h2⟩))
    go_ret
    exact ⟨rfl, h2.out.below⟩
  have HS := Lib.hid hsm
  clear hsm
  cases hq : mayC v.c
  · have HQ := Lib.hid hq
    clear hq
    unfold V.val
    go_enter Try.func8, Try.ntmps8
    go_wp2_with (first
      | (go_at_call 9; refine (lj_awake H0).mono ?_; clear H0; rintro e w1 ⟨rfl, h1⟩; obtain ⟨a0, a1, a2, a3, a4, a5, a6, a7, a8, a9, a10, a11, a12⟩ := lj_all h1)
      | (go_at_call 10; refine (lj_small HS h1).mono ?_; clear h1 a0 a1 a2 a3 a4 a5 a6 a7 a8 a9 a10 a11 a12; rintro e w2 ⟨rfl, h2⟩; obtain ⟨a0, a1, a2, a3, a4, a5, a6, a7, a8, a9, a10, a11, a12⟩ := lj_all h2)
      | (go_at_call 11; refine (lj_check HS HQ h2).mono ?_; clear h2; rintro e w3 ⟨rfl, h3⟩))
    go_ret
    exact ⟨rfl, h3.out.below⟩
  have HQ := Lib.hid hq
  have HM := Lib.hid ((mayC_iff v.c).1 hq)
  clear hq

  clear _w1 _w2
  have hm := HM.out
  have hwd := hm.wd
  have hco := hm.co
  have hba := bk_bd a
  have hbb := bk_bd b
  have m1 : ∀ W, (Builtin.max_ #[3, 3] 3 #[.int .i64 a, .int .i64 0]).run Try.prog W = .ok (.int .i64 (max a 0)) W := fun W => by
    rw [run_max_int2]; congr 2; split <;> omega
  have m2 : ∀ W, (Builtin.min_ #[3, 3] 3 #[.int .i64 (max a 0), .int .i64 1000000]).run Try.prog W = .ok (.int .i64 (bk a)) W := fun W => by
    rw [run_min_int2, bk_max]; congr 2; split <;> omega
  have m3 : ∀ W, (Builtin.max_ #[3, 3] 3 #[.int .i64 b, .int .i64 0]).run Try.prog W = .ok (.int .i64 (max b 0)) W := fun W => by
    rw [run_max_int2]; congr 2; split <;> omega
  have m4 : ∀ W, (Builtin.min_ #[3, 3] 3 #[.int .i64 (max b 0), .int .i64 1000000]).run Try.prog W = .ok (.int .i64 (bk b)) W := fun W => by
    rw [run_min_int2, bk_max]; congr 2; split <;> omega
  have hlx : limit v.c (bk a) = limit v.c a := by unfold limit; rw [bk_bk]
  have hby : back v.c (bk b) = back v.c b := by unfold back; rw [bk_bk]
  have hLA := fun W (h : V.In W v) => Limit_any v hm a W h
  have hLX := fun W (h : V.In W v) => Limit_any v hm (bk a) W h
  have hLB := fun W (h : V.In W v) => Limit_any v hm b W h
  have hBA := fun W => Back_any v hm a W
  have hBY := fun W => Back_any v hm (bk b) W
  have hBB := fun W => Back_any v hm b W
  rw [hlx] at hLX
  rw [hby] at hBY
  have hSA := fun W => Saves_any v (by omega) (by omega) (by omega) (by omega) W
  have hp : v.c.cost * (8 + v.c.width) ≤ 100 * 24 := Int.mul_le_mul (by omega) (by omega) (by omega) (by omega)
  have hp0 : 0 ≤ v.c.cost * (8 + v.c.width) := Int.mul_nonneg (by omega) (by omega)
  have hsv : saves v.c = v.c.cost * (8 + v.c.width) := rfl
  have hfl := hm.fl
  have hgo := hm.go
  have hde := hm.de
  have hla := hm.la
  have hnb := hm.nb
  have hcb := cars_bd _ hm.bs
  have hrun : run v.c = 8 * v.c.floors - 7 := rfl
  have hq : cars v.c.banks * (run v.c + 2 * v.c.width + 6) ≤ 64 * 500 := Int.mul_le_mul (by omega) (by omega) (by omega) (by omega)
  have hq0 : 0 ≤ cars v.c.banks * (run v.c + 2 * v.c.width + 6) := Int.mul_nonneg (by omega) (by omega)
  have e1 : limit v.c a - limit v.c b = bk a - bk b := by unfold limit; omega
  have e2 : back v.c a - back v.c b = bk a - bk b := by unfold back; omega
  obtain ⟨d, hd⟩ : ∃ d, bk a - bk b = d := ⟨_, rfl⟩
  have hE1 : IntKind.i64.wrap (limit v.c a - limit v.c b) = d := by rw [IntWalk.i64_in _ (by omega), e1, hd]
  have hE2 : IntKind.i64.wrap (bk a - bk b) = d := by rw [IntWalk.i64_in _ (by omega), hd]
  have hE3 : IntKind.i64.wrap (back v.c a - back v.c b) = d := by rw [IntWalk.i64_in _ (by omega), e2, hd]
  have hG1 : decide (0 ≤ saves v.c) = true := by simp; omega
  have hG2 : decide (saves v.c ≤ 2400) = true := by simp; omega
  clear e1 e2 hd hq hq0 hlx hby hp hp0 hsv
  generalize limit v.c a = la at *
  generalize limit v.c b = lb at *
  generalize back v.c a = ba at *
  generalize back v.c b = bb at *
  generalize saves v.c = sv at *
  generalize bk a = xa at *
  generalize bk b = yb at *
  generalize max a 0 = ma at *
  generalize max b 0 = mb at *
  have HLA := Lib.hid hLA
  have HLX := Lib.hid hLX
  have HLB := Lib.hid hLB
  have HBA := Lib.hid hBA
  have HBY := Lib.hid hBY
  have HBB := Lib.hid hBB
  have HSA := Lib.hid hSA
  have E1 := Lib.hid hE1
  have E2 := Lib.hid hE2
  have E3 := Lib.hid hE3
  have G1 := Lib.hid hG1
  have G2 := Lib.hid hG2
  clear hm hwd hco hba hbb hLA hLX hLB hBA hBY hBB hSA hfl hgo hde hla hnb hcb hrun hE1 hE2 hE3 hG1 hG2
  unfold V.val
  go_enter Try.func8, Try.ntmps8
  go_wp2_with (first
      | (go_at_call 9; refine (lj_awake H0).mono ?_; clear H0; rintro e w1 ⟨rfl, h1⟩; obtain ⟨a0, a1, a2, a3, a4, a5, a6, a7, a8, a9, a10, a11, a12⟩ := lj_all h1)
      | (go_at_call 10; refine (lj_small HS h1).mono ?_; clear h1 a0 a1 a2 a3 a4 a5 a6 a7 a8 a9 a10 a11 a12; rintro e w2 ⟨rfl, h2⟩; obtain ⟨a0, a1, a2, a3, a4, a5, a6, a7, a8, a9, a10, a11, a12⟩ := lj_all h2)
      | (go_at_call 11; refine (lj_check HS HQ h2).mono ?_; clear h2 a0 a1 a2 a3 a4 a5 a6 a7 a8 a9 a10 a11 a12; rintro e w3 ⟨rfl, h3⟩; obtain ⟨a0, a1, a2, a3, a4, a5, a6, a7, a8, a9, a10, a11, a12⟩ := lj_all h3; have hlt3 : w.heap.size < w3.heap.size := h3.out.box.lt))
  have HT := h3
  clear h3 a0 a1 a2 a3 a4 a5 a6 a7 a8 a9 a10 a11 a12
  refine Inv.wp_region_inv (BlockedF1 w.heap.size v a b xa yb la lb ba bb sv d) (by kernel_rfl) (by kernel_rfl) (by kernel_rfl) ?_ ?_ ?_
  · intro i v W W' _ h hb
    unfold BlockedF1 at h ⊢
    split at h <;> first | exact h | exact NewRow.next h hb
  · intro i o x W K ho hB hd hK
    match i, ho with
    | 0, ho =>
      obtain rfl := Option.some.inj ho
      simp only [Inv.fill, Act.put, List.setIfInBounds_toArray, List.set_cons_zero, List.set_cons_succ] at hK ⊢
      clear hd ho
      rw [wpOp]
      refine (if_pos rfl).mpr (.inl ?_)
      have g0 := (HT.out.next hB).box.c0
      have g1 := (HT.out.next hB).box.c1
      have g2 := (HT.out.next hB).box.c2
      have g3 := (HT.out.next hB).box.c3
      have g4 := (HT.out.next hB).box.c4
      have g5 := (HT.out.next hB).box.c5
      have g6 := (HT.out.next hB).box.c6
      have g7 := (HT.out.next hB).box.c7
      have g8 := (HT.out.next hB).box.c8
      have g9 := (HT.out.next hB).box.c9
      have g10 := (HT.out.next hB).box.c10
      have g11 := (HT.out.next hB).box.c11
      have g12 := (HT.out.next hB).box.c12
      go_simp
      exact hK _ _ (Below.refl _ _) rfl
    | 1, ho =>
      obtain rfl := Option.some.inj ho
      simp only [Inv.fill, Act.put, List.setIfInBounds_toArray, List.set_cons_zero, List.set_cons_succ] at hK ⊢
      clear hd ho
      rw [wpOp]
      refine (if_pos rfl).mpr (.inl ?_)
      go_simp
      exact hK _ _ (Below.refl _ _) rfl
    | 2, ho =>
      obtain rfl := Option.some.inj ho
      have e0 : x 0 = .agg #[.slice v.A v.c.banks.length v.cb, .int .i64 v.c.floors, .int .i64 v.c.home, .slice v.O v.c.order.length v.co, .int .i64 v.c.speed, .int .i64 v.c.width, .int .i64 v.c.dwell, .int .i64 v.c.good, .int .i64 v.c.dead, .int .i64 v.c.lag, .int .i64 v.c.turn, .int .i64 v.c.cost, .int .i64 v.c.full] := hd ⟨0, .data⟩ (by simp) rfl
      have e1 : x 1 = .int .i64 a := hd ⟨1, .data⟩ (by simp) rfl
      simp only [Inv.fill, Act.put, List.setIfInBounds_toArray, List.set_cons_zero, List.set_cons_succ, e0, e1] at hK ⊢
      clear hd ho e0 e1
      rw [wpOp]
      refine (if_pos rfl).mpr (.inl ?_)
      have hc := HLA.out W (HT.out.next hB).inn
      go_simp
      refine hc.mono ?_
      rintro e w2 ⟨rfl, hb2⟩
      exact hK _ _ hb2 rfl
    | 3, ho =>
      obtain rfl := Option.some.inj ho
      simp only [Inv.fill, Act.put, List.setIfInBounds_toArray, List.set_cons_zero, List.set_cons_succ] at hK ⊢
      clear hd ho
      rw [wpOp]
      refine (if_pos rfl).mpr (.inl ?_)
      have g0 := (HT.out.next hB).box.c0
      have g1 := (HT.out.next hB).box.c1
      have g2 := (HT.out.next hB).box.c2
      have g3 := (HT.out.next hB).box.c3
      have g4 := (HT.out.next hB).box.c4
      have g5 := (HT.out.next hB).box.c5
      have g6 := (HT.out.next hB).box.c6
      have g7 := (HT.out.next hB).box.c7
      have g8 := (HT.out.next hB).box.c8
      have g9 := (HT.out.next hB).box.c9
      have g10 := (HT.out.next hB).box.c10
      have g11 := (HT.out.next hB).box.c11
      have g12 := (HT.out.next hB).box.c12
      go_simp
      exact hK _ _ (Below.refl _ _) rfl
    | 4, ho =>
      obtain rfl := Option.some.inj ho
      simp only [Inv.fill, Act.put, List.setIfInBounds_toArray, List.set_cons_zero, List.set_cons_succ] at hK ⊢
      clear hd ho
      rw [wpOp]
      refine (if_pos rfl).mpr (.inl ?_)
      go_simp
      exact hK _ _ (Below.refl _ _) rfl
    | 5, ho =>
      obtain rfl := Option.some.inj ho
      have e3 : x 3 = .agg #[.slice v.A v.c.banks.length v.cb, .int .i64 v.c.floors, .int .i64 v.c.home, .slice v.O v.c.order.length v.co, .int .i64 v.c.speed, .int .i64 v.c.width, .int .i64 v.c.dwell, .int .i64 v.c.good, .int .i64 v.c.dead, .int .i64 v.c.lag, .int .i64 v.c.turn, .int .i64 v.c.cost, .int .i64 v.c.full] := hd ⟨3, .data⟩ (by simp) rfl
      have e4 : x 4 = .int .i64 xa := hd ⟨4, .data⟩ (by simp) rfl
      simp only [Inv.fill, Act.put, List.setIfInBounds_toArray, List.set_cons_zero, List.set_cons_succ, e3, e4] at hK ⊢
      clear hd ho e3 e4
      rw [wpOp]
      refine (if_pos rfl).mpr (.inl ?_)
      have hc := HLX.out W (HT.out.next hB).inn
      go_simp
      refine hc.mono ?_
      rintro e w2 ⟨rfl, hb2⟩
      exact hK _ _ hb2 rfl
    | 6, ho =>
      obtain rfl := Option.some.inj ho
      have e2 : x 2 = .int .i64 la := hd ⟨2, .data⟩ (by simp) rfl
      have e5 : x 5 = .int .i64 la := hd ⟨5, .data⟩ (by simp) rfl
      simp only [Inv.fill, Act.put, List.setIfInBounds_toArray, List.set_cons_zero, List.set_cons_succ, e2, e5] at hK ⊢
      clear hd ho e2 e5
      rw [wpOp]
      refine (if_pos rfl).mpr (.inl ?_)
      go_simp
      exact hK _ _ (Below.refl _ _) (show Value.bool _ = Value.bool false by simp)
    | 7, ho =>
      obtain rfl := Option.some.inj ho
      have e6 : x 6 = .bool false := hd ⟨6, .data⟩ (by simp) rfl
      simp only [Inv.fill, Act.put, List.setIfInBounds_toArray, List.set_cons_zero, List.set_cons_succ, e6] at hK ⊢
      clear hd ho e6
      rw [wpOp]
      refine (if_pos rfl).mpr (.inl ?_)
      go_simp
      exact hK _ _ (Below.refl _ _) rfl
    | 8, ho =>
      obtain rfl := Option.some.inj ho
      have e7 : x 7 = .bool false := hd ⟨7, .guard⟩ (by simp) rfl
      simp only [Inv.fill, Act.put, List.setIfInBounds_toArray, List.set_cons_zero, List.set_cons_succ, e7] at hK ⊢
      clear hd ho e7
      rw [wpOp]
      refine (if_pos rfl).mpr (.inl ?_)
      have g0 := (HT.out.next hB).box.c0
      have g1 := (HT.out.next hB).box.c1
      have g2 := (HT.out.next hB).box.c2
      have g3 := (HT.out.next hB).box.c3
      have g4 := (HT.out.next hB).box.c4
      have g5 := (HT.out.next hB).box.c5
      have g6 := (HT.out.next hB).box.c6
      have g7 := (HT.out.next hB).box.c7
      have g8 := (HT.out.next hB).box.c8
      have g9 := (HT.out.next hB).box.c9
      have g10 := (HT.out.next hB).box.c10
      have g11 := (HT.out.next hB).box.c11
      have g12 := (HT.out.next hB).box.c12
      go_simp
      exact hK _ _ (Below.refl _ _) rfl
    | 9, ho =>
      obtain rfl := Option.some.inj ho
      have e7 : x 7 = .bool false := hd ⟨7, .guard⟩ (by simp) rfl
      simp only [Inv.fill, Act.put, List.setIfInBounds_toArray, List.set_cons_zero, List.set_cons_succ, e7] at hK ⊢
      clear hd ho e7
      rw [wpOp]
      refine (if_pos rfl).mpr (.inl ?_)
      go_simp
      exact hK _ _ (Below.refl _ _) rfl
    | 10, ho =>
      obtain rfl := Option.some.inj ho
      have e8 : x 8 = .agg #[.slice v.A v.c.banks.length v.cb, .int .i64 v.c.floors, .int .i64 v.c.home, .slice v.O v.c.order.length v.co, .int .i64 v.c.speed, .int .i64 v.c.width, .int .i64 v.c.dwell, .int .i64 v.c.good, .int .i64 v.c.dead, .int .i64 v.c.lag, .int .i64 v.c.turn, .int .i64 v.c.cost, .int .i64 v.c.full] := hd ⟨8, .data⟩ (by simp) rfl
      have e9 : x 9 = .int .i64 b := hd ⟨9, .data⟩ (by simp) rfl
      have e7 : x 7 = .bool false := hd ⟨7, .chain⟩ (by simp) rfl
      simp only [Inv.fill, Act.put, List.setIfInBounds_toArray, List.set_cons_zero, List.set_cons_succ, e8, e9, e7] at hK ⊢
      clear hd ho e8 e9 e7
      rw [wpOp]
      refine (if_pos rfl).mpr (.inl ?_)
      have hc := HBB.out W
      go_simp
      refine hc.mono ?_
      rintro e w2 ⟨rfl, hb2⟩
      exact hK _ _ hb2 rfl
    | 11, ho =>
      obtain rfl := Option.some.inj ho
      have e7 : x 7 = .bool false := hd ⟨7, .guard⟩ (by simp) rfl
      simp only [Inv.fill, Act.put, List.setIfInBounds_toArray, List.set_cons_zero, List.set_cons_succ, e7] at hK ⊢
      clear hd ho e7
      rw [wpOp]
      refine (if_pos rfl).mpr (.inl ?_)
      have g0 := (HT.out.next hB).box.c0
      have g1 := (HT.out.next hB).box.c1
      have g2 := (HT.out.next hB).box.c2
      have g3 := (HT.out.next hB).box.c3
      have g4 := (HT.out.next hB).box.c4
      have g5 := (HT.out.next hB).box.c5
      have g6 := (HT.out.next hB).box.c6
      have g7 := (HT.out.next hB).box.c7
      have g8 := (HT.out.next hB).box.c8
      have g9 := (HT.out.next hB).box.c9
      have g10 := (HT.out.next hB).box.c10
      have g11 := (HT.out.next hB).box.c11
      have g12 := (HT.out.next hB).box.c12
      go_simp
      exact hK _ _ (Below.refl _ _) rfl
    | 12, ho =>
      obtain rfl := Option.some.inj ho
      have e7 : x 7 = .bool false := hd ⟨7, .guard⟩ (by simp) rfl
      simp only [Inv.fill, Act.put, List.setIfInBounds_toArray, List.set_cons_zero, List.set_cons_succ, e7] at hK ⊢
      clear hd ho e7
      rw [wpOp]
      refine (if_pos rfl).mpr (.inl ?_)
      go_simp
      exact hK _ _ (Below.refl _ _) rfl
    | 13, ho =>
      obtain rfl := Option.some.inj ho
      have e11 : x 11 = .agg #[.slice v.A v.c.banks.length v.cb, .int .i64 v.c.floors, .int .i64 v.c.home, .slice v.O v.c.order.length v.co, .int .i64 v.c.speed, .int .i64 v.c.width, .int .i64 v.c.dwell, .int .i64 v.c.good, .int .i64 v.c.dead, .int .i64 v.c.lag, .int .i64 v.c.turn, .int .i64 v.c.cost, .int .i64 v.c.full] := hd ⟨11, .data⟩ (by simp) rfl
      have e12 : x 12 = .int .i64 yb := hd ⟨12, .data⟩ (by simp) rfl
      have e7 : x 7 = .bool false := hd ⟨7, .guard⟩ (by simp) rfl
      simp only [Inv.fill, Act.put, List.setIfInBounds_toArray, List.set_cons_zero, List.set_cons_succ, e11, e12, e7] at hK ⊢
      clear hd ho e11 e12 e7
      rw [wpOp]
      refine (if_pos rfl).mpr (.inl ?_)
      have hc := HBY.out W
      go_simp
      refine hc.mono ?_
      rintro e w2 ⟨rfl, hb2⟩
      exact hK _ _ hb2 rfl
    | 14, ho =>
      obtain rfl := Option.some.inj ho
      have e10 : x 10 = .int .i64 bb := hd ⟨10, .data⟩ (by simp) rfl
      have e13 : x 13 = .int .i64 bb := hd ⟨13, .data⟩ (by simp) rfl
      have e7 : x 7 = .bool false := hd ⟨7, .guard⟩ (by simp) rfl
      simp only [Inv.fill, Act.put, List.setIfInBounds_toArray, List.set_cons_zero, List.set_cons_succ, e10, e13, e7] at hK ⊢
      clear hd ho e10 e13 e7
      rw [wpOp]
      refine (if_pos rfl).mpr (.inl ?_)
      go_simp
      exact hK _ _ (Below.refl _ _) (show Value.bool _ = Value.bool false by simp)
    | 15, ho =>
      obtain rfl := Option.some.inj ho
      have e7 : x 7 = .bool false := hd ⟨7, .data⟩ (by simp) rfl
      have e14 : x 14 = .bool false := hd ⟨14, .data⟩ (by simp) rfl
      simp only [Inv.fill, Act.put, List.setIfInBounds_toArray, List.set_cons_zero, List.set_cons_succ, e7, e14] at hK ⊢
      clear hd ho e7 e14
      rw [wpOp]
      refine (if_pos rfl).mpr (.inl ?_)
      go_simp
      exact hK _ _ (Below.refl _ _) rfl
    | n + 16, ho => simp at ho
  · intro x W hB hx
    have e15 : x 15 = .bool false := hx 15 (by simp)
    simp only [Inv.fill, Act.put, List.setIfInBounds_toArray, List.set_cons_zero, List.set_cons_succ, e15]
    clear hx e15
    have HT2 := Lib.hid (HT.out.next hB)
    clear HT hB
    have HT := HT2
    clear HT2
    go_wp2
    refine Inv.wp_region_inv (BlockedF2 w.heap.size v a b xa yb la lb ba bb sv d) (by kernel_rfl) (by kernel_rfl) (by kernel_rfl) ?_ ?_ ?_
    · intro i v W W' _ h hb
      unfold BlockedF2 at h ⊢
      split at h <;> first | exact h | exact NewRow.next h hb
    · intro i o x W K ho hB hd hK
      match i, ho with
      | 0, ho =>
        obtain rfl := Option.some.inj ho
        simp only [Inv.fill, Act.put, List.setIfInBounds_toArray, List.set_cons_zero, List.set_cons_succ] at hK ⊢
        clear hd ho
        rw [wpOp]
        refine (if_pos rfl).mpr (.inl ?_)
        have g0 := (HT.out.next hB).box.c0
        have g1 := (HT.out.next hB).box.c1
        have g2 := (HT.out.next hB).box.c2
        have g3 := (HT.out.next hB).box.c3
        have g4 := (HT.out.next hB).box.c4
        have g5 := (HT.out.next hB).box.c5
        have g6 := (HT.out.next hB).box.c6
        have g7 := (HT.out.next hB).box.c7
        have g8 := (HT.out.next hB).box.c8
        have g9 := (HT.out.next hB).box.c9
        have g10 := (HT.out.next hB).box.c10
        have g11 := (HT.out.next hB).box.c11
        have g12 := (HT.out.next hB).box.c12
        go_simp
        exact hK _ _ (Below.refl _ _) rfl
      | 1, ho =>
        obtain rfl := Option.some.inj ho
        simp only [Inv.fill, Act.put, List.setIfInBounds_toArray, List.set_cons_zero, List.set_cons_succ] at hK ⊢
        clear hd ho
        rw [wpOp]
        refine (if_pos rfl).mpr (.inl ?_)
        go_simp
        exact hK _ _ (Below.refl _ _) rfl
      | 2, ho =>
        obtain rfl := Option.some.inj ho
        have e0 : x 0 = .agg #[.slice v.A v.c.banks.length v.cb, .int .i64 v.c.floors, .int .i64 v.c.home, .slice v.O v.c.order.length v.co, .int .i64 v.c.speed, .int .i64 v.c.width, .int .i64 v.c.dwell, .int .i64 v.c.good, .int .i64 v.c.dead, .int .i64 v.c.lag, .int .i64 v.c.turn, .int .i64 v.c.cost, .int .i64 v.c.full] := hd ⟨0, .data⟩ (by simp) rfl
        have e1 : x 1 = .int .i64 a := hd ⟨1, .data⟩ (by simp) rfl
        simp only [Inv.fill, Act.put, List.setIfInBounds_toArray, List.set_cons_zero, List.set_cons_succ, e0, e1] at hK ⊢
        clear hd ho e0 e1
        rw [wpOp]
        refine (if_pos rfl).mpr (.inl ?_)
        have hc := HLA.out W (HT.out.next hB).inn
        go_simp
        refine hc.mono ?_
        rintro e w2 ⟨rfl, hb2⟩
        exact hK _ _ hb2 rfl
      | 3, ho =>
        obtain rfl := Option.some.inj ho
        simp only [Inv.fill, Act.put, List.setIfInBounds_toArray, List.set_cons_zero, List.set_cons_succ] at hK ⊢
        clear hd ho
        rw [wpOp]
        refine (if_pos rfl).mpr (.inl ?_)
        have g0 := (HT.out.next hB).box.c0
        have g1 := (HT.out.next hB).box.c1
        have g2 := (HT.out.next hB).box.c2
        have g3 := (HT.out.next hB).box.c3
        have g4 := (HT.out.next hB).box.c4
        have g5 := (HT.out.next hB).box.c5
        have g6 := (HT.out.next hB).box.c6
        have g7 := (HT.out.next hB).box.c7
        have g8 := (HT.out.next hB).box.c8
        have g9 := (HT.out.next hB).box.c9
        have g10 := (HT.out.next hB).box.c10
        have g11 := (HT.out.next hB).box.c11
        have g12 := (HT.out.next hB).box.c12
        go_simp
        exact hK _ _ (Below.refl _ _) rfl
      | 4, ho =>
        obtain rfl := Option.some.inj ho
        simp only [Inv.fill, Act.put, List.setIfInBounds_toArray, List.set_cons_zero, List.set_cons_succ] at hK ⊢
        clear hd ho
        rw [wpOp]
        refine (if_pos rfl).mpr (.inl ?_)
        go_simp
        exact hK _ _ (Below.refl _ _) rfl
      | 5, ho =>
        obtain rfl := Option.some.inj ho
        have e3 : x 3 = .agg #[.slice v.A v.c.banks.length v.cb, .int .i64 v.c.floors, .int .i64 v.c.home, .slice v.O v.c.order.length v.co, .int .i64 v.c.speed, .int .i64 v.c.width, .int .i64 v.c.dwell, .int .i64 v.c.good, .int .i64 v.c.dead, .int .i64 v.c.lag, .int .i64 v.c.turn, .int .i64 v.c.cost, .int .i64 v.c.full] := hd ⟨3, .data⟩ (by simp) rfl
        have e4 : x 4 = .int .i64 b := hd ⟨4, .data⟩ (by simp) rfl
        simp only [Inv.fill, Act.put, List.setIfInBounds_toArray, List.set_cons_zero, List.set_cons_succ, e3, e4] at hK ⊢
        clear hd ho e3 e4
        rw [wpOp]
        refine (if_pos rfl).mpr (.inl ?_)
        have hc := HLB.out W (HT.out.next hB).inn
        go_simp
        refine hc.mono ?_
        rintro e w2 ⟨rfl, hb2⟩
        exact hK _ _ hb2 rfl
      | 6, ho =>
        obtain rfl := Option.some.inj ho
        have e2 : x 2 = .int .i64 la := hd ⟨2, .data⟩ (by simp) rfl
        have e5 : x 5 = .int .i64 lb := hd ⟨5, .data⟩ (by simp) rfl
        simp only [Inv.fill, Act.put, List.setIfInBounds_toArray, List.set_cons_zero, List.set_cons_succ, e2, e5] at hK ⊢
        clear hd ho e2 e5
        rw [wpOp]
        refine (if_pos rfl).mpr (.inl ?_)
        go_simp
        exact hK _ _ (Below.refl _ _) (congrArg (Value.int .i64) E1.out)
      | 7, ho =>
        obtain rfl := Option.some.inj ho
        simp only [Inv.fill, Act.put, List.setIfInBounds_toArray, List.set_cons_zero, List.set_cons_succ] at hK ⊢
        clear hd ho
        rw [wpOp]
        refine (if_pos rfl).mpr (.inl ?_)
        go_simp
        exact hK _ _ (Below.refl _ _) rfl
      | 8, ho =>
        obtain rfl := Option.some.inj ho
        simp only [Inv.fill, Act.put, List.setIfInBounds_toArray, List.set_cons_zero, List.set_cons_succ] at hK ⊢
        clear hd ho
        rw [wpOp]
        refine (if_pos rfl).mpr (.inl ?_)
        go_simp
        exact hK _ _ (Below.refl _ _) rfl
      | 9, ho =>
        obtain rfl := Option.some.inj ho
        have e7 : x 7 = .int .i64 xa := hd ⟨7, .data⟩ (by simp) rfl
        have e8 : x 8 = .int .i64 yb := hd ⟨8, .data⟩ (by simp) rfl
        simp only [Inv.fill, Act.put, List.setIfInBounds_toArray, List.set_cons_zero, List.set_cons_succ, e7, e8] at hK ⊢
        clear hd ho e7 e8
        rw [wpOp]
        refine (if_pos rfl).mpr (.inl ?_)
        go_simp
        exact hK _ _ (Below.refl _ _) (congrArg (Value.int .i64) E2.out)
      | 10, ho =>
        obtain rfl := Option.some.inj ho
        have e6 : x 6 = .int .i64 d := hd ⟨6, .data⟩ (by simp) rfl
        have e9 : x 9 = .int .i64 d := hd ⟨9, .data⟩ (by simp) rfl
        simp only [Inv.fill, Act.put, List.setIfInBounds_toArray, List.set_cons_zero, List.set_cons_succ, e6, e9] at hK ⊢
        clear hd ho e6 e9
        rw [wpOp]
        refine (if_pos rfl).mpr (.inl ?_)
        go_simp
        exact hK _ _ (Below.refl _ _) (show Value.bool _ = Value.bool true by simp)
      | 11, ho =>
        obtain rfl := Option.some.inj ho
        have e10 : x 10 = .bool true := hd ⟨10, .data⟩ (by simp) rfl
        simp only [Inv.fill, Act.put, List.setIfInBounds_toArray, List.set_cons_zero, List.set_cons_succ, e10] at hK ⊢
        clear hd ho e10
        rw [wpOp]
        refine (if_pos rfl).mpr (.inl ?_)
        go_simp
        exact hK _ _ (Below.refl _ _) rfl
      | 12, ho =>
        obtain rfl := Option.some.inj ho
        have e11 : x 11 = .bool true := hd ⟨11, .guard⟩ (by simp) rfl
        simp only [Inv.fill, Act.put, List.setIfInBounds_toArray, List.set_cons_zero, List.set_cons_succ, e11] at hK ⊢
        clear hd ho e11
        rw [wpOp]
        refine (if_pos rfl).mpr (.inl ?_)
        have g0 := (HT.out.next hB).box.c0
        have g1 := (HT.out.next hB).box.c1
        have g2 := (HT.out.next hB).box.c2
        have g3 := (HT.out.next hB).box.c3
        have g4 := (HT.out.next hB).box.c4
        have g5 := (HT.out.next hB).box.c5
        have g6 := (HT.out.next hB).box.c6
        have g7 := (HT.out.next hB).box.c7
        have g8 := (HT.out.next hB).box.c8
        have g9 := (HT.out.next hB).box.c9
        have g10 := (HT.out.next hB).box.c10
        have g11 := (HT.out.next hB).box.c11
        have g12 := (HT.out.next hB).box.c12
        go_simp
        exact hK _ _ (Below.refl _ _) rfl
      | 13, ho =>
        obtain rfl := Option.some.inj ho
        have e11 : x 11 = .bool true := hd ⟨11, .guard⟩ (by simp) rfl
        simp only [Inv.fill, Act.put, List.setIfInBounds_toArray, List.set_cons_zero, List.set_cons_succ, e11] at hK ⊢
        clear hd ho e11
        rw [wpOp]
        refine (if_pos rfl).mpr (.inl ?_)
        go_simp
        exact hK _ _ (Below.refl _ _) rfl
      | 14, ho =>
        obtain rfl := Option.some.inj ho
        have e12 : x 12 = .agg #[.slice v.A v.c.banks.length v.cb, .int .i64 v.c.floors, .int .i64 v.c.home, .slice v.O v.c.order.length v.co, .int .i64 v.c.speed, .int .i64 v.c.width, .int .i64 v.c.dwell, .int .i64 v.c.good, .int .i64 v.c.dead, .int .i64 v.c.lag, .int .i64 v.c.turn, .int .i64 v.c.cost, .int .i64 v.c.full] := hd ⟨12, .data⟩ (by simp) rfl
        have e13 : x 13 = .int .i64 a := hd ⟨13, .data⟩ (by simp) rfl
        have e11 : x 11 = .bool true := hd ⟨11, .chain⟩ (by simp) rfl
        simp only [Inv.fill, Act.put, List.setIfInBounds_toArray, List.set_cons_zero, List.set_cons_succ, e12, e13, e11] at hK ⊢
        clear hd ho e12 e13 e11
        rw [wpOp]
        refine (if_pos rfl).mpr (.inl ?_)
        have hc := HBA.out W
        go_simp
        refine hc.mono ?_
        rintro e w2 ⟨rfl, hb2⟩
        exact hK _ _ hb2 rfl
      | 15, ho =>
        obtain rfl := Option.some.inj ho
        have e11 : x 11 = .bool true := hd ⟨11, .guard⟩ (by simp) rfl
        simp only [Inv.fill, Act.put, List.setIfInBounds_toArray, List.set_cons_zero, List.set_cons_succ, e11] at hK ⊢
        clear hd ho e11
        rw [wpOp]
        refine (if_pos rfl).mpr (.inl ?_)
        have g0 := (HT.out.next hB).box.c0
        have g1 := (HT.out.next hB).box.c1
        have g2 := (HT.out.next hB).box.c2
        have g3 := (HT.out.next hB).box.c3
        have g4 := (HT.out.next hB).box.c4
        have g5 := (HT.out.next hB).box.c5
        have g6 := (HT.out.next hB).box.c6
        have g7 := (HT.out.next hB).box.c7
        have g8 := (HT.out.next hB).box.c8
        have g9 := (HT.out.next hB).box.c9
        have g10 := (HT.out.next hB).box.c10
        have g11 := (HT.out.next hB).box.c11
        have g12 := (HT.out.next hB).box.c12
        go_simp
        exact hK _ _ (Below.refl _ _) rfl
      | 16, ho =>
        obtain rfl := Option.some.inj ho
        have e11 : x 11 = .bool true := hd ⟨11, .guard⟩ (by simp) rfl
        simp only [Inv.fill, Act.put, List.setIfInBounds_toArray, List.set_cons_zero, List.set_cons_succ, e11] at hK ⊢
        clear hd ho e11
        rw [wpOp]
        refine (if_pos rfl).mpr (.inl ?_)
        go_simp
        exact hK _ _ (Below.refl _ _) rfl
      | 17, ho =>
        obtain rfl := Option.some.inj ho
        have e15 : x 15 = .agg #[.slice v.A v.c.banks.length v.cb, .int .i64 v.c.floors, .int .i64 v.c.home, .slice v.O v.c.order.length v.co, .int .i64 v.c.speed, .int .i64 v.c.width, .int .i64 v.c.dwell, .int .i64 v.c.good, .int .i64 v.c.dead, .int .i64 v.c.lag, .int .i64 v.c.turn, .int .i64 v.c.cost, .int .i64 v.c.full] := hd ⟨15, .data⟩ (by simp) rfl
        have e16 : x 16 = .int .i64 b := hd ⟨16, .data⟩ (by simp) rfl
        have e11 : x 11 = .bool true := hd ⟨11, .guard⟩ (by simp) rfl
        simp only [Inv.fill, Act.put, List.setIfInBounds_toArray, List.set_cons_zero, List.set_cons_succ, e15, e16, e11] at hK ⊢
        clear hd ho e15 e16 e11
        rw [wpOp]
        refine (if_pos rfl).mpr (.inl ?_)
        have hc := HBB.out W
        go_simp
        refine hc.mono ?_
        rintro e w2 ⟨rfl, hb2⟩
        exact hK _ _ hb2 rfl
      | 18, ho =>
        obtain rfl := Option.some.inj ho
        have e14 : x 14 = .int .i64 ba := hd ⟨14, .data⟩ (by simp) rfl
        have e17 : x 17 = .int .i64 bb := hd ⟨17, .data⟩ (by simp) rfl
        have e11 : x 11 = .bool true := hd ⟨11, .guard⟩ (by simp) rfl
        simp only [Inv.fill, Act.put, List.setIfInBounds_toArray, List.set_cons_zero, List.set_cons_succ, e14, e17, e11] at hK ⊢
        clear hd ho e14 e17 e11
        rw [wpOp]
        refine (if_pos rfl).mpr (.inl ?_)
        go_simp
        exact hK _ _ (Below.refl _ _) (congrArg (Value.int .i64) E3.out)
      | 19, ho =>
        obtain rfl := Option.some.inj ho
        have e11 : x 11 = .bool true := hd ⟨11, .guard⟩ (by simp) rfl
        simp only [Inv.fill, Act.put, List.setIfInBounds_toArray, List.set_cons_zero, List.set_cons_succ, e11] at hK ⊢
        clear hd ho e11
        rw [wpOp]
        refine (if_pos rfl).mpr (.inl ?_)
        go_simp
        exact hK _ _ (Below.refl _ _) rfl
      | 20, ho =>
        obtain rfl := Option.some.inj ho
        have e11 : x 11 = .bool true := hd ⟨11, .guard⟩ (by simp) rfl
        simp only [Inv.fill, Act.put, List.setIfInBounds_toArray, List.set_cons_zero, List.set_cons_succ, e11] at hK ⊢
        clear hd ho e11
        rw [wpOp]
        refine (if_pos rfl).mpr (.inl ?_)
        go_simp
        exact hK _ _ (Below.refl _ _) rfl
      | 21, ho =>
        obtain rfl := Option.some.inj ho
        have e19 : x 19 = .int .i64 xa := hd ⟨19, .data⟩ (by simp) rfl
        have e20 : x 20 = .int .i64 yb := hd ⟨20, .data⟩ (by simp) rfl
        have e11 : x 11 = .bool true := hd ⟨11, .guard⟩ (by simp) rfl
        simp only [Inv.fill, Act.put, List.setIfInBounds_toArray, List.set_cons_zero, List.set_cons_succ, e19, e20, e11] at hK ⊢
        clear hd ho e19 e20 e11
        rw [wpOp]
        refine (if_pos rfl).mpr (.inl ?_)
        go_simp
        exact hK _ _ (Below.refl _ _) (congrArg (Value.int .i64) E2.out)
      | 22, ho =>
        obtain rfl := Option.some.inj ho
        have e18 : x 18 = .int .i64 d := hd ⟨18, .data⟩ (by simp) rfl
        have e21 : x 21 = .int .i64 d := hd ⟨21, .data⟩ (by simp) rfl
        have e11 : x 11 = .bool true := hd ⟨11, .guard⟩ (by simp) rfl
        simp only [Inv.fill, Act.put, List.setIfInBounds_toArray, List.set_cons_zero, List.set_cons_succ, e18, e21, e11] at hK ⊢
        clear hd ho e18 e21 e11
        rw [wpOp]
        refine (if_pos rfl).mpr (.inl ?_)
        go_simp
        exact hK _ _ (Below.refl _ _) (show Value.bool _ = Value.bool true by simp)
      | 23, ho =>
        obtain rfl := Option.some.inj ho
        have e11 : x 11 = .bool true := hd ⟨11, .data⟩ (by simp) rfl
        have e22 : x 22 = .bool true := hd ⟨22, .data⟩ (by simp) rfl
        simp only [Inv.fill, Act.put, List.setIfInBounds_toArray, List.set_cons_zero, List.set_cons_succ, e11, e22] at hK ⊢
        clear hd ho e11 e22
        rw [wpOp]
        refine (if_pos rfl).mpr (.inl ?_)
        go_simp
        exact hK _ _ (Below.refl _ _) rfl
      | 24, ho =>
        obtain rfl := Option.some.inj ho
        have e23 : x 23 = .bool true := hd ⟨23, .data⟩ (by simp) rfl
        simp only [Inv.fill, Act.put, List.setIfInBounds_toArray, List.set_cons_zero, List.set_cons_succ, e23] at hK ⊢
        clear hd ho e23
        rw [wpOp]
        refine (if_pos rfl).mpr (.inl ?_)
        go_simp
        exact hK _ _ (Below.refl _ _) rfl
      | 25, ho =>
        obtain rfl := Option.some.inj ho
        have e24 : x 24 = .bool true := hd ⟨24, .guard⟩ (by simp) rfl
        simp only [Inv.fill, Act.put, List.setIfInBounds_toArray, List.set_cons_zero, List.set_cons_succ, e24] at hK ⊢
        clear hd ho e24
        rw [wpOp]
        refine (if_pos rfl).mpr (.inl ?_)
        have g0 := (HT.out.next hB).box.c0
        have g1 := (HT.out.next hB).box.c1
        have g2 := (HT.out.next hB).box.c2
        have g3 := (HT.out.next hB).box.c3
        have g4 := (HT.out.next hB).box.c4
        have g5 := (HT.out.next hB).box.c5
        have g6 := (HT.out.next hB).box.c6
        have g7 := (HT.out.next hB).box.c7
        have g8 := (HT.out.next hB).box.c8
        have g9 := (HT.out.next hB).box.c9
        have g10 := (HT.out.next hB).box.c10
        have g11 := (HT.out.next hB).box.c11
        have g12 := (HT.out.next hB).box.c12
        go_simp
        exact hK _ _ (Below.refl _ _) rfl
      | 26, ho =>
        obtain rfl := Option.some.inj ho
        have e25 : x 25 = .agg #[.slice v.A v.c.banks.length v.cb, .int .i64 v.c.floors, .int .i64 v.c.home, .slice v.O v.c.order.length v.co, .int .i64 v.c.speed, .int .i64 v.c.width, .int .i64 v.c.dwell, .int .i64 v.c.good, .int .i64 v.c.dead, .int .i64 v.c.lag, .int .i64 v.c.turn, .int .i64 v.c.cost, .int .i64 v.c.full] := hd ⟨25, .data⟩ (by simp) rfl
        have e24 : x 24 = .bool true := hd ⟨24, .chain⟩ (by simp) rfl
        simp only [Inv.fill, Act.put, List.setIfInBounds_toArray, List.set_cons_zero, List.set_cons_succ, e25, e24] at hK ⊢
        clear hd ho e25 e24
        rw [wpOp]
        refine (if_pos rfl).mpr (.inl ?_)
        have hc := HSA.out W
        go_simp
        refine hc.mono ?_
        rintro e w2 ⟨rfl, hb2⟩
        exact hK _ _ hb2 rfl
      | 27, ho =>
        obtain rfl := Option.some.inj ho
        have e26 : x 26 = .int .i64 sv := hd ⟨26, .data⟩ (by simp) rfl
        have e24 : x 24 = .bool true := hd ⟨24, .guard⟩ (by simp) rfl
        simp only [Inv.fill, Act.put, List.setIfInBounds_toArray, List.set_cons_zero, List.set_cons_succ, e26, e24] at hK ⊢
        clear hd ho e26 e24
        rw [wpOp]
        refine (if_pos rfl).mpr (.inl ?_)
        go_simp
        exact hK _ _ (Below.refl _ _) (congrArg Value.bool G1.out)
      | 28, ho =>
        obtain rfl := Option.some.inj ho
        have e24 : x 24 = .bool true := hd ⟨24, .data⟩ (by simp) rfl
        have e27 : x 27 = .bool true := hd ⟨27, .data⟩ (by simp) rfl
        simp only [Inv.fill, Act.put, List.setIfInBounds_toArray, List.set_cons_zero, List.set_cons_succ, e24, e27] at hK ⊢
        clear hd ho e24 e27
        rw [wpOp]
        refine (if_pos rfl).mpr (.inl ?_)
        go_simp
        exact hK _ _ (Below.refl _ _) rfl
      | 29, ho =>
        obtain rfl := Option.some.inj ho
        have e28 : x 28 = .bool true := hd ⟨28, .data⟩ (by simp) rfl
        simp only [Inv.fill, Act.put, List.setIfInBounds_toArray, List.set_cons_zero, List.set_cons_succ, e28] at hK ⊢
        clear hd ho e28
        rw [wpOp]
        refine (if_pos rfl).mpr (.inl ?_)
        go_simp
        exact hK _ _ (Below.refl _ _) rfl
      | 30, ho =>
        obtain rfl := Option.some.inj ho
        have e29 : x 29 = .bool true := hd ⟨29, .guard⟩ (by simp) rfl
        simp only [Inv.fill, Act.put, List.setIfInBounds_toArray, List.set_cons_zero, List.set_cons_succ, e29] at hK ⊢
        clear hd ho e29
        rw [wpOp]
        refine (if_pos rfl).mpr (.inl ?_)
        have g0 := (HT.out.next hB).box.c0
        have g1 := (HT.out.next hB).box.c1
        have g2 := (HT.out.next hB).box.c2
        have g3 := (HT.out.next hB).box.c3
        have g4 := (HT.out.next hB).box.c4
        have g5 := (HT.out.next hB).box.c5
        have g6 := (HT.out.next hB).box.c6
        have g7 := (HT.out.next hB).box.c7
        have g8 := (HT.out.next hB).box.c8
        have g9 := (HT.out.next hB).box.c9
        have g10 := (HT.out.next hB).box.c10
        have g11 := (HT.out.next hB).box.c11
        have g12 := (HT.out.next hB).box.c12
        go_simp
        exact hK _ _ (Below.refl _ _) rfl
      | 31, ho =>
        obtain rfl := Option.some.inj ho
        have e30 : x 30 = .agg #[.slice v.A v.c.banks.length v.cb, .int .i64 v.c.floors, .int .i64 v.c.home, .slice v.O v.c.order.length v.co, .int .i64 v.c.speed, .int .i64 v.c.width, .int .i64 v.c.dwell, .int .i64 v.c.good, .int .i64 v.c.dead, .int .i64 v.c.lag, .int .i64 v.c.turn, .int .i64 v.c.cost, .int .i64 v.c.full] := hd ⟨30, .data⟩ (by simp) rfl
        have e29 : x 29 = .bool true := hd ⟨29, .chain⟩ (by simp) rfl
        simp only [Inv.fill, Act.put, List.setIfInBounds_toArray, List.set_cons_zero, List.set_cons_succ, e30, e29] at hK ⊢
        clear hd ho e30 e29
        rw [wpOp]
        refine (if_pos rfl).mpr (.inl ?_)
        have hc := HSA.out W
        go_simp
        refine hc.mono ?_
        rintro e w2 ⟨rfl, hb2⟩
        exact hK _ _ hb2 rfl
      | 32, ho =>
        obtain rfl := Option.some.inj ho
        have e31 : x 31 = .int .i64 sv := hd ⟨31, .data⟩ (by simp) rfl
        have e29 : x 29 = .bool true := hd ⟨29, .guard⟩ (by simp) rfl
        simp only [Inv.fill, Act.put, List.setIfInBounds_toArray, List.set_cons_zero, List.set_cons_succ, e31, e29] at hK ⊢
        clear hd ho e31 e29
        rw [wpOp]
        refine (if_pos rfl).mpr (.inl ?_)
        go_simp
        exact hK _ _ (Below.refl _ _) (congrArg Value.bool G2.out)
      | 33, ho =>
        obtain rfl := Option.some.inj ho
        have e29 : x 29 = .bool true := hd ⟨29, .data⟩ (by simp) rfl
        have e32 : x 32 = .bool true := hd ⟨32, .data⟩ (by simp) rfl
        simp only [Inv.fill, Act.put, List.setIfInBounds_toArray, List.set_cons_zero, List.set_cons_succ, e29, e32] at hK ⊢
        clear hd ho e29 e32
        rw [wpOp]
        refine (if_pos rfl).mpr (.inl ?_)
        go_simp
        exact hK _ _ (Below.refl _ _) rfl
      | 34, ho =>
        obtain rfl := Option.some.inj ho
        have e33 : x 33 = .bool true := hd ⟨33, .data⟩ (by simp) rfl
        simp only [Inv.fill, Act.put, List.setIfInBounds_toArray, List.set_cons_zero, List.set_cons_succ, e33] at hK ⊢
        clear hd ho e33
        rw [wpOp]
        refine (if_pos rfl).mpr (.inl ?_)
        go_simp
        exact hK _ _ (Below.refl _ _) rfl
      | n + 35, ho => simp at ho
    · intro x W hB hx
      have e34 : x 34 = .bool true := hx 34 (by simp)
      simp only [Inv.fill, Act.put, List.setIfInBounds_toArray, List.set_cons_zero, List.set_cons_succ, e34]
      clear hx e34
      go_wp2
      go_ret
      exact ⟨rfl, (HT.out.next hB).below⟩

end Go.Proofs.Ytkicijgempccfaa.Walk
