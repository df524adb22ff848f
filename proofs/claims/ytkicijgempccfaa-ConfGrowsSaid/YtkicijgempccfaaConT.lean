/- Contracts of the document's own answers: Limit, Back. -/
import Derived.Test.YtkicijgempccfaaConR
import Derived.Test.YtkicijgempccfaaConH
namespace Go.Proofs.Ytkicijgempccfaa.Con
open Go.RowKit Go.Proofs.Ytkicijgempccfaa.RatP Go.Proofs.Ytkicijgempccfaa.SatP Go.Proofs.Ytkicijgempccfaa.ConP Go.Proofs.Ytkicijgempccfaa.Rat
set_option linter.unusedVariables false

def RLimitF (N : Nat) (A O : Option Addr) (nb cb no co : Nat) (floors home speed width dwell good dead lag turn cost full blocked nc rn q y6 y7 y8 y9 y12 y15 y18 y21 z : Int) : Nat → Value → World → Prop
  | 0, v, _ => v = .agg #[.slice A nb cb, .int .i64 floors, .int .i64 home, .slice O no co, .int .i64 speed, .int .i64 width, .int .i64 dwell, .int .i64 good, .int .i64 dead, .int .i64 lag, .int .i64 turn, .int .i64 cost, .int .i64 full]
  | 1, v, _ => v = .int .i64 nc
  | 2, v, _ => v = .agg #[.slice A nb cb, .int .i64 floors, .int .i64 home, .slice O no co, .int .i64 speed, .int .i64 width, .int .i64 dwell, .int .i64 good, .int .i64 dead, .int .i64 lag, .int .i64 turn, .int .i64 cost, .int .i64 full]
  | 3, v, _ => v = .int .i64 rn
  | 4, v, _ => v = .pointer (some ⟨N, 5, none⟩)
  | 5, v, _ => v = .int .i64 width
  | 6, v, _ => v = .int .i64 y6
  | 7, v, _ => v = .int .i64 y7
  | 8, v, _ => v = .int .i64 y8
  | 9, v, _ => v = .int .i64 y9
  | 10, v, _ => v = .int .i64 blocked
  | 11, v, _ => v = .int .i64 q
  | 12, v, _ => v = .int .i64 y12
  | 13, v, _ => v = .pointer (some ⟨N, 7, none⟩)
  | 14, v, _ => v = .int .i64 good
  | 15, v, _ => v = .int .i64 y15
  | 16, v, _ => v = .pointer (some ⟨N, 8, none⟩)
  | 17, v, _ => v = .int .i64 dead
  | 18, v, _ => v = .int .i64 y18
  | 19, v, _ => v = .pointer (some ⟨N, 9, none⟩)
  | 20, v, _ => v = .int .i64 lag
  | 21, v, _ => v = .int .i64 y21
  | 22, v, _ => v = .int .i64 z
  | 23, v, _ => v = .int .i64 z
  | _, _, _ => True

set_option maxHeartbeats 3200000 in
theorem refLimit_any (v : V) (hm : v.c.May) (blocked : Int) (w : World) (hin : V.In w v) : Calls Try.prog 25 #[v.val, .int .i64 blocked] w (Says w (.int .i64 (limit v.c blocked))) := by
  have hfl := hm.fl
  have hwd := hm.wd
  have hgo := hm.go
  have hde := hm.de
  have hla := hm.la
  have hnb := hm.nb
  have hcb := cars_bd _ hm.bs
  have hbk := bk_bd blocked
  have hrun : run v.c = 8 * v.c.floors - 7 := rfl
  have HR := Lib.hid (fun W => refRun_any v (by omega) (by omega) W)
  have HC := Lib.hid (fun W (h : V.In W v) => refCars_any v hm.bs (by omega) W h)
  have HK := Lib.hid (fun W => stops_any blocked W)
  have hp : cars v.c.banks * (run v.c + 2 * v.c.width + 6) ≤ 64 * 500 := Int.mul_le_mul (by omega) (by omega) (by omega) (by omega)
  have hp0 : 0 ≤ cars v.c.banks * (run v.c + 2 * v.c.width + 6) := Int.mul_nonneg (by omega) (by omega)
  have hz : limit v.c blocked = cars v.c.banks * (run v.c + 2 * v.c.width + 6) + bk blocked + v.c.good + v.c.dead + v.c.lag + 10 := rfl
  have HX : Hid (∀ W, Below (w.alloc (.cells v.arr 31)).heap.size (w.alloc (.cells v.arr 31)) W → CBox W w.heap.size v) := Lib.hid fun W h => (CBox.new w v _).next h
  have HI : Hid (∀ W, Below (w.alloc (.cells v.arr 31)).heap.size (w.alloc (.cells v.arr 31)) W → V.In W v) := Lib.hid fun W h => (hin.box _).next h
  have HBW : Hid (Below w.heap.size w (w.alloc (.cells v.arr 31))) := Lib.hid says_box
  generalize limit v.c blocked = z at *
  generalize hy9 : cars v.c.banks * (run v.c + 2 * v.c.width + 6) = y9 at *
  generalize hy8 : run v.c + 2 * v.c.width + 6 = y8 at *
  generalize run v.c = rn at *
  generalize cars v.c.banks = nc at *
  generalize bk blocked = q at *
  obtain ⟨A, cb, O, co, ⟨banks, floors, home, order, speed, width, dwell, good, dead, lag, turn, cost, full⟩⟩ := v
  simp only [V.val, V.arr] at *
  obtain ⟨y6, hy6⟩ : ∃ y, 2 * width = y := ⟨_, rfl⟩
  obtain ⟨y7, hy7⟩ : ∃ y, rn + y6 = y := ⟨_, rfl⟩
  obtain ⟨y12, hy12⟩ : ∃ y, y9 + q = y := ⟨_, rfl⟩
  obtain ⟨y15, hy15⟩ : ∃ y, y12 + good = y := ⟨_, rfl⟩
  obtain ⟨y18, hy18⟩ : ∃ y, y15 + dead = y := ⟨_, rfl⟩
  obtain ⟨y21, hy21⟩ : ∃ y, y18 + lag = y := ⟨_, rfl⟩
  have Ey6 : Hid (IntKind.i64.wrap (2 * width) = y6) := Lib.hid ((IntWalk.i64_in _ (by omega)).trans hy6)
  have Ey7 : Hid (IntKind.i64.wrap (rn + y6) = y7) := Lib.hid ((IntWalk.i64_in _ (by omega)).trans hy7)
  have Ey8 : Hid (IntKind.i64.wrap (y7 + 6) = y8) := Lib.hid ((IntWalk.i64_in _ (by omega)).trans (by omega))
  have Ey9 : Hid (IntKind.i64.wrap (nc * y8) = y9) := Lib.hid ((IntWalk.i64_in _ (by omega)).trans hy9)
  have Ey12 : Hid (IntKind.i64.wrap (y9 + q) = y12) := Lib.hid ((IntWalk.i64_in _ (by omega)).trans hy12)
  have Ey15 : Hid (IntKind.i64.wrap (y12 + good) = y15) := Lib.hid ((IntWalk.i64_in _ (by omega)).trans hy15)
  have Ey18 : Hid (IntKind.i64.wrap (y15 + dead) = y18) := Lib.hid ((IntWalk.i64_in _ (by omega)).trans hy18)
  have Ey21 : Hid (IntKind.i64.wrap (y18 + lag) = y21) := Lib.hid ((IntWalk.i64_in _ (by omega)).trans hy21)
  have Ez : Hid (IntKind.i64.wrap (y21 + 10) = z) := Lib.hid ((IntWalk.i64_in _ (by omega)).trans (by omega))
  clear hfl hwd hgo hde hla hnb hcb hbk hrun hp hp0 hm hin hz hy6 hy7 hy8 hy9 hy12 hy15 hy18 hy21
  go_enter Try.func25, Try.ntmps25
  go_wp2
  refine Inv.wp_region_inv (RLimitF w.heap.size A O banks.length cb order.length co floors home speed width dwell good dead lag turn cost full blocked nc rn q y6 y7 y8 y9 y12 y15 y18 y21 z) (by kernel_rfl) (by kernel_rfl) (by kernel_rfl) ?_ ?_ ?_
  · intro i v W W' _ h hb
    unfold RLimitF at h ⊢
    split at h <;> first | exact h | exact NewRow.next h hb
  · intro i o x W K ho hB hd hK
    match i, ho with
    | 0, ho =>
      obtain rfl := Option.some.inj ho
      simp only [Inv.fill, Act.put, List.setIfInBounds_toArray, List.set_cons_zero, List.set_cons_succ] at hK ⊢
      clear hd ho
      rw [wpOp]
      refine (if_pos rfl).mpr (.inl ?_)
      have g0 := (HX.out W hB).c0
      have g1 := (HX.out W hB).c1
      have g2 := (HX.out W hB).c2
      have g3 := (HX.out W hB).c3
      have g4 := (HX.out W hB).c4
      have g5 := (HX.out W hB).c5
      have g6 := (HX.out W hB).c6
      have g7 := (HX.out W hB).c7
      have g8 := (HX.out W hB).c8
      have g9 := (HX.out W hB).c9
      have g10 := (HX.out W hB).c10
      have g11 := (HX.out W hB).c11
      have g12 := (HX.out W hB).c12
      go_simp
      exact hK _ _ (Below.refl _ _) rfl
    | 1, ho =>
      obtain rfl := Option.some.inj ho
      have e0 : x 0 = .agg #[.slice A banks.length cb, .int .i64 floors, .int .i64 home, .slice O order.length co, .int .i64 speed, .int .i64 width, .int .i64 dwell, .int .i64 good, .int .i64 dead, .int .i64 lag, .int .i64 turn, .int .i64 cost, .int .i64 full] := hd ⟨0, .data⟩ (by simp) rfl
      simp only [Inv.fill, Act.put, List.setIfInBounds_toArray, List.set_cons_zero, List.set_cons_succ, e0] at hK ⊢
      clear hd ho e0
      rw [wpOp]
      refine (if_pos rfl).mpr (.inl ?_)
      have hc := HC.out W (HI.out W hB)
      go_simp
      refine hc.mono ?_
      rintro e w2 ⟨rfl, hb2⟩
      exact hK _ _ hb2 rfl
    | 2, ho =>
      obtain rfl := Option.some.inj ho
      simp only [Inv.fill, Act.put, List.setIfInBounds_toArray, List.set_cons_zero, List.set_cons_succ] at hK ⊢
      clear hd ho
      rw [wpOp]
      refine (if_pos rfl).mpr (.inl ?_)
      have g0 := (HX.out W hB).c0
      have g1 := (HX.out W hB).c1
      have g2 := (HX.out W hB).c2
      have g3 := (HX.out W hB).c3
      have g4 := (HX.out W hB).c4
      have g5 := (HX.out W hB).c5
      have g6 := (HX.out W hB).c6
      have g7 := (HX.out W hB).c7
      have g8 := (HX.out W hB).c8
      have g9 := (HX.out W hB).c9
      have g10 := (HX.out W hB).c10
      have g11 := (HX.out W hB).c11
      have g12 := (HX.out W hB).c12
      go_simp
      exact hK _ _ (Below.refl _ _) rfl
    | 3, ho =>
      obtain rfl := Option.some.inj ho
      have e2 : x 2 = .agg #[.slice A banks.length cb, .int .i64 floors, .int .i64 home, .slice O order.length co, .int .i64 speed, .int .i64 width, .int .i64 dwell, .int .i64 good, .int .i64 dead, .int .i64 lag, .int .i64 turn, .int .i64 cost, .int .i64 full] := hd ⟨2, .data⟩ (by simp) rfl
      simp only [Inv.fill, Act.put, List.setIfInBounds_toArray, List.set_cons_zero, List.set_cons_succ, e2] at hK ⊢
      clear hd ho e2
      rw [wpOp]
      refine (if_pos rfl).mpr (.inl ?_)
      have hc := HR.out W
      go_simp
      refine hc.mono ?_
      rintro e w2 ⟨rfl, hb2⟩
      exact hK _ _ hb2 rfl
    | 4, ho =>
      obtain rfl := Option.some.inj ho
      simp only [Inv.fill, Act.put, List.setIfInBounds_toArray, List.set_cons_zero, List.set_cons_succ] at hK ⊢
      clear hd ho
      rw [wpOp]
      refine (if_pos rfl).mpr (.inl ?_)
      go_simp
      exact hK _ _ (Below.refl _ _) rfl
    | 5, ho =>
      obtain rfl := Option.some.inj ho
      have e4 : x 4 = .pointer (some ⟨w.heap.size, 5, none⟩) := hd ⟨4, .data⟩ (by simp) rfl
      simp only [Inv.fill, Act.put, List.setIfInBounds_toArray, List.set_cons_zero, List.set_cons_succ, e4] at hK ⊢
      clear hd ho e4
      rw [wpOp]
      refine (if_pos rfl).mpr (.inl ?_)
      have g5 := (HX.out W hB).c5
      go_simp
      exact hK _ _ (Below.refl _ _) rfl
    | 6, ho =>
      obtain rfl := Option.some.inj ho
      have e5 : x 5 = .int .i64 width := hd ⟨5, .data⟩ (by simp) rfl
      simp only [Inv.fill, Act.put, List.setIfInBounds_toArray, List.set_cons_zero, List.set_cons_succ, e5] at hK ⊢
      clear hd ho e5
      rw [wpOp]
      refine (if_pos rfl).mpr (.inl ?_)
      go_simp
      exact hK _ _ (Below.refl _ _) (congrArg (Value.int .i64) Ey6.out)
    | 7, ho =>
      obtain rfl := Option.some.inj ho
      have e3 : x 3 = .int .i64 rn := hd ⟨3, .data⟩ (by simp) rfl
      have e6 : x 6 = .int .i64 y6 := hd ⟨6, .data⟩ (by simp) rfl
      simp only [Inv.fill, Act.put, List.setIfInBounds_toArray, List.set_cons_zero, List.set_cons_succ, e3, e6] at hK ⊢
      clear hd ho e3 e6
      rw [wpOp]
      refine (if_pos rfl).mpr (.inl ?_)
      go_simp
      exact hK _ _ (Below.refl _ _) (congrArg (Value.int .i64) Ey7.out)
    | 8, ho =>
      obtain rfl := Option.some.inj ho
      have e7 : x 7 = .int .i64 y7 := hd ⟨7, .data⟩ (by simp) rfl
      simp only [Inv.fill, Act.put, List.setIfInBounds_toArray, List.set_cons_zero, List.set_cons_succ, e7] at hK ⊢
      clear hd ho e7
      rw [wpOp]
      refine (if_pos rfl).mpr (.inl ?_)
      go_simp
      exact hK _ _ (Below.refl _ _) (congrArg (Value.int .i64) Ey8.out)
    | 9, ho =>
      obtain rfl := Option.some.inj ho
      have e1 : x 1 = .int .i64 nc := hd ⟨1, .data⟩ (by simp) rfl
      have e8 : x 8 = .int .i64 y8 := hd ⟨8, .data⟩ (by simp) rfl
      simp only [Inv.fill, Act.put, List.setIfInBounds_toArray, List.set_cons_zero, List.set_cons_succ, e1, e8] at hK ⊢
      clear hd ho e1 e8
      rw [wpOp]
      refine (if_pos rfl).mpr (.inl ?_)
      go_simp
      exact hK _ _ (Below.refl _ _) (congrArg (Value.int .i64) Ey9.out)
    | 10, ho =>
      obtain rfl := Option.some.inj ho
      simp only [Inv.fill, Act.put, List.setIfInBounds_toArray, List.set_cons_zero, List.set_cons_succ] at hK ⊢
      clear hd ho
      rw [wpOp]
      refine (if_pos rfl).mpr (.inl ?_)
      go_simp
      exact hK _ _ (Below.refl _ _) rfl
    | 11, ho =>
      obtain rfl := Option.some.inj ho
      have e10 : x 10 = .int .i64 blocked := hd ⟨10, .data⟩ (by simp) rfl
      simp only [Inv.fill, Act.put, List.setIfInBounds_toArray, List.set_cons_zero, List.set_cons_succ, e10] at hK ⊢
      clear hd ho e10
      rw [wpOp]
      refine (if_pos rfl).mpr (.inl ?_)
      have hc := HK.out W
      go_simp
      refine hc.mono ?_
      rintro e w2 ⟨rfl, rfl⟩
      exact hK _ _ (Below.refl _ _) rfl
    | 12, ho =>
      obtain rfl := Option.some.inj ho
      have e9 : x 9 = .int .i64 y9 := hd ⟨9, .data⟩ (by simp) rfl
      have e11 : x 11 = .int .i64 q := hd ⟨11, .data⟩ (by simp) rfl
      simp only [Inv.fill, Act.put, List.setIfInBounds_toArray, List.set_cons_zero, List.set_cons_succ, e9, e11] at hK ⊢
      clear hd ho e9 e11
      rw [wpOp]
      refine (if_pos rfl).mpr (.inl ?_)
      go_simp
      exact hK _ _ (Below.refl _ _) (congrArg (Value.int .i64) Ey12.out)
    | 13, ho =>
      obtain rfl := Option.some.inj ho
      simp only [Inv.fill, Act.put, List.setIfInBounds_toArray, List.set_cons_zero, List.set_cons_succ] at hK ⊢
      clear hd ho
      rw [wpOp]
      refine (if_pos rfl).mpr (.inl ?_)
      go_simp
      exact hK _ _ (Below.refl _ _) rfl
    | 14, ho =>
      obtain rfl := Option.some.inj ho
      have e13 : x 13 = .pointer (some ⟨w.heap.size, 7, none⟩) := hd ⟨13, .data⟩ (by simp) rfl
      simp only [Inv.fill, Act.put, List.setIfInBounds_toArray, List.set_cons_zero, List.set_cons_succ, e13] at hK ⊢
      clear hd ho e13
      rw [wpOp]
      refine (if_pos rfl).mpr (.inl ?_)
      have g7 := (HX.out W hB).c7
      go_simp
      exact hK _ _ (Below.refl _ _) rfl
    | 15, ho =>
      obtain rfl := Option.some.inj ho
      have e12 : x 12 = .int .i64 y12 := hd ⟨12, .data⟩ (by simp) rfl
      have e14 : x 14 = .int .i64 good := hd ⟨14, .data⟩ (by simp) rfl
      simp only [Inv.fill, Act.put, List.setIfInBounds_toArray, List.set_cons_zero, List.set_cons_succ, e12, e14] at hK ⊢
      clear hd ho e12 e14
      rw [wpOp]
      refine (if_pos rfl).mpr (.inl ?_)
      go_simp
      exact hK _ _ (Below.refl _ _) (congrArg (Value.int .i64) Ey15.out)
    | 16, ho =>
      obtain rfl := Option.some.inj ho
      simp only [Inv.fill, Act.put, List.setIfInBounds_toArray, List.set_cons_zero, List.set_cons_succ] at hK ⊢
      clear hd ho
      rw [wpOp]
      refine (if_pos rfl).mpr (.inl ?_)
      go_simp
      exact hK _ _ (Below.refl _ _) rfl
    | 17, ho =>
      obtain rfl := Option.some.inj ho
      have e16 : x 16 = .pointer (some ⟨w.heap.size, 8, none⟩) := hd ⟨16, .data⟩ (by simp) rfl
      simp only [Inv.fill, Act.put, List.setIfInBounds_toArray, List.set_cons_zero, List.set_cons_succ, e16] at hK ⊢
      clear hd ho e16
      rw [wpOp]
      refine (if_pos rfl).mpr (.inl ?_)
      have g8 := (HX.out W hB).c8
      go_simp
      exact hK _ _ (Below.refl _ _) rfl
    | 18, ho =>
      obtain rfl := Option.some.inj ho
      have e15 : x 15 = .int .i64 y15 := hd ⟨15, .data⟩ (by simp) rfl
      have e17 : x 17 = .int .i64 dead := hd ⟨17, .data⟩ (by simp) rfl
      simp only [Inv.fill, Act.put, List.setIfInBounds_toArray, List.set_cons_zero, List.set_cons_succ, e15, e17] at hK ⊢
      clear hd ho e15 e17
      rw [wpOp]
      refine (if_pos rfl).mpr (.inl ?_)
      go_simp
      exact hK _ _ (Below.refl _ _) (congrArg (Value.int .i64) Ey18.out)
    | 19, ho =>
      obtain rfl := Option.some.inj ho
      simp only [Inv.fill, Act.put, List.setIfInBounds_toArray, List.set_cons_zero, List.set_cons_succ] at hK ⊢
      clear hd ho
      rw [wpOp]
      refine (if_pos rfl).mpr (.inl ?_)
      go_simp
      exact hK _ _ (Below.refl _ _) rfl
    | 20, ho =>
      obtain rfl := Option.some.inj ho
      have e19 : x 19 = .pointer (some ⟨w.heap.size, 9, none⟩) := hd ⟨19, .data⟩ (by simp) rfl
      simp only [Inv.fill, Act.put, List.setIfInBounds_toArray, List.set_cons_zero, List.set_cons_succ, e19] at hK ⊢
      clear hd ho e19
      rw [wpOp]
      refine (if_pos rfl).mpr (.inl ?_)
      have g9 := (HX.out W hB).c9
      go_simp
      exact hK _ _ (Below.refl _ _) rfl
    | 21, ho =>
      obtain rfl := Option.some.inj ho
      have e18 : x 18 = .int .i64 y18 := hd ⟨18, .data⟩ (by simp) rfl
      have e20 : x 20 = .int .i64 lag := hd ⟨20, .data⟩ (by simp) rfl
      simp only [Inv.fill, Act.put, List.setIfInBounds_toArray, List.set_cons_zero, List.set_cons_succ, e18, e20] at hK ⊢
      clear hd ho e18 e20
      rw [wpOp]
      refine (if_pos rfl).mpr (.inl ?_)
      go_simp
      exact hK _ _ (Below.refl _ _) (congrArg (Value.int .i64) Ey21.out)
    | 22, ho =>
      obtain rfl := Option.some.inj ho
      have e21 : x 21 = .int .i64 y21 := hd ⟨21, .data⟩ (by simp) rfl
      simp only [Inv.fill, Act.put, List.setIfInBounds_toArray, List.set_cons_zero, List.set_cons_succ, e21] at hK ⊢
      clear hd ho e21
      rw [wpOp]
      refine (if_pos rfl).mpr (.inl ?_)
      go_simp
      exact hK _ _ (Below.refl _ _) (congrArg (Value.int .i64) Ez.out)
    | 23, ho =>
      obtain rfl := Option.some.inj ho
      have e22 : x 22 = .int .i64 z := hd ⟨22, .data⟩ (by simp) rfl
      simp only [Inv.fill, Act.put, List.setIfInBounds_toArray, List.set_cons_zero, List.set_cons_succ, e22] at hK ⊢
      clear hd ho e22
      rw [wpOp]
      refine (if_pos rfl).mpr (.inl ?_)
      go_simp
      exact hK _ _ (Below.refl _ _) rfl
    | n + 24, ho => simp at ho
  · intro x W hB hx
    have e23 : x 23 = .int .i64 z := hx 23 (by simp)
    simp only [Inv.fill, Act.put, List.setIfInBounds_toArray, List.set_cons_zero, List.set_cons_succ, e23]
    clear hx e23
    go_wp2
    go_ret
    exact ⟨rfl, below_mono HBW.out hB⟩

def RBackF (N : Nat) (A O : Option Addr) (nb cb no co : Nat) (floors home speed width dwell good dead lag turn cost full blocked rn q y4 y7 y8 y11 y12 y15 z : Int) : Nat → Value → World → Prop
  | 0, v, _ => v = .pointer (some ⟨N, 7, none⟩)
  | 1, v, _ => v = .int .i64 good
  | 2, v, _ => v = .agg #[.slice A nb cb, .int .i64 floors, .int .i64 home, .slice O no co, .int .i64 speed, .int .i64 width, .int .i64 dwell, .int .i64 good, .int .i64 dead, .int .i64 lag, .int .i64 turn, .int .i64 cost, .int .i64 full]
  | 3, v, _ => v = .int .i64 rn
  | 4, v, _ => v = .int .i64 y4
  | 5, v, _ => v = .pointer (some ⟨N, 5, none⟩)
  | 6, v, _ => v = .int .i64 width
  | 7, v, _ => v = .int .i64 y7
  | 8, v, _ => v = .int .i64 y8
  | 9, v, _ => v = .pointer (some ⟨N, 8, none⟩)
  | 10, v, _ => v = .int .i64 dead
  | 11, v, _ => v = .int .i64 y11
  | 12, v, _ => v = .int .i64 y12
  | 13, v, _ => v = .int .i64 blocked
  | 14, v, _ => v = .int .i64 q
  | 15, v, _ => v = .int .i64 y15
  | 16, v, _ => v = .int .i64 z
  | 17, v, _ => v = .int .i64 z
  | _, _, _ => True

set_option maxHeartbeats 3200000 in
theorem refBack_any (v : V) (hm : v.c.May) (blocked : Int) (w : World) : Calls Try.prog 27 #[v.val, .int .i64 blocked] w (Says w (.int .i64 (back v.c blocked))) := by
  have hfl := hm.fl
  have hwd := hm.wd
  have hgo := hm.go
  have hde := hm.de
  have hbk := bk_bd blocked
  have hrun : run v.c = 8 * v.c.floors - 7 := rfl
  have HR := Lib.hid (fun W => refRun_any v (by omega) (by omega) W)
  have HK := Lib.hid (fun W => stops_any blocked W)
  have hz : back v.c blocked = v.c.good + run v.c + 3 * v.c.width + 2 * v.c.dead + bk blocked + 30 := rfl
  have HX : Hid (∀ W, Below (w.alloc (.cells v.arr 31)).heap.size (w.alloc (.cells v.arr 31)) W → CBox W w.heap.size v) := Lib.hid fun W h => (CBox.new w v _).next h
  have HBW : Hid (Below w.heap.size w (w.alloc (.cells v.arr 31))) := Lib.hid says_box
  generalize back v.c blocked = z at *
  generalize run v.c = rn at *
  generalize bk blocked = q at *
  obtain ⟨A, cb, O, co, ⟨banks, floors, home, order, speed, width, dwell, good, dead, lag, turn, cost, full⟩⟩ := v
  simp only [V.val, V.arr] at *
  obtain ⟨y4, hy4⟩ : ∃ y, good + rn = y := ⟨_, rfl⟩
  obtain ⟨y7, hy7⟩ : ∃ y, 3 * width = y := ⟨_, rfl⟩
  obtain ⟨y8, hy8⟩ : ∃ y, y4 + y7 = y := ⟨_, rfl⟩
  obtain ⟨y11, hy11⟩ : ∃ y, 2 * dead = y := ⟨_, rfl⟩
  obtain ⟨y12, hy12⟩ : ∃ y, y8 + y11 = y := ⟨_, rfl⟩
  obtain ⟨y15, hy15⟩ : ∃ y, y12 + q = y := ⟨_, rfl⟩
  have Ey4 : Hid (IntKind.i64.wrap (good + rn) = y4) := Lib.hid ((IntWalk.i64_in _ (by omega)).trans hy4)
  have Ey7 : Hid (IntKind.i64.wrap (3 * width) = y7) := Lib.hid ((IntWalk.i64_in _ (by omega)).trans hy7)
  have Ey8 : Hid (IntKind.i64.wrap (y4 + y7) = y8) := Lib.hid ((IntWalk.i64_in _ (by omega)).trans hy8)
  have Ey11 : Hid (IntKind.i64.wrap (2 * dead) = y11) := Lib.hid ((IntWalk.i64_in _ (by omega)).trans hy11)
  have Ey12 : Hid (IntKind.i64.wrap (y8 + y11) = y12) := Lib.hid ((IntWalk.i64_in _ (by omega)).trans hy12)
  have Ey15 : Hid (IntKind.i64.wrap (y12 + q) = y15) := Lib.hid ((IntWalk.i64_in _ (by omega)).trans hy15)
  have Ez : Hid (IntKind.i64.wrap (y15 + 30) = z) := Lib.hid ((IntWalk.i64_in _ (by omega)).trans (by omega))
  clear hfl hwd hgo hde hbk hrun hm hz hy4 hy7 hy8 hy11 hy12 hy15
  go_enter Try.func27, Try.ntmps27
  go_wp2
  refine Inv.wp_region_inv (RBackF w.heap.size A O banks.length cb order.length co floors home speed width dwell good dead lag turn cost full blocked rn q y4 y7 y8 y11 y12 y15 z) (by kernel_rfl) (by kernel_rfl) (by kernel_rfl) ?_ ?_ ?_
  · intro i v W W' _ h hb
    unfold RBackF at h ⊢
    split at h <;> first | exact h | exact NewRow.next h hb
  · intro i o x W K ho hB hd hK
    match i, ho with
    | 0, ho =>
      obtain rfl := Option.some.inj ho
      simp only [Inv.fill, Act.put, List.setIfInBounds_toArray, List.set_cons_zero, List.set_cons_succ] at hK ⊢
      clear hd ho
      rw [wpOp]
      refine (if_pos rfl).mpr (.inl ?_)
      go_simp
      exact hK _ _ (Below.refl _ _) rfl
    | 1, ho =>
      obtain rfl := Option.some.inj ho
      have e0 : x 0 = .pointer (some ⟨w.heap.size, 7, none⟩) := hd ⟨0, .data⟩ (by simp) rfl
      simp only [Inv.fill, Act.put, List.setIfInBounds_toArray, List.set_cons_zero, List.set_cons_succ, e0] at hK ⊢
      clear hd ho e0
      rw [wpOp]
      refine (if_pos rfl).mpr (.inl ?_)
      have g7 := (HX.out W hB).c7
      go_simp
      exact hK _ _ (Below.refl _ _) rfl
    | 2, ho =>
      obtain rfl := Option.some.inj ho
      simp only [Inv.fill, Act.put, List.setIfInBounds_toArray, List.set_cons_zero, List.set_cons_succ] at hK ⊢
      clear hd ho
      rw [wpOp]
      refine (if_pos rfl).mpr (.inl ?_)
      have g0 := (HX.out W hB).c0
      have g1 := (HX.out W hB).c1
      have g2 := (HX.out W hB).c2
      have g3 := (HX.out W hB).c3
      have g4 := (HX.out W hB).c4
      have g5 := (HX.out W hB).c5
      have g6 := (HX.out W hB).c6
      have g7 := (HX.out W hB).c7
      have g8 := (HX.out W hB).c8
      have g9 := (HX.out W hB).c9
      have g10 := (HX.out W hB).c10
      have g11 := (HX.out W hB).c11
      have g12 := (HX.out W hB).c12
      go_simp
      exact hK _ _ (Below.refl _ _) rfl
    | 3, ho =>
      obtain rfl := Option.some.inj ho
      have e2 : x 2 = .agg #[.slice A banks.length cb, .int .i64 floors, .int .i64 home, .slice O order.length co, .int .i64 speed, .int .i64 width, .int .i64 dwell, .int .i64 good, .int .i64 dead, .int .i64 lag, .int .i64 turn, .int .i64 cost, .int .i64 full] := hd ⟨2, .data⟩ (by simp) rfl
      simp only [Inv.fill, Act.put, List.setIfInBounds_toArray, List.set_cons_zero, List.set_cons_succ, e2] at hK ⊢
      clear hd ho e2
      rw [wpOp]
      refine (if_pos rfl).mpr (.inl ?_)
      have hc := HR.out W
      go_simp
      refine hc.mono ?_
      rintro e w2 ⟨rfl, hb2⟩
      exact hK _ _ hb2 rfl
    | 4, ho =>
      obtain rfl := Option.some.inj ho
      have e1 : x 1 = .int .i64 good := hd ⟨1, .data⟩ (by simp) rfl
      have e3 : x 3 = .int .i64 rn := hd ⟨3, .data⟩ (by simp) rfl
      simp only [Inv.fill, Act.put, List.setIfInBounds_toArray, List.set_cons_zero, List.set_cons_succ, e1, e3] at hK ⊢
      clear hd ho e1 e3
      rw [wpOp]
      refine (if_pos rfl).mpr (.inl ?_)
      go_simp
      exact hK _ _ (Below.refl _ _) (congrArg (Value.int .i64) Ey4.out)
    | 5, ho =>
      obtain rfl := Option.some.inj ho
      simp only [Inv.fill, Act.put, List.setIfInBounds_toArray, List.set_cons_zero, List.set_cons_succ] at hK ⊢
      clear hd ho
      rw [wpOp]
      refine (if_pos rfl).mpr (.inl ?_)
      go_simp
      exact hK _ _ (Below.refl _ _) rfl
    | 6, ho =>
      obtain rfl := Option.some.inj ho
      have e5 : x 5 = .pointer (some ⟨w.heap.size, 5, none⟩) := hd ⟨5, .data⟩ (by simp) rfl
      simp only [Inv.fill, Act.put, List.setIfInBounds_toArray, List.set_cons_zero, List.set_cons_succ, e5] at hK ⊢
      clear hd ho e5
      rw [wpOp]
      refine (if_pos rfl).mpr (.inl ?_)
      have g5 := (HX.out W hB).c5
      go_simp
      exact hK _ _ (Below.refl _ _) rfl
    | 7, ho =>
      obtain rfl := Option.some.inj ho
      have e6 : x 6 = .int .i64 width := hd ⟨6, .data⟩ (by simp) rfl
      simp only [Inv.fill, Act.put, List.setIfInBounds_toArray, List.set_cons_zero, List.set_cons_succ, e6] at hK ⊢
      clear hd ho e6
      rw [wpOp]
      refine (if_pos rfl).mpr (.inl ?_)
      go_simp
      exact hK _ _ (Below.refl _ _) (congrArg (Value.int .i64) Ey7.out)
    | 8, ho =>
      obtain rfl := Option.some.inj ho
      have e4 : x 4 = .int .i64 y4 := hd ⟨4, .data⟩ (by simp) rfl
      have e7 : x 7 = .int .i64 y7 := hd ⟨7, .data⟩ (by simp) rfl
      simp only [Inv.fill, Act.put, List.setIfInBounds_toArray, List.set_cons_zero, List.set_cons_succ, e4, e7] at hK ⊢
      clear hd ho e4 e7
      rw [wpOp]
      refine (if_pos rfl).mpr (.inl ?_)
      go_simp
      exact hK _ _ (Below.refl _ _) (congrArg (Value.int .i64) Ey8.out)
    | 9, ho =>
      obtain rfl := Option.some.inj ho
      simp only [Inv.fill, Act.put, List.setIfInBounds_toArray, List.set_cons_zero, List.set_cons_succ] at hK ⊢
      clear hd ho
      rw [wpOp]
      refine (if_pos rfl).mpr (.inl ?_)
      go_simp
      exact hK _ _ (Below.refl _ _) rfl
    | 10, ho =>
      obtain rfl := Option.some.inj ho
      have e9 : x 9 = .pointer (some ⟨w.heap.size, 8, none⟩) := hd ⟨9, .data⟩ (by simp) rfl
      simp only [Inv.fill, Act.put, List.setIfInBounds_toArray, List.set_cons_zero, List.set_cons_succ, e9] at hK ⊢
      clear hd ho e9
      rw [wpOp]
      refine (if_pos rfl).mpr (.inl ?_)
      have g8 := (HX.out W hB).c8
      go_simp
      exact hK _ _ (Below.refl _ _) rfl
    | 11, ho =>
      obtain rfl := Option.some.inj ho
      have e10 : x 10 = .int .i64 dead := hd ⟨10, .data⟩ (by simp) rfl
      simp only [Inv.fill, Act.put, List.setIfInBounds_toArray, List.set_cons_zero, List.set_cons_succ, e10] at hK ⊢
      clear hd ho e10
      rw [wpOp]
      refine (if_pos rfl).mpr (.inl ?_)
      go_simp
      exact hK _ _ (Below.refl _ _) (congrArg (Value.int .i64) Ey11.out)
    | 12, ho =>
      obtain rfl := Option.some.inj ho
      have e8 : x 8 = .int .i64 y8 := hd ⟨8, .data⟩ (by simp) rfl
      have e11 : x 11 = .int .i64 y11 := hd ⟨11, .data⟩ (by simp) rfl
      simp only [Inv.fill, Act.put, List.setIfInBounds_toArray, List.set_cons_zero, List.set_cons_succ, e8, e11] at hK ⊢
      clear hd ho e8 e11
      rw [wpOp]
      refine (if_pos rfl).mpr (.inl ?_)
      go_simp
      exact hK _ _ (Below.refl _ _) (congrArg (Value.int .i64) Ey12.out)
    | 13, ho =>
      obtain rfl := Option.some.inj ho
      simp only [Inv.fill, Act.put, List.setIfInBounds_toArray, List.set_cons_zero, List.set_cons_succ] at hK ⊢
      clear hd ho
      rw [wpOp]
      refine (if_pos rfl).mpr (.inl ?_)
      go_simp
      exact hK _ _ (Below.refl _ _) rfl
    | 14, ho =>
      obtain rfl := Option.some.inj ho
      have e13 : x 13 = .int .i64 blocked := hd ⟨13, .data⟩ (by simp) rfl
      simp only [Inv.fill, Act.put, List.setIfInBounds_toArray, List.set_cons_zero, List.set_cons_succ, e13] at hK ⊢
      clear hd ho e13
      rw [wpOp]
      refine (if_pos rfl).mpr (.inl ?_)
      have hc := HK.out W
      go_simp
      refine hc.mono ?_
      rintro e w2 ⟨rfl, rfl⟩
      exact hK _ _ (Below.refl _ _) rfl
    | 15, ho =>
      obtain rfl := Option.some.inj ho
      have e12 : x 12 = .int .i64 y12 := hd ⟨12, .data⟩ (by simp) rfl
      have e14 : x 14 = .int .i64 q := hd ⟨14, .data⟩ (by simp) rfl
      simp only [Inv.fill, Act.put, List.setIfInBounds_toArray, List.set_cons_zero, List.set_cons_succ, e12, e14] at hK ⊢
      clear hd ho e12 e14
      rw [wpOp]
      refine (if_pos rfl).mpr (.inl ?_)
      go_simp
      exact hK _ _ (Below.refl _ _) (congrArg (Value.int .i64) Ey15.out)
    | 16, ho =>
      obtain rfl := Option.some.inj ho
      have e15 : x 15 = .int .i64 y15 := hd ⟨15, .data⟩ (by simp) rfl
      simp only [Inv.fill, Act.put, List.setIfInBounds_toArray, List.set_cons_zero, List.set_cons_succ, e15] at hK ⊢
      clear hd ho e15
      rw [wpOp]
      refine (if_pos rfl).mpr (.inl ?_)
      go_simp
      exact hK _ _ (Below.refl _ _) (congrArg (Value.int .i64) Ez.out)
    | 17, ho =>
      obtain rfl := Option.some.inj ho
      have e16 : x 16 = .int .i64 z := hd ⟨16, .data⟩ (by simp) rfl
      simp only [Inv.fill, Act.put, List.setIfInBounds_toArray, List.set_cons_zero, List.set_cons_succ, e16] at hK ⊢
      clear hd ho e16
      rw [wpOp]
      refine (if_pos rfl).mpr (.inl ?_)
      go_simp
      exact hK _ _ (Below.refl _ _) rfl
    | n + 18, ho => simp at ho
  · intro x W hB hx
    have e17 : x 17 = .int .i64 z := hx 17 (by simp)
    simp only [Inv.fill, Act.put, List.setIfInBounds_toArray, List.set_cons_zero, List.set_cons_succ, e17]
    clear hx e17
    go_wp2
    go_ret
    exact ⟨rfl, below_mono HBW.out hB⟩

end Go.Proofs.Ytkicijgempccfaa.Con
