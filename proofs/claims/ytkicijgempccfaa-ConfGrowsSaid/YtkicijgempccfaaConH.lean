/- Contracts of conf.Saves, Limit, Back. -/
import Derived.Test.YtkicijgempccfaaConF
import Derived.Test.YtkicijgempccfaaInv
namespace Go.Proofs.Ytkicijgempccfaa.Con
open Go.RowKit Go.Proofs.Ytkicijgempccfaa.RatP Go.Proofs.Ytkicijgempccfaa.SatP Go.Proofs.Ytkicijgempccfaa.ConP Go.Proofs.Ytkicijgempccfaa.Rat
set_option linter.unusedVariables false

/-- a row of numbers in a block -/
def Row (w : World) (B : Nat) (l : List Int) : Prop := B < w.heap.size ∧ ∀ j u, (Sees.nums .i64 l)[j]? = some u → w.cell? ⟨B, j, none⟩ = some u
theorem Row.next {w w' : World} {B : Nat} {l : List Int} (h : Row w B l) (hb : Below w.heap.size w w') : Row w' B l :=
  ⟨Nat.lt_of_lt_of_le h.1 hb.size, fun j u hu => (hb.cell (p := ⟨B, j, none⟩) h.1).trans (h.2 j u hu)⟩
theorem row_new (w : World) (l : List Int) (t : TypeId) : Row (w.alloc (.cells (l.map (Value.int .i64)).toArray t)) w.heap.size l :=
  ⟨by simp, fun j u hu => by
    have : (w.alloc (.cells (l.map (Value.int .i64)).toArray t)).cell? ⟨w.heap.size, j, none⟩ = (l.map (Value.int .i64)).toArray[j]? := by simp
    rw [this]; simpa [Sees.nums] using hu⟩
def NewRow (v : Value) (w : World) (n : Nat) (l : List Int) : Prop := ∃ B, v = .slice (some ⟨B, 0, none⟩) n n ∧ Row w B l
theorem NewRow.next {v : Value} {w w' : World} {n : Nat} {l : List Int} (h : NewRow v w n l) (hb : Below w.heap.size w w') : NewRow v w' n l := by
  obtain ⟨B, h1, h2⟩ := h
  exact ⟨B, h1, h2.next hb⟩
theorem sumRow_any (l : List Int) (n : Nat) (hn : l.length = n) (hf : Few l) {z : Int} (hz : tot l = z) (B : Nat) (W : World) (h : Row W B l) : Calls Try.prog 31 #[.slice (some ⟨B, 0, none⟩) n n] W (Says W (.int .i64 z)) := by
  subst hz
  exact sum_any l _ n n W hn hf (sees_cells h.1 h.2)

def SavesF (N : Nat) (cost width s p : Int) : Nat → Value → World → Prop
  | 0, v, _ => v = .pointer (some ⟨N, 11, none⟩)
  | 1, v, _ => v = .int .i64 cost
  | 2, v, _ => v = .pointer (some ⟨N, 5, none⟩)
  | 3, v, _ => v = .int .i64 width
  | 4, v, w' => NewRow v w' 2 [8, width]
  | 5, v, _ => v = .int .i64 s
  | 6, v, _ => v = .int .i64 p
  | 7, v, _ => v = .int .i64 p
  | _, _, _ => True

set_option maxHeartbeats 1600000 in
theorem Saves_any (v : V) (h0 : 0 ≤ v.c.cost) (h1 : v.c.cost ≤ 100) (h2 : 0 ≤ v.c.width) (h3 : v.c.width ≤ 100) (w : World) : Calls Try.prog 23 #[v.val] w (Says w (.int .i64 (saves v.c))) := by
  have HX : Hid (∀ W, Below (w.alloc (.cells v.arr 25)).heap.size (w.alloc (.cells v.arr 25)) W → CBox W w.heap.size v) := Lib.hid fun W h => (CBox.new w v _).next h
  have HBW : Hid (Below w.heap.size w (w.alloc (.cells v.arr 25))) := Lib.hid says_box
  have HS := Lib.hid (fun B W h => sumRow_any [8, v.c.width] 2 rfl (by refine ⟨by simp, by intro a ha; simp at ha; rcases ha with rfl | rfl <;> omega⟩) (z := 8 + v.c.width) (by simp [tot]) B W h)
  have HT := Lib.hid (fun W => times_any v.c.cost (8 + v.c.width) (by omega) (by omega) (by omega) (by omega) W)
  obtain ⟨A, cb, O, co, ⟨banks, floors, home, order, speed, width, dwell, good, dead, lag, turn, cost, full⟩⟩ := v
  simp only [V.val, V.arr, saves] at *
  generalize cost * (8 + width) = p at *
  generalize 8 + width = s at *
  clear h0 h1 h2 h3
  go_enter Try.func23, Try.ntmps23
  go_wp2
  refine Inv.wp_region_inv (SavesF w.heap.size cost width s p) (by kernel_rfl) (by kernel_rfl) (by kernel_rfl) ?_ ?_ ?_
  · intro i v W W' _ h hb
    unfold SavesF at h ⊢
    split at h <;> first | exact h | exact NewRow.next h hb
  · intro i o x W K ho hB hd hK
    match i, ho with
    | 0, ho =>
      obtain rfl := Option.some.inj ho
      simp only [Inv.fill, Act.put, List.setIfInBounds_toArray, List.set_cons_zero, List.set_cons_succ] at hK ⊢
      clear hd ho
      rw [wpOp]
      refine (if_pos rfl).mpr (.inl ?_)
      go_simp
      exact hK _ _ (Below.refl _ _) rfl
    | 1, ho =>
      obtain rfl := Option.some.inj ho
      have e0 : x 0 = .pointer (some ⟨w.heap.size, 11, none⟩) := hd ⟨0, .data⟩ (by simp) rfl
      simp only [Inv.fill, Act.put, List.setIfInBounds_toArray, List.set_cons_zero, List.set_cons_succ, e0] at hK ⊢
      clear hd ho e0
      rw [wpOp]
      refine (if_pos rfl).mpr (.inl ?_)
      have g11 := (HX.out W hB).c11
      go_simp
      exact hK _ _ (Below.refl _ _) rfl
    | 2, ho =>
      obtain rfl := Option.some.inj ho
      simp only [Inv.fill, Act.put, List.setIfInBounds_toArray, List.set_cons_zero, List.set_cons_succ] at hK ⊢
      clear hd ho
      rw [wpOp]
      refine (if_pos rfl).mpr (.inl ?_)
      go_simp
      exact hK _ _ (Below.refl _ _) rfl
    | 3, ho =>
      obtain rfl := Option.some.inj ho
      have e2 : x 2 = .pointer (some ⟨w.heap.size, 5, none⟩) := hd ⟨2, .data⟩ (by simp) rfl
      simp only [Inv.fill, Act.put, List.setIfInBounds_toArray, List.set_cons_zero, List.set_cons_succ, e2] at hK ⊢
      clear hd ho e2
      rw [wpOp]
      refine (if_pos rfl).mpr (.inl ?_)
      have g5 := (HX.out W hB).c5
      go_simp
      exact hK _ _ (Below.refl _ _) rfl
    | 4, ho =>
      obtain rfl := Option.some.inj ho
      have e3 : x 3 = .int .i64 width := hd ⟨3, .data⟩ (by simp) rfl
      simp only [Inv.fill, Act.put, List.setIfInBounds_toArray, List.set_cons_zero, List.set_cons_succ, e3] at hK ⊢
      clear hd ho e3
      rw [wpOp]
      refine (if_pos rfl).mpr (.inl ?_)
      go_simp
      exact hK _ _ ((Below.refl _ _).alloc (Nat.le_refl _) _) ⟨W.heap.size, rfl, row_new W [8, width] _⟩
    | 5, ho =>
      obtain rfl := Option.some.inj ho
      obtain ⟨b4, e4, hr4⟩ := (hd ⟨4, .data⟩ (by simp) rfl : NewRow (x 4) W 2 [8, width])
      simp only [Inv.fill, Act.put, List.setIfInBounds_toArray, List.set_cons_zero, List.set_cons_succ, e4] at hK ⊢
      clear hd ho e4
      rw [wpOp]
      refine (if_pos rfl).mpr (.inl ?_)
      have hc := HS.out b4 W hr4
      go_simp
      refine hc.mono ?_
      rintro e w2 ⟨rfl, hb2⟩
      exact hK _ _ hb2 rfl
    | 6, ho =>
      obtain rfl := Option.some.inj ho
      have e1 : x 1 = .int .i64 cost := hd ⟨1, .data⟩ (by simp) rfl
      have e5 : x 5 = .int .i64 s := hd ⟨5, .data⟩ (by simp) rfl
      simp only [Inv.fill, Act.put, List.setIfInBounds_toArray, List.set_cons_zero, List.set_cons_succ, e1, e5] at hK ⊢
      clear hd ho e1 e5
      rw [wpOp]
      refine (if_pos rfl).mpr (.inl ?_)
      have hc := HT.out W
      go_simp
      refine hc.mono ?_
      rintro e w2 ⟨rfl, hb2⟩
      exact hK _ _ hb2 rfl
    | 7, ho =>
      obtain rfl := Option.some.inj ho
      have e6 : x 6 = .int .i64 p := hd ⟨6, .data⟩ (by simp) rfl
      simp only [Inv.fill, Act.put, List.setIfInBounds_toArray, List.set_cons_zero, List.set_cons_succ, e6] at hK ⊢
      clear hd ho e6
      rw [wpOp]
      refine (if_pos rfl).mpr (.inl ?_)
      go_simp
      exact hK _ _ (Below.refl _ _) rfl
    | n + 8, ho => simp at ho
  · intro x W hB hx
    have e7 : x 7 = .int .i64 p := hx 7 (by simp)
    simp only [Inv.fill, Act.put, List.setIfInBounds_toArray, List.set_cons_zero, List.set_cons_succ, e7]
    clear hx e7
    go_wp2
    go_ret
    exact ⟨rfl, below_mono HBW.out hB⟩

def LimitF1 (N : Nat) (A O : Option Addr) (nb cb no co : Nat) (floors home speed width dwell good dead lag turn cost full rn ds ofc : Int) : Nat → Value → World → Prop
  | 0, v, _ => v = .agg #[.slice A nb cb, .int .i64 floors, .int .i64 home, .slice O no co, .int .i64 speed, .int .i64 width, .int .i64 dwell, .int .i64 good, .int .i64 dead, .int .i64 lag, .int .i64 turn, .int .i64 cost, .int .i64 full]
  | 1, v, _ => v = .int .i64 rn
  | 2, v, _ => v = .agg #[.slice A nb cb, .int .i64 floors, .int .i64 home, .slice O no co, .int .i64 speed, .int .i64 width, .int .i64 dwell, .int .i64 good, .int .i64 dead, .int .i64 lag, .int .i64 turn, .int .i64 cost, .int .i64 full]
  | 3, v, _ => v = .int .i64 ds
  | 4, v, _ => v = .agg #[.slice A nb cb, .int .i64 floors, .int .i64 home, .slice O no co, .int .i64 speed, .int .i64 width, .int .i64 dwell, .int .i64 good, .int .i64 dead, .int .i64 lag, .int .i64 turn, .int .i64 cost, .int .i64 full]
  | 5, v, _ => v = .int .i64 ds
  | 6, v, w' => NewRow v w' 4 [rn, ds, ds, 4]
  | 7, v, _ => v = .int .i64 ofc
  | 8, v, _ => v = .int .i64 ofc
  | _, _, _ => True
def LimitF2 (N : Nat) (A O : Option Addr) (nb cb no co : Nat) (floors home speed width dwell good dead lag turn cost full blocked nc ofc p q z : Int) : Nat → Value → World → Prop
  | 0, v, _ => v = .agg #[.slice A nb cb, .int .i64 floors, .int .i64 home, .slice O no co, .int .i64 speed, .int .i64 width, .int .i64 dwell, .int .i64 good, .int .i64 dead, .int .i64 lag, .int .i64 turn, .int .i64 cost, .int .i64 full]
  | 1, v, _ => v = .int .i64 nc
  | 2, v, _ => v = .int .i64 ofc
  | 3, v, _ => v = .int .i64 p
  | 4, v, _ => v = .int .i64 blocked
  | 5, v, _ => v = .int .i64 q
  | 6, v, _ => v = .pointer (some ⟨N, 7, none⟩)
  | 7, v, _ => v = .int .i64 good
  | 8, v, _ => v = .pointer (some ⟨N, 8, none⟩)
  | 9, v, _ => v = .int .i64 dead
  | 10, v, _ => v = .pointer (some ⟨N, 9, none⟩)
  | 11, v, _ => v = .int .i64 lag
  | 12, v, w' => NewRow v w' 6 [p, q, good, dead, lag, 10]
  | 13, v, _ => v = .int .i64 z
  | 14, v, _ => v = .int .i64 z
  | _, _, _ => True

set_option maxHeartbeats 3200000 in
theorem Limit_any (v : V) (hm : v.c.May) (blocked : Int) (w : World) (hin : V.In w v) : Calls Try.prog 24 #[v.val, .int .i64 blocked] w (Says w (.int .i64 (limit v.c blocked))) := by
  have hfl := hm.fl
  have hwd := hm.wd
  have hgo := hm.go
  have hde := hm.de
  have hla := hm.la
  have hnb := hm.nb
  have hcb := cars_bd _ hm.bs
  have hbk := bk_bd blocked
  have hrun : run v.c = 8 * v.c.floors - 7 := rfl
  have hdoors : doors v.c = v.c.width + 1 := rfl
  have hR := fun W => Run_any v (by omega) (by omega) W
  have hD := fun W => Doors_any v (by omega) (by omega) W
  have hC := fun W (h : V.In W v) => Cars_any v hm.bs (by omega) W h
  have HK := Lib.hid (fun W => bk_any blocked W)
  have hp : cars v.c.banks * (run v.c + 2 * v.c.width + 6) ≤ 64 * 500 := Int.mul_le_mul (by omega) (by omega) (by omega) (by omega)
  have hp0 : 0 ≤ cars v.c.banks * (run v.c + 2 * v.c.width + 6) := Int.mul_nonneg (by omega) (by omega)
  have HS1 := Lib.hid (fun B W h => sumRow_any [run v.c, doors v.c, doors v.c, 4] 4 rfl (by refine ⟨by simp, by intro a ha; simp at ha; rcases ha with rfl | rfl | rfl | rfl <;> omega⟩) (z := run v.c + 2 * v.c.width + 6) (by simp [tot]; omega) B W h)
  have HT := Lib.hid (fun W => times_any (cars v.c.banks) (run v.c + 2 * v.c.width + 6) (by omega) (by omega) (by omega) (by omega) W)
  have HS2 := Lib.hid (fun B W h => sumRow_any [cars v.c.banks * (run v.c + 2 * v.c.width + 6), bk blocked, v.c.good, v.c.dead, v.c.lag, 10] 6 rfl (by refine ⟨by simp, by intro a ha; simp at ha; rcases ha with rfl | rfl | rfl | rfl | rfl | rfl <;> omega⟩) (z := limit v.c blocked) (by simp only [tot, List.foldr, limit]; omega) B W h)
  have HX : Hid (∀ W, Below (w.alloc (.cells v.arr 25)).heap.size (w.alloc (.cells v.arr 25)) W → CBox W w.heap.size v) := Lib.hid fun W h => (CBox.new w v _).next h
  have HI : Hid (∀ W, Below (w.alloc (.cells v.arr 25)).heap.size (w.alloc (.cells v.arr 25)) W → V.In W v) := Lib.hid fun W h => (hin.box _).next h
  have HBW : Hid (Below w.heap.size w (w.alloc (.cells v.arr 25))) := Lib.hid says_box
  have HR := Lib.hid hR
  have HD := Lib.hid hD
  have HC := Lib.hid hC
  clear hfl hwd hgo hde hla hnb hcb hbk hrun hdoors hR hD hC hp hp0 hm hin
  generalize cars v.c.banks * (run v.c + 2 * v.c.width + 6) = p at *
  generalize run v.c + 2 * v.c.width + 6 = ofc at *
  generalize run v.c = rn at *
  generalize doors v.c = ds at *
  generalize limit v.c blocked = z at *
  generalize cars v.c.banks = nc at *
  generalize bk blocked = q at *
  obtain ⟨A, cb, O, co, ⟨banks, floors, home, order, speed, width, dwell, good, dead, lag, turn, cost, full⟩⟩ := v
  simp only [V.val, V.arr] at *
  go_enter Try.func24, Try.ntmps24
  go_wp2
  refine Inv.wp_region_inv (LimitF1 w.heap.size A O banks.length cb order.length co floors home speed width dwell good dead lag turn cost full rn ds ofc) (by kernel_rfl) (by kernel_rfl) (by kernel_rfl) ?_ ?_ ?_
  · intro i v W W' _ h hb
    unfold LimitF1 at h ⊢
    split at h <;> first | exact h | exact NewRow.next h hb
  · intro i o x W K ho hB hd hK
    match i, ho with
    | 0, ho =>
      obtain rfl := Option.some.inj ho
      simp only [Inv.fill, Act.put, List.setIfInBounds_toArray, List.set_cons_zero, List.set_cons_succ] at hK ⊢
      clear hd ho
      rw [wpOp]
      refine (if_pos rfl).mpr (.inl ?_)
      have g0 := (HX.out W hB).c0
      have g1 := (HX.out W hB).c1
      have g2 := (HX.out W hB).c2
      have g3 := (HX.out W hB).c3
      have g4 := (HX.out W hB).c4
      have g5 := (HX.out W hB).c5
      have g6 := (HX.out W hB).c6
      have g7 := (HX.out W hB).c7
      have g8 := (HX.out W hB).c8
      have g9 := (HX.out W hB).c9
      have g10 := (HX.out W hB).c10
      have g11 := (HX.out W hB).c11
      have g12 := (HX.out W hB).c12
      go_simp
      exact hK _ _ (Below.refl _ _) rfl
    | 1, ho =>
      obtain rfl := Option.some.inj ho
      have e0 : x 0 = .agg #[.slice A banks.length cb, .int .i64 floors, .int .i64 home, .slice O order.length co, .int .i64 speed, .int .i64 width, .int .i64 dwell, .int .i64 good, .int .i64 dead, .int .i64 lag, .int .i64 turn, .int .i64 cost, .int .i64 full] := hd ⟨0, .data⟩ (by simp) rfl
      simp only [Inv.fill, Act.put, List.setIfInBounds_toArray, List.set_cons_zero, List.set_cons_succ, e0] at hK ⊢
      clear hd ho e0
      rw [wpOp]
      refine (if_pos rfl).mpr (.inl ?_)
      have hc := HR.out W
      go_simp
      refine hc.mono ?_
      rintro e w2 ⟨rfl, hb2⟩
      exact hK _ _ hb2 rfl
    | 2, ho =>
      obtain rfl := Option.some.inj ho
      simp only [Inv.fill, Act.put, List.setIfInBounds_toArray, List.set_cons_zero, List.set_cons_succ] at hK ⊢
      clear hd ho
      rw [wpOp]
      refine (if_pos rfl).mpr (.inl ?_)
      have g0 := (HX.out W hB).c0
      have g1 := (HX.out W hB).c1
      have g2 := (HX.out W hB).c2
      have g3 := (HX.out W hB).c3
      have g4 := (HX.out W hB).c4
      have g5 := (HX.out W hB).c5
      have g6 := (HX.out W hB).c6
      have g7 := (HX.out W hB).c7
      have g8 := (HX.out W hB).c8
      have g9 := (HX.out W hB).c9
      have g10 := (HX.out W hB).c10
      have g11 := (HX.out W hB).c11
      have g12 := (HX.out W hB).c12
      go_simp
      exact hK _ _ (Below.refl _ _) rfl
    | 3, ho =>
      obtain rfl := Option.some.inj ho
      have e2 : x 2 = .agg #[.slice A banks.length cb, .int .i64 floors, .int .i64 home, .slice O order.length co, .int .i64 speed, .int .i64 width, .int .i64 dwell, .int .i64 good, .int .i64 dead, .int .i64 lag, .int .i64 turn, .int .i64 cost, .int .i64 full] := hd ⟨2, .data⟩ (by simp) rfl
      simp only [Inv.fill, Act.put, List.setIfInBounds_toArray, List.set_cons_zero, List.set_cons_succ, e2] at hK ⊢
      clear hd ho e2
      rw [wpOp]
      refine (if_pos rfl).mpr (.inl ?_)
      have hc := HD.out W
      go_simp
      refine hc.mono ?_
      rintro e w2 ⟨rfl, hb2⟩
      exact hK _ _ hb2 rfl
    | 4, ho =>
      obtain rfl := Option.some.inj ho
      simp only [Inv.fill, Act.put, List.setIfInBounds_toArray, List.set_cons_zero, List.set_cons_succ] at hK ⊢
      clear hd ho
      rw [wpOp]
      refine (if_pos rfl).mpr (.inl ?_)
      have g0 := (HX.out W hB).c0
      have g1 := (HX.out W hB).c1
      have g2 := (HX.out W hB).c2
      have g3 := (HX.out W hB).c3
      have g4 := (HX.out W hB).c4
      have g5 := (HX.out W hB).c5
      have g6 := (HX.out W hB).c6
      have g7 := (HX.out W hB).c7
      have g8 := (HX.out W hB).c8
      have g9 := (HX.out W hB).c9
      have g10 := (HX.out W hB).c10
      have g11 := (HX.out W hB).c11
      have g12 := (HX.out W hB).c12
      go_simp
      exact hK _ _ (Below.refl _ _) rfl
    | 5, ho =>
      obtain rfl := Option.some.inj ho
      have e4 : x 4 = .agg #[.slice A banks.length cb, .int .i64 floors, .int .i64 home, .slice O order.length co, .int .i64 speed, .int .i64 width, .int .i64 dwell, .int .i64 good, .int .i64 dead, .int .i64 lag, .int .i64 turn, .int .i64 cost, .int .i64 full] := hd ⟨4, .data⟩ (by simp) rfl
      simp only [Inv.fill, Act.put, List.setIfInBounds_toArray, List.set_cons_zero, List.set_cons_succ, e4] at hK ⊢
      clear hd ho e4
      rw [wpOp]
      refine (if_pos rfl).mpr (.inl ?_)
      have hc := HD.out W
      go_simp
      refine hc.mono ?_
      rintro e w2 ⟨rfl, hb2⟩
      exact hK _ _ hb2 rfl
    | 6, ho =>
      obtain rfl := Option.some.inj ho
      have e1 : x 1 = .int .i64 rn := hd ⟨1, .data⟩ (by simp) rfl
      have e3 : x 3 = .int .i64 ds := hd ⟨3, .data⟩ (by simp) rfl
      have e5 : x 5 = .int .i64 ds := hd ⟨5, .data⟩ (by simp) rfl
      simp only [Inv.fill, Act.put, List.setIfInBounds_toArray, List.set_cons_zero, List.set_cons_succ, e1, e3, e5] at hK ⊢
      clear hd ho e1 e3 e5
      rw [wpOp]
      refine (if_pos rfl).mpr (.inl ?_)
      go_simp
      exact hK _ _ ((Below.refl _ _).alloc (Nat.le_refl _) _) ⟨W.heap.size, rfl, row_new W [rn, ds, ds, 4] _⟩
    | 7, ho =>
      obtain rfl := Option.some.inj ho
      obtain ⟨b6, e6, hr6⟩ := (hd ⟨6, .data⟩ (by simp) rfl : NewRow (x 6) W 4 [rn, ds, ds, 4])
      simp only [Inv.fill, Act.put, List.setIfInBounds_toArray, List.set_cons_zero, List.set_cons_succ, e6] at hK ⊢
      clear hd ho e6
      rw [wpOp]
      refine (if_pos rfl).mpr (.inl ?_)
      have hc := HS1.out b6 W hr6
      go_simp
      refine hc.mono ?_
      rintro e w2 ⟨rfl, hb2⟩
      exact hK _ _ hb2 rfl
    | 8, ho =>
      obtain rfl := Option.some.inj ho
      have e7 : x 7 = .int .i64 ofc := hd ⟨7, .data⟩ (by simp) rfl
      simp only [Inv.fill, Act.put, List.setIfInBounds_toArray, List.set_cons_zero, List.set_cons_succ, e7] at hK ⊢
      clear hd ho e7
      rw [wpOp]
      refine (if_pos rfl).mpr (.inl ?_)
      go_simp
      exact hK _ _ (Below.refl _ _) rfl
    | n + 9, ho => simp at ho
  · intro x W hB hx
    have e8 : x 8 = .int .i64 ofc := hx 8 (by simp)
    simp only [Inv.fill, Act.put, List.setIfInBounds_toArray, List.set_cons_zero, List.set_cons_succ, e8]
    clear hx e8
    have HX2 : Hid (∀ W', Below W.heap.size W W' → CBox W' w.heap.size ⟨A, cb, O, co, ⟨banks, floors, home, order, speed, width, dwell, good, dead, lag, turn, cost, full⟩⟩) := Lib.hid fun W' h => (HX.out W hB).next h
    have HI2 : Hid (∀ W', Below W.heap.size W W' → V.In W' ⟨A, cb, O, co, ⟨banks, floors, home, order, speed, width, dwell, good, dead, lag, turn, cost, full⟩⟩) := Lib.hid fun W' h => (HI.out W hB).next h
    have HB1 := Lib.hid hB
    clear HX hB
    rename_i W1
    go_wp2
    refine Inv.wp_region_inv (LimitF2 w.heap.size A O banks.length cb order.length co floors home speed width dwell good dead lag turn cost full blocked nc ofc p q z) (by kernel_rfl) (by kernel_rfl) (by kernel_rfl) ?_ ?_ ?_
    · intro i v W W' _ h hb
      unfold LimitF2 at h ⊢
      split at h <;> first | exact h | exact NewRow.next h hb
    · intro i o x W K ho hB hd hK
      match i, ho with
      | 0, ho =>
        obtain rfl := Option.some.inj ho
        simp only [Inv.fill, Act.put, List.setIfInBounds_toArray, List.set_cons_zero, List.set_cons_succ] at hK ⊢
        clear hd ho
        rw [wpOp]
        refine (if_pos rfl).mpr (.inl ?_)
        have g0 := (HX2.out W hB).c0
        have g1 := (HX2.out W hB).c1
        have g2 := (HX2.out W hB).c2
        have g3 := (HX2.out W hB).c3
        have g4 := (HX2.out W hB).c4
        have g5 := (HX2.out W hB).c5
        have g6 := (HX2.out W hB).c6
        have g7 := (HX2.out W hB).c7
        have g8 := (HX2.out W hB).c8
        have g9 := (HX2.out W hB).c9
        have g10 := (HX2.out W hB).c10
        have g11 := (HX2.out W hB).c11
        have g12 := (HX2.out W hB).c12
        go_simp
        exact hK _ _ (Below.refl _ _) rfl
      | 1, ho =>
        obtain rfl := Option.some.inj ho
        have e0 : x 0 = .agg #[.slice A banks.length cb, .int .i64 floors, .int .i64 home, .slice O order.length co, .int .i64 speed, .int .i64 width, .int .i64 dwell, .int .i64 good, .int .i64 dead, .int .i64 lag, .int .i64 turn, .int .i64 cost, .int .i64 full] := hd ⟨0, .data⟩ (by simp) rfl
        simp only [Inv.fill, Act.put, List.setIfInBounds_toArray, List.set_cons_zero, List.set_cons_succ, e0] at hK ⊢
        clear hd ho e0
        rw [wpOp]
        refine (if_pos rfl).mpr (.inl ?_)
        have hc := HC.out W (HI2.out W hB)
        go_simp
        refine hc.mono ?_
        rintro e w2 ⟨rfl, hb2⟩
        exact hK _ _ hb2 rfl
      | 2, ho =>
        obtain rfl := Option.some.inj ho
        simp only [Inv.fill, Act.put, List.setIfInBounds_toArray, List.set_cons_zero, List.set_cons_succ] at hK ⊢
        clear hd ho
        rw [wpOp]
        refine (if_pos rfl).mpr (.inl ?_)
        go_simp
        exact hK _ _ (Below.refl _ _) rfl
      | 3, ho =>
        obtain rfl := Option.some.inj ho
        have e1 : x 1 = .int .i64 nc := hd ⟨1, .data⟩ (by simp) rfl
        have e2 : x 2 = .int .i64 ofc := hd ⟨2, .data⟩ (by simp) rfl
        simp only [Inv.fill, Act.put, List.setIfInBounds_toArray, List.set_cons_zero, List.set_cons_succ, e1, e2] at hK ⊢
        clear hd ho e1 e2
        rw [wpOp]
        refine (if_pos rfl).mpr (.inl ?_)
        have hc := HT.out W
        go_simp
        refine hc.mono ?_
        rintro e w2 ⟨rfl, hb2⟩
        exact hK _ _ hb2 rfl
      | 4, ho =>
        obtain rfl := Option.some.inj ho
        simp only [Inv.fill, Act.put, List.setIfInBounds_toArray, List.set_cons_zero, List.set_cons_succ] at hK ⊢
        clear hd ho
        rw [wpOp]
        refine (if_pos rfl).mpr (.inl ?_)
        go_simp
        exact hK _ _ (Below.refl _ _) rfl
      | 5, ho =>
        obtain rfl := Option.some.inj ho
        have e4 : x 4 = .int .i64 blocked := hd ⟨4, .data⟩ (by simp) rfl
        simp only [Inv.fill, Act.put, List.setIfInBounds_toArray, List.set_cons_zero, List.set_cons_succ, e4] at hK ⊢
        clear hd ho e4
        rw [wpOp]
        refine (if_pos rfl).mpr (.inl ?_)
        have hc := HK.out W
        go_simp
        refine hc.mono ?_
        rintro e w2 ⟨rfl, rfl⟩
        exact hK _ _ (Below.refl _ _) rfl
      | 6, ho =>
        obtain rfl := Option.some.inj ho
        simp only [Inv.fill, Act.put, List.setIfInBounds_toArray, List.set_cons_zero, List.set_cons_succ] at hK ⊢
        clear hd ho
        rw [wpOp]
        refine (if_pos rfl).mpr (.inl ?_)
        go_simp
        exact hK _ _ (Below.refl _ _) rfl
      | 7, ho =>
        obtain rfl := Option.some.inj ho
        have e6 : x 6 = .pointer (some ⟨w.heap.size, 7, none⟩) := hd ⟨6, .data⟩ (by simp) rfl
        simp only [Inv.fill, Act.put, List.setIfInBounds_toArray, List.set_cons_zero, List.set_cons_succ, e6] at hK ⊢
        clear hd ho e6
        rw [wpOp]
        refine (if_pos rfl).mpr (.inl ?_)
        have g7 := (HX2.out W hB).c7
        go_simp
        exact hK _ _ (Below.refl _ _) rfl
      | 8, ho =>
        obtain rfl := Option.some.inj ho
        simp only [Inv.fill, Act.put, List.setIfInBounds_toArray, List.set_cons_zero, List.set_cons_succ] at hK ⊢
        clear hd ho
        rw [wpOp]
        refine (if_pos rfl).mpr (.inl ?_)
        go_simp
        exact hK _ _ (Below.refl _ _) rfl
      | 9, ho =>
        obtain rfl := Option.some.inj ho
        have e8 : x 8 = .pointer (some ⟨w.heap.size, 8, none⟩) := hd ⟨8, .data⟩ (by simp) rfl
        simp only [Inv.fill, Act.put, List.setIfInBounds_toArray, List.set_cons_zero, List.set_cons_succ, e8] at hK ⊢
        clear hd ho e8
        rw [wpOp]
        refine (if_pos rfl).mpr (.inl ?_)
        have g8 := (HX2.out W hB).c8
        go_simp
        exact hK _ _ (Below.refl _ _) rfl
      | 10, ho =>
        obtain rfl := Option.some.inj ho
        simp only [Inv.fill, Act.put, List.setIfInBounds_toArray, List.set_cons_zero, List.set_cons_succ] at hK ⊢
        clear hd ho
        rw [wpOp]
        refine (if_pos rfl).mpr (.inl ?_)
        go_simp
        exact hK _ _ (Below.refl _ _) rfl
      | 11, ho =>
        obtain rfl := Option.some.inj ho
        have e10 : x 10 = .pointer (some ⟨w.heap.size, 9, none⟩) := hd ⟨10, .data⟩ (by simp) rfl
        simp only [Inv.fill, Act.put, List.setIfInBounds_toArray, List.set_cons_zero, List.set_cons_succ, e10] at hK ⊢
        clear hd ho e10
        rw [wpOp]
        refine (if_pos rfl).mpr (.inl ?_)
        have g9 := (HX2.out W hB).c9
        go_simp
        exact hK _ _ (Below.refl _ _) rfl
      | 12, ho =>
        obtain rfl := Option.some.inj ho
        have e3 : x 3 = .int .i64 p := hd ⟨3, .data⟩ (by simp) rfl
        have e5 : x 5 = .int .i64 q := hd ⟨5, .data⟩ (by simp) rfl
        have e7 : x 7 = .int .i64 good := hd ⟨7, .data⟩ (by simp) rfl
        have e9 : x 9 = .int .i64 dead := hd ⟨9, .data⟩ (by simp) rfl
        have e11 : x 11 = .int .i64 lag := hd ⟨11, .data⟩ (by simp) rfl
        simp only [Inv.fill, Act.put, List.setIfInBounds_toArray, List.set_cons_zero, List.set_cons_succ, e3, e5, e7, e9, e11] at hK ⊢
        clear hd ho e3 e5 e7 e9 e11
        rw [wpOp]
        refine (if_pos rfl).mpr (.inl ?_)
        go_simp
        exact hK _ _ ((Below.refl _ _).alloc (Nat.le_refl _) _) ⟨W.heap.size, rfl, row_new W [p, q, good, dead, lag, 10] _⟩
      | 13, ho =>
        obtain rfl := Option.some.inj ho
        obtain ⟨b12, e12, hr12⟩ := (hd ⟨12, .data⟩ (by simp) rfl : NewRow (x 12) W 6 [p, q, good, dead, lag, 10])
        simp only [Inv.fill, Act.put, List.setIfInBounds_toArray, List.set_cons_zero, List.set_cons_succ, e12] at hK ⊢
        clear hd ho e12
        rw [wpOp]
        refine (if_pos rfl).mpr (.inl ?_)
        have hc := HS2.out b12 W hr12
        go_simp
        refine hc.mono ?_
        rintro e w2 ⟨rfl, hb2⟩
        exact hK _ _ hb2 rfl
      | 14, ho =>
        obtain rfl := Option.some.inj ho
        have e13 : x 13 = .int .i64 z := hd ⟨13, .data⟩ (by simp) rfl
        simp only [Inv.fill, Act.put, List.setIfInBounds_toArray, List.set_cons_zero, List.set_cons_succ, e13] at hK ⊢
        clear hd ho e13
        rw [wpOp]
        refine (if_pos rfl).mpr (.inl ?_)
        go_simp
        exact hK _ _ (Below.refl _ _) rfl
      | n + 15, ho => simp at ho
    · intro x W hB hx
      have e14 : x 14 = .int .i64 z := hx 14 (by simp)
      simp only [Inv.fill, Act.put, List.setIfInBounds_toArray, List.set_cons_zero, List.set_cons_succ, e14]
      clear hx e14
      go_wp2
      go_ret
      exact ⟨rfl, below_mono HBW.out (below_mono HB1.out hB)⟩

def BackF (N : Nat) (A O : Option Addr) (nb cb no co : Nat) (floors home speed width dwell good dead lag turn cost full blocked rn ds q z : Int) : Nat → Value → World → Prop
  | 0, v, _ => v = .pointer (some ⟨N, 7, none⟩)
  | 1, v, _ => v = .int .i64 good
  | 2, v, _ => v = .agg #[.slice A nb cb, .int .i64 floors, .int .i64 home, .slice O no co, .int .i64 speed, .int .i64 width, .int .i64 dwell, .int .i64 good, .int .i64 dead, .int .i64 lag, .int .i64 turn, .int .i64 cost, .int .i64 full]
  | 3, v, _ => v = .int .i64 rn
  | 4, v, _ => v = .agg #[.slice A nb cb, .int .i64 floors, .int .i64 home, .slice O no co, .int .i64 speed, .int .i64 width, .int .i64 dwell, .int .i64 good, .int .i64 dead, .int .i64 lag, .int .i64 turn, .int .i64 cost, .int .i64 full]
  | 5, v, _ => v = .int .i64 ds
  | 6, v, _ => v = .agg #[.slice A nb cb, .int .i64 floors, .int .i64 home, .slice O no co, .int .i64 speed, .int .i64 width, .int .i64 dwell, .int .i64 good, .int .i64 dead, .int .i64 lag, .int .i64 turn, .int .i64 cost, .int .i64 full]
  | 7, v, _ => v = .int .i64 ds
  | 8, v, _ => v = .pointer (some ⟨N, 5, none⟩)
  | 9, v, _ => v = .int .i64 width
  | 10, v, _ => v = .pointer (some ⟨N, 8, none⟩)
  | 11, v, _ => v = .int .i64 dead
  | 12, v, _ => v = .pointer (some ⟨N, 8, none⟩)
  | 13, v, _ => v = .int .i64 dead
  | 14, v, _ => v = .int .i64 blocked
  | 15, v, _ => v = .int .i64 q
  | 16, v, w' => NewRow v w' 10 [good, rn, ds, ds, 8, width, dead, dead, q, 20]
  | 17, v, _ => v = .int .i64 z
  | 18, v, _ => v = .int .i64 z
  | _, _, _ => True

set_option maxHeartbeats 3200000 in
theorem Back_any (v : V) (hm : v.c.May) (blocked : Int) (w : World) : Calls Try.prog 26 #[v.val, .int .i64 blocked] w (Says w (.int .i64 (back v.c blocked))) := by
  have hfl := hm.fl
  have hwd := hm.wd
  have hgo := hm.go
  have hde := hm.de
  have hbk := bk_bd blocked
  have hrun : run v.c = 8 * v.c.floors - 7 := rfl
  have hdoors : doors v.c = v.c.width + 1 := rfl
  have hR := fun W => Run_any v (by omega) (by omega) W
  have hD := fun W => Doors_any v (by omega) (by omega) W
  have HK := Lib.hid (fun W => bk_any blocked W)
  have HS := Lib.hid (fun B W h => sumRow_any [v.c.good, run v.c, doors v.c, doors v.c, 8, v.c.width, v.c.dead, v.c.dead, bk blocked, 20] 10 rfl (by refine ⟨by simp, by intro a ha; simp at ha; rcases ha with rfl | rfl | rfl | rfl | rfl | rfl | rfl | rfl | rfl | rfl <;> omega⟩) (z := back v.c blocked) (by simp only [tot, List.foldr, back]; omega) B W h)
  have HX : Hid (∀ W, Below (w.alloc (.cells v.arr 25)).heap.size (w.alloc (.cells v.arr 25)) W → CBox W w.heap.size v) := Lib.hid fun W h => (CBox.new w v _).next h
  have HBW : Hid (Below w.heap.size w (w.alloc (.cells v.arr 25))) := Lib.hid says_box
  have HR := Lib.hid hR
  have HD := Lib.hid hD
  clear hfl hwd hgo hde hbk hrun hdoors hR hD hm
  generalize run v.c = rn at *
  generalize doors v.c = ds at *
  generalize back v.c blocked = z at *
  generalize bk blocked = q at *
  obtain ⟨A, cb, O, co, ⟨banks, floors, home, order, speed, width, dwell, good, dead, lag, turn, cost, full⟩⟩ := v
  simp only [V.val, V.arr] at *
  go_enter Try.func26, Try.ntmps26
  go_wp2
  refine Inv.wp_region_inv (BackF w.heap.size A O banks.length cb order.length co floors home speed width dwell good dead lag turn cost full blocked rn ds q z) (by kernel_rfl) (by kernel_rfl) (by kernel_rfl) ?_ ?_ ?_
  · intro i v W W' _ h hb
    unfold BackF at h ⊢
    split at h <;> first | exact h | exact NewRow.next h hb
  · intro i o x W K ho hB hd hK
    match i, ho with
    | 0, ho =>
      obtain rfl := Option.some.inj ho
      simp only [Inv.fill, Act.put, List.setIfInBounds_toArray, List.set_cons_zero, List.set_cons_succ] at hK ⊢
      clear hd ho
      rw [wpOp]
      refine (if_pos rfl).mpr (.inl ?_)
      go_simp
      exact hK _ _ (Below.refl _ _) rfl
    | 1, ho =>
      obtain rfl := Option.some.inj ho
      have e0 : x 0 = .pointer (some ⟨w.heap.size, 7, none⟩) := hd ⟨0, .data⟩ (by simp) rfl
      simp only [Inv.fill, Act.put, List.setIfInBounds_toArray, List.set_cons_zero, List.set_cons_succ, e0] at hK ⊢
      clear hd ho e0
      rw [wpOp]
      refine (if_pos rfl).mpr (.inl ?_)
      have g7 := (HX.out W hB).c7
      go_simp
      exact hK _ _ (Below.refl _ _) rfl
    | 2, ho =>
      obtain rfl := Option.some.inj ho
      simp only [Inv.fill, Act.put, List.setIfInBounds_toArray, List.set_cons_zero, List.set_cons_succ] at hK ⊢
      clear hd ho
      rw [wpOp]
      refine (if_pos rfl).mpr (.inl ?_)
      have g0 := (HX.out W hB).c0
      have g1 := (HX.out W hB).c1
      have g2 := (HX.out W hB).c2
      have g3 := (HX.out W hB).c3
      have g4 := (HX.out W hB).c4
      have g5 := (HX.out W hB).c5
      have g6 := (HX.out W hB).c6
      have g7 := (HX.out W hB).c7
      have g8 := (HX.out W hB).c8
      have g9 := (HX.out W hB).c9
      have g10 := (HX.out W hB).c10
      have g11 := (HX.out W hB).c11
      have g12 := (HX.out W hB).c12
      go_simp
      exact hK _ _ (Below.refl _ _) rfl
    | 3, ho =>
      obtain rfl := Option.some.inj ho
      have e2 : x 2 = .agg #[.slice A banks.length cb, .int .i64 floors, .int .i64 home, .slice O order.length co, .int .i64 speed, .int .i64 width, .int .i64 dwell, .int .i64 good, .int .i64 dead, .int .i64 lag, .int .i64 turn, .int .i64 cost, .int .i64 full] := hd ⟨2, .data⟩ (by simp) rfl
      simp only [Inv.fill, Act.put, List.setIfInBounds_toArray, List.set_cons_zero, List.set_cons_succ, e2] at hK ⊢
      clear hd ho e2
      rw [wpOp]
      refine (if_pos rfl).mpr (.inl ?_)
      have hc := HR.out W
      go_simp
      refine hc.mono ?_
      rintro e w2 ⟨rfl, hb2⟩
      exact hK _ _ hb2 rfl
    | 4, ho =>
      obtain rfl := Option.some.inj ho
      simp only [Inv.fill, Act.put, List.setIfInBounds_toArray, List.set_cons_zero, List.set_cons_succ] at hK ⊢
      clear hd ho
      rw [wpOp]
      refine (if_pos rfl).mpr (.inl ?_)
      have g0 := (HX.out W hB).c0
      have g1 := (HX.out W hB).c1
      have g2 := (HX.out W hB).c2
      have g3 := (HX.out W hB).c3
      have g4 := (HX.out W hB).c4
      have g5 := (HX.out W hB).c5
      have g6 := (HX.out W hB).c6
      have g7 := (HX.out W hB).c7
      have g8 := (HX.out W hB).c8
      have g9 := (HX.out W hB).c9
      have g10 := (HX.out W hB).c10
      have g11 := (HX.out W hB).c11
      have g12 := (HX.out W hB).c12
      go_simp
      exact hK _ _ (Below.refl _ _) rfl
    | 5, ho =>
      obtain rfl := Option.some.inj ho
      have e4 : x 4 = .agg #[.slice A banks.length cb, .int .i64 floors, .int .i64 home, .slice O order.length co, .int .i64 speed, .int .i64 width, .int .i64 dwell, .int .i64 good, .int .i64 dead, .int .i64 lag, .int .i64 turn, .int .i64 cost, .int .i64 full] := hd ⟨4, .data⟩ (by simp) rfl
      simp only [Inv.fill, Act.put, List.setIfInBounds_toArray, List.set_cons_zero, List.set_cons_succ, e4] at hK ⊢
      clear hd ho e4
      rw [wpOp]
      refine (if_pos rfl).mpr (.inl ?_)
      have hc := HD.out W
      go_simp
      refine hc.mono ?_
      rintro e w2 ⟨rfl, hb2⟩
      exact hK _ _ hb2 rfl
    | 6, ho =>
      obtain rfl := Option.some.inj ho
      simp only [Inv.fill, Act.put, List.setIfInBounds_toArray, List.set_cons_zero, List.set_cons_succ] at hK ⊢
      clear hd ho
      rw [wpOp]
      refine (if_pos rfl).mpr (.inl ?_)
      have g0 := (HX.out W hB).c0
      have g1 := (HX.out W hB).c1
      have g2 := (HX.out W hB).c2
      have g3 := (HX.out W hB).c3
      have g4 := (HX.out W hB).c4
      have g5 := (HX.out W hB).c5
      have g6 := (HX.out W hB).c6
      have g7 := (HX.out W hB).c7
      have g8 := (HX.out W hB).c8
      have g9 := (HX.out W hB).c9
      have g10 := (HX.out W hB).c10
      have g11 := (HX.out W hB).c11
      have g12 := (HX.out W hB).c12
      go_simp
      exact hK _ _ (Below.refl _ _) rfl
    | 7, ho =>
      obtain rfl := Option.some.inj ho
      have e6 : x 6 = .agg #[.slice A banks.length cb, .int .i64 floors, .int .i64 home, .slice O order.length co, .int .i64 speed, .int .i64 width, .int .i64 dwell, .int .i64 good, .int .i64 dead, .int .i64 lag, .int .i64 turn, .int .i64 cost, .int .i64 full] := hd ⟨6, .data⟩ (by simp) rfl
      simp only [Inv.fill, Act.put, List.setIfInBounds_toArray, List.set_cons_zero, List.set_cons_succ, e6] at hK ⊢
      clear hd ho e6
      rw [wpOp]
      refine (if_pos rfl).mpr (.inl ?_)
      have hc := HD.out W
      go_simp
      refine hc.mono ?_
      rintro e w2 ⟨rfl, hb2⟩
      exact hK _ _ hb2 rfl
    | 8, ho =>
      obtain rfl := Option.some.inj ho
      simp only [Inv.fill, Act.put, List.setIfInBounds_toArray, List.set_cons_zero, List.set_cons_succ] at hK ⊢
      clear hd ho
      rw [wpOp]
      refine (if_pos rfl).mpr (.inl ?_)
      go_simp
      exact hK _ _ (Below.refl _ _) rfl
    | 9, ho =>
      obtain rfl := Option.some.inj ho
      have e8 : x 8 = .pointer (some ⟨w.heap.size, 5, none⟩) := hd ⟨8, .data⟩ (by simp) rfl
      simp only [Inv.fill, Act.put, List.setIfInBounds_toArray, List.set_cons_zero, List.set_cons_succ, e8] at hK ⊢
      clear hd ho e8
      rw [wpOp]
      refine (if_pos rfl).mpr (.inl ?_)
      have g5 := (HX.out W hB).c5
      go_simp
      exact hK _ _ (Below.refl _ _) rfl
    | 10, ho =>
      obtain rfl := Option.some.inj ho
      simp only [Inv.fill, Act.put, List.setIfInBounds_toArray, List.set_cons_zero, List.set_cons_succ] at hK ⊢
      clear hd ho
      rw [wpOp]
      refine (if_pos rfl).mpr (.inl ?_)
      go_simp
      exact hK _ _ (Below.refl _ _) rfl
    | 11, ho =>
      obtain rfl := Option.some.inj ho
      have e10 : x 10 = .pointer (some ⟨w.heap.size, 8, none⟩) := hd ⟨10, .data⟩ (by simp) rfl
      simp only [Inv.fill, Act.put, List.setIfInBounds_toArray, List.set_cons_zero, List.set_cons_succ, e10] at hK ⊢
      clear hd ho e10
      rw [wpOp]
      refine (if_pos rfl).mpr (.inl ?_)
      have g8 := (HX.out W hB).c8
      go_simp
      exact hK _ _ (Below.refl _ _) rfl
    | 12, ho =>
      obtain rfl := Option.some.inj ho
      simp only [Inv.fill, Act.put, List.setIfInBounds_toArray, List.set_cons_zero, List.set_cons_succ] at hK ⊢
      clear hd ho
      rw [wpOp]
      refine (if_pos rfl).mpr (.inl ?_)
      go_simp
      exact hK _ _ (Below.refl _ _) rfl
    | 13, ho =>
      obtain rfl := Option.some.inj ho
      have e12 : x 12 = .pointer (some ⟨w.heap.size, 8, none⟩) := hd ⟨12, .data⟩ (by simp) rfl
      simp only [Inv.fill, Act.put, List.setIfInBounds_toArray, List.set_cons_zero, List.set_cons_succ, e12] at hK ⊢
      clear hd ho e12
      rw [wpOp]
      refine (if_pos rfl).mpr (.inl ?_)
      have g8 := (HX.out W hB).c8
      go_simp
      exact hK _ _ (Below.refl _ _) rfl
    | 14, ho =>
      obtain rfl := Option.some.inj ho
      simp only [Inv.fill, Act.put, List.setIfInBounds_toArray, List.set_cons_zero, List.set_cons_succ] at hK ⊢
      clear hd ho
      rw [wpOp]
      refine (if_pos rfl).mpr (.inl ?_)
      go_simp
      exact hK _ _ (Below.refl _ _) rfl
    | 15, ho =>
      obtain rfl := Option.some.inj ho
      have e14 : x 14 = .int .i64 blocked := hd ⟨14, .data⟩ (by simp) rfl
      simp only [Inv.fill, Act.put, List.setIfInBounds_toArray, List.set_cons_zero, List.set_cons_succ, e14] at hK ⊢
      clear hd ho e14
      rw [wpOp]
      refine (if_pos rfl).mpr (.inl ?_)
      have hc := HK.out W
      go_simp
      refine hc.mono ?_
      rintro e w2 ⟨rfl, rfl⟩
      exact hK _ _ (Below.refl _ _) rfl
    | 16, ho =>
      obtain rfl := Option.some.inj ho
      have e1 : x 1 = .int .i64 good := hd ⟨1, .data⟩ (by simp) rfl
      have e3 : x 3 = .int .i64 rn := hd ⟨3, .data⟩ (by simp) rfl
      have e5 : x 5 = .int .i64 ds := hd ⟨5, .data⟩ (by simp) rfl
      have e7 : x 7 = .int .i64 ds := hd ⟨7, .data⟩ (by simp) rfl
      have e9 : x 9 = .int .i64 width := hd ⟨9, .data⟩ (by simp) rfl
      have e11 : x 11 = .int .i64 dead := hd ⟨11, .data⟩ (by simp) rfl
      have e13 : x 13 = .int .i64 dead := hd ⟨13, .data⟩ (by simp) rfl
      have e15 : x 15 = .int .i64 q := hd ⟨15, .data⟩ (by simp) rfl
      simp only [Inv.fill, Act.put, List.setIfInBounds_toArray, List.set_cons_zero, List.set_cons_succ, e1, e3, e5, e7, e9, e11, e13, e15] at hK ⊢
      clear hd ho e1 e3 e5 e7 e9 e11 e13 e15
      rw [wpOp]
      refine (if_pos rfl).mpr (.inl ?_)
      go_simp
      exact hK _ _ ((Below.refl _ _).alloc (Nat.le_refl _) _) ⟨W.heap.size, rfl, row_new W [good, rn, ds, ds, 8, width, dead, dead, q, 20] _⟩
    | 17, ho =>
      obtain rfl := Option.some.inj ho
      obtain ⟨b16, e16, hr16⟩ := (hd ⟨16, .data⟩ (by simp) rfl : NewRow (x 16) W 10 [good, rn, ds, ds, 8, width, dead, dead, q, 20])
      simp only [Inv.fill, Act.put, List.setIfInBounds_toArray, List.set_cons_zero, List.set_cons_succ, e16] at hK ⊢
      clear hd ho e16
      rw [wpOp]
      refine (if_pos rfl).mpr (.inl ?_)
      have hc := HS.out b16 W hr16
      go_simp
      refine hc.mono ?_
      rintro e w2 ⟨rfl, hb2⟩
      exact hK _ _ hb2 rfl
    | 18, ho =>
      obtain rfl := Option.some.inj ho
      have e17 : x 17 = .int .i64 z := hd ⟨17, .data⟩ (by simp) rfl
      simp only [Inv.fill, Act.put, List.setIfInBounds_toArray, List.set_cons_zero, List.set_cons_succ, e17] at hK ⊢
      clear hd ho e17
      rw [wpOp]
      refine (if_pos rfl).mpr (.inl ?_)
      go_simp
      exact hK _ _ (Below.refl _ _) rfl
    | n + 19, ho => simp at ho
  · intro x W hB hx
    have e18 : x 18 = .int .i64 z := hx 18 (by simp)
    simp only [Inv.fill, Act.put, List.setIfInBounds_toArray, List.set_cons_zero, List.set_cons_succ, e18]
    clear hx e18
    go_wp2
    go_ret
    exact ⟨rfl, below_mono HBW.out hB⟩

end Go.Proofs.Ytkicijgempccfaa.Con
