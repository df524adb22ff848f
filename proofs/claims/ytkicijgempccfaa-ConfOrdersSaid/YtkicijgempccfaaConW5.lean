/- The walk of ConfOrders. -/
import Derived.Test.YtkicijgempccfaaConQ
namespace Go.Proofs.Ytkicijgempccfaa.Walk
open Go.RowKit Go.ChangeShapes Go.Proofs.Ytkicijgempccfaa.RatP Go.Proofs.Ytkicijgempccfaa.SatP Go.Proofs.Ytkicijgempccfaa.ConP Go.Proofs.Ytkicijgempccfaa.Rat Go.Proofs.Ytkicijgempccfaa.Con
set_option linter.unusedVariables false

open Go.Proofs.Ytkicijgempccfaa.Sees Go.Proofs.Ytkicijgempccfaa.Inv
/-- while the last statements of ConfOrders run -/
structure KJ (w W : World) (N X : Nat) (v : V) (A A' : Option Addr) (c c' : Nat) (l1 l2 : List Int) : Prop where
  lj : LJ w W N v
  d : Rw W (X + 2) X v A c l1
  e : Rw W (X + 2) (X + 1) v A' c' l2
  n1 : l1.length ≤ 1000
  n2 : l2.length ≤ 1000
theorem KJ.next {w W W' : World} {N X : Nat} {v : V} {A A' : Option Addr} {c c' : Nat} {l1 l2 : List Int} (h : KJ w W N X v A A' c c' l1 l2) (hb : Below W.heap.size W W') : KJ w W' N X v A A' c c' l1 l2 := ⟨h.lj.next hb, h.d.next hb, h.e.next hb, h.n1, h.n2⟩
theorem KJ.din {w W : World} {N X : Nat} {v : V} {A A' : Option Addr} {c c' : Nat} {l1 l2 : List Int} (h : KJ w W N X v A A' c c' l1 l2) : V.In W (vO v A c l1) := h.d.inn h.lj h.n1
theorem KJ.ein {w W : World} {N X : Nat} {v : V} {A A' : Option Addr} {c c' : Nat} {l1 l2 : List Int} (h : KJ w W N X v A A' c c' l1 l2) : V.In W (vO v A' c' l2) := h.e.inn h.lj h.n2
theorem kj_of {w W : World} {N X : Nat} {v : V} {A A' : Option Addr} {c c' : Nat} {l1 l2 : List Int} {f : FuncId} {args : Array Value} {r : Value} (h : Hid (KJ w W N X v A A' c c' l1 l2)) (hc : Calls Try.prog f args W (Says W r)) : Calls Try.prog f args W fun e W' => e = .returned r ∧ Hid (KJ w W' N X v A A' c c' l1 l2) :=
  hc.mono fun e W' ⟨h1, h2⟩ => ⟨h1, Lib.hid (h.out.next h2)⟩
theorem kd_all {w W : World} {N X : Nat} {v : V} {A A' : Option Addr} {c c' : Nat} {l1 l2 : List Int} (h : Hid (KJ w W N X v A A' c c' l1 l2)) : W.cell? ⟨X, 0, none⟩ = some (.slice v.A v.c.banks.length v.cb) ∧ W.cell? ⟨X, 1, none⟩ = some (.int .i64 v.c.floors) ∧ W.cell? ⟨X, 2, none⟩ = some (.int .i64 v.c.home) ∧ W.cell? ⟨X, 3, none⟩ = some (.slice A l1.length c) ∧ W.cell? ⟨X, 4, none⟩ = some (.int .i64 v.c.speed) ∧ W.cell? ⟨X, 5, none⟩ = some (.int .i64 v.c.width) ∧ W.cell? ⟨X, 6, none⟩ = some (.int .i64 v.c.dwell) ∧ W.cell? ⟨X, 7, none⟩ = some (.int .i64 v.c.good) ∧ W.cell? ⟨X, 8, none⟩ = some (.int .i64 v.c.dead) ∧ W.cell? ⟨X, 9, none⟩ = some (.int .i64 v.c.lag) ∧ W.cell? ⟨X, 10, none⟩ = some (.int .i64 v.c.turn) ∧ W.cell? ⟨X, 11, none⟩ = some (.int .i64 v.c.cost) ∧ W.cell? ⟨X, 12, none⟩ = some (.int .i64 v.c.full) := h.out.d.box.all
theorem ke_all {w W : World} {N X : Nat} {v : V} {A A' : Option Addr} {c c' : Nat} {l1 l2 : List Int} (h : Hid (KJ w W N X v A A' c c' l1 l2)) : W.cell? ⟨X + 1, 0, none⟩ = some (.slice v.A v.c.banks.length v.cb) ∧ W.cell? ⟨X + 1, 1, none⟩ = some (.int .i64 v.c.floors) ∧ W.cell? ⟨X + 1, 2, none⟩ = some (.int .i64 v.c.home) ∧ W.cell? ⟨X + 1, 3, none⟩ = some (.slice A' l2.length c') ∧ W.cell? ⟨X + 1, 4, none⟩ = some (.int .i64 v.c.speed) ∧ W.cell? ⟨X + 1, 5, none⟩ = some (.int .i64 v.c.width) ∧ W.cell? ⟨X + 1, 6, none⟩ = some (.int .i64 v.c.dwell) ∧ W.cell? ⟨X + 1, 7, none⟩ = some (.int .i64 v.c.good) ∧ W.cell? ⟨X + 1, 8, none⟩ = some (.int .i64 v.c.dead) ∧ W.cell? ⟨X + 1, 9, none⟩ = some (.int .i64 v.c.lag) ∧ W.cell? ⟨X + 1, 10, none⟩ = some (.int .i64 v.c.turn) ∧ W.cell? ⟨X + 1, 11, none⟩ = some (.int .i64 v.c.cost) ∧ W.cell? ⟨X + 1, 12, none⟩ = some (.int .i64 v.c.full) := h.out.e.box.all

def OrdersF (N X X2 : Nat) (v : V) (A A' : Option Addr) (c c' : Nat) (l1 l2 : List Int) (blocked lm bt : Int) : Nat → Value → World → Prop
  | 0, vv, _ => vv = .bool true
  | 1, vv, _ => vv = .bool false
  | 2, vv, _ => vv = .bool false
  | 3, vv, _ => vv = .agg #[.slice v.A v.c.banks.length v.cb, .int .i64 v.c.floors, .int .i64 v.c.home, .slice v.O v.c.order.length v.co, .int .i64 v.c.speed, .int .i64 v.c.width, .int .i64 v.c.dwell, .int .i64 v.c.good, .int .i64 v.c.dead, .int .i64 v.c.lag, .int .i64 v.c.turn, .int .i64 v.c.cost, .int .i64 v.c.full]
  | 4, vv, _ => vv = .int .i64 blocked
  | 5, vv, _ => vv = .int .i64 lm
  | 6, vv, _ => vv = .agg #[.slice v.A v.c.banks.length v.cb, .int .i64 v.c.floors, .int .i64 v.c.home, .slice A l1.length c, .int .i64 v.c.speed, .int .i64 v.c.width, .int .i64 v.c.dwell, .int .i64 v.c.good, .int .i64 v.c.dead, .int .i64 v.c.lag, .int .i64 v.c.turn, .int .i64 v.c.cost, .int .i64 v.c.full]
  | 7, vv, _ => vv = .int .i64 blocked
  | 8, vv, _ => vv = .int .i64 lm
  | 9, vv, _ => vv = .bool true
  | 10, vv, _ => vv = .bool true
  | 11, vv, _ => vv = .agg #[.slice v.A v.c.banks.length v.cb, .int .i64 v.c.floors, .int .i64 v.c.home, .slice v.O v.c.order.length v.co, .int .i64 v.c.speed, .int .i64 v.c.width, .int .i64 v.c.dwell, .int .i64 v.c.good, .int .i64 v.c.dead, .int .i64 v.c.lag, .int .i64 v.c.turn, .int .i64 v.c.cost, .int .i64 v.c.full]
  | 12, vv, _ => vv = .int .i64 blocked
  | 13, vv, _ => vv = .int .i64 bt
  | 14, vv, _ => vv = .agg #[.slice v.A v.c.banks.length v.cb, .int .i64 v.c.floors, .int .i64 v.c.home, .slice A' l2.length c', .int .i64 v.c.speed, .int .i64 v.c.width, .int .i64 v.c.dwell, .int .i64 v.c.good, .int .i64 v.c.dead, .int .i64 v.c.lag, .int .i64 v.c.turn, .int .i64 v.c.cost, .int .i64 v.c.full]
  | 15, vv, _ => vv = .int .i64 blocked
  | 16, vv, _ => vv = .int .i64 bt
  | 17, vv, _ => vv = .bool true
  | 18, vv, _ => vv = .bool true
  | 19, vv, _ => vv = .bool true
  | 20, vv, _ => vv = .bool true
  | _, _, _ => True

def PushF1 (N X : Nat) (A : Option Addr) (len c b o no co d R : Nat) (x y1 j : Int) : Nat → Value → Prop
  | 0, vv => vv = .pointer (some ⟨X, 3, none⟩)
  | 1, vv => vv = .slice A len c
  | 2, vv => vv = .pointer (some ⟨N, 3, none⟩)
  | 3, vv => vv = .slice (some ⟨b, o, none⟩) no co
  | 4, vv => vv = .int .i64 (no : Int)
  | 5, vv => vv = .int .i64 y1
  | 6, vv => vv = .int .i64 j
  | 7, vv => vv = .int .i64 (d : Int)
  | 8, vv => vv = .pointer (some ⟨b, o + d, none⟩)
  | 9, vv => vv = .int .i64 x
  | 10, vv => vv = .slice (some ⟨R, 0, none⟩) 1 1
  | 12, vv => vv = .pointer (some ⟨X, 3, none⟩)
  | _, _ => True

def PushF2 (N X : Nat) (A : Option Addr) (len c b o no co d R : Nat) (x y1 j y2 : Int) : Nat → Value → Prop
  | 0, vv => vv = .pointer (some ⟨X, 3, none⟩)
  | 1, vv => vv = .slice A len c
  | 2, vv => vv = .pointer (some ⟨N, 3, none⟩)
  | 3, vv => vv = .slice (some ⟨b, o, none⟩) no co
  | 4, vv => vv = .int .i64 j
  | 5, vv => vv = .int .i64 y2
  | 6, vv => vv = .int .i64 y1
  | 7, vv => vv = .int .i64 (no : Int)
  | 8, vv => vv = .int .i64 (d : Int)
  | 9, vv => vv = .pointer (some ⟨b, o + d, none⟩)
  | 10, vv => vv = .int .i64 x
  | 11, vv => vv = .slice (some ⟨R, 0, none⟩) 1 1
  | 13, vv => vv = .pointer (some ⟨X, 3, none⟩)
  | _, _ => True

set_option maxRecDepth 100000 in
set_option maxHeartbeats 16000000 in
theorem confOrders_walk (w : World) (v : V) (at_ blocked : Int) (hin : V.In w v) (w1 : (Lit.int .u8 at_).wf = true) (_w2 : (Lit.int .i64 blocked).wf = true) : Calls Try.prog 7 #[v.val, .int .u8 at_, .int .i64 blocked] w fun e w' => e = .returned (.bool true) ∧ Below w.heap.size w w' := by
  obtain ⟨b_0, b_1⟩ := bounds_u8 w1
  clear w1 _w2
  have H0 := Lib.hid (LJ.new hin 25)
  have HIN := Lib.hid hin
  clear hin
  unfold V.arr at H0
  cases hsm : smB v
  · have HS := Lib.hid hsm
    clear hsm
    unfold V.val
    go_enter Try.func7, Try.ntmps7
    go_wp2_with (first
      | (go_at_call 9; refine (lj_awake H0).mono ?_; clear H0; rintro e w1 ⟨rfl, h1⟩; obtain ⟨a0, a1, a2, a3, a4, a5, a6, a7, a8, a9, a10, a11, a12⟩ := lj_all h1)
      | (go_at_call 10; refine (lj_small HS h1).mono ?_; clear h1 a0 a1 a2 a3 a4 a5 a6 a7 a8 a9 a10 a11 a12; rintro e w2 ⟨rfl, h2⟩; obtain ⟨a0, a1, a2, a3, a4, a5, a6, a7, a8, a9, a10, a11, a12⟩ := lj_all h2; have hlt2 : w.heap.size < w2.heap.size := h2.out.box.lt))
    go_ret
    exact ⟨rfl, h2.out.below⟩
  have hs2 := (smB_iff v).1 hsm
  have HS := Lib.hid hsm
  clear hsm
  by_cases hz : v.c.order.length = 0
  · have z0 : ((v.c.order.length : Int) == 0) = true := by simp [hz]
    clear hs2 hz
    unfold V.val
    go_enter Try.func7, Try.ntmps7
    go_wp2_with (first
      | (go_at_call 9; refine (lj_awake H0).mono ?_; clear H0; rintro e w1 ⟨rfl, h1⟩; obtain ⟨a0, a1, a2, a3, a4, a5, a6, a7, a8, a9, a10, a11, a12⟩ := lj_all h1)
      | (go_at_call 10; refine (lj_small HS h1).mono ?_; clear h1 a0 a1 a2 a3 a4 a5 a6 a7 a8 a9 a10 a11 a12; rintro e w2 ⟨rfl, h2⟩; obtain ⟨a0, a1, a2, a3, a4, a5, a6, a7, a8, a9, a10, a11, a12⟩ := lj_all h2; have hlt2 : w.heap.size < w2.heap.size := h2.out.box.lt))
    go_ret
    exact ⟨rfl, h2.out.below⟩
  have z0 : ((v.c.order.length : Int) == 0) = false := by simpa using hz
  have n0 : 0 < v.c.order.length := by omega
  have n1 : v.c.order.length ≤ 100 := hs2.2
  have HL : Hid (0 < v.c.order.length ∧ v.c.order.length ≤ 100) := Lib.hid ⟨n0, n1⟩
  obtain ⟨i1, hj, hy0, hy1, hy2⟩ := info_parts info_int
  obtain ⟨kk, hk⟩ : ∃ kk : Nat, at_ % (v.c.order.length : Int) = (kk : Int) := ⟨(at_ % (v.c.order.length : Int)).toNat, by have := Int.emod_nonneg at_ (show (v.c.order.length : Int) ≠ 0 by omega); omega⟩
  have hk1 : kk < v.c.order.length := by have := Int.emod_lt_of_pos at_ (show (0 : Int) < (v.c.order.length : Int) by omega); omega
  have hk2 : at_.tmod (v.c.order.length : Int) = (kk : Int) := by rw [Int.tmod_eq_emod_of_nonneg b_0]; exact hk
  have HKK := Lib.hid hk1
  have p0 : (0 : Int) < (v.c.order.length : Int) := by omega
  have p1 : (v.c.order.length : Int) ≤ 100 := by omega
  have hne : ¬ v.c.order = [] := fun h => by rw [h] at n0; simp at n0
  clear hz hs2 n0 n1 hk1
  unfold V.val
  go_enter Try.func7, Try.ntmps7
  go_wp2_with (first
      | (go_at_call 9; refine (lj_awake H0).mono ?_; clear H0; rintro e w1 ⟨rfl, h1⟩; obtain ⟨a0, a1, a2, a3, a4, a5, a6, a7, a8, a9, a10, a11, a12⟩ := lj_all h1)
      | (go_at_call 10; refine (lj_small HS h1).mono ?_; clear h1 a0 a1 a2 a3 a4 a5 a6 a7 a8 a9 a10 a11 a12; rintro e w2 ⟨rfl, h2⟩; obtain ⟨a0, a1, a2, a3, a4, a5, a6, a7, a8, a9, a10, a11, a12⟩ := lj_all h2; have hlt2 : w.heap.size < w2.heap.size := h2.out.box.lt))
  have HR0 : OJ w ((w2.alloc (.cells (vO v none 0 []).arr 25)).alloc (.cells (vO v none 0 []).arr 25)) w.heap.size w2.heap.size v [] [] := by
    have hsz : ((w2.alloc (.cells (vO v none 0 []).arr 25)).alloc (.cells (vO v none 0 []).arr 25)).heap.size = w2.heap.size + 2 := by simp
    have e1 : (w2.alloc (.cells (vO v none 0 []).arr 25)).heap.size = w2.heap.size + 1 := by simp
    refine ⟨(h2.out.next Con.says_box).next Con.says_box, hlt2, h2.out.below.size, by omega, none, 0, none, 0, ⟨⟨rfl, .inl ⟨rfl, rfl⟩⟩, (CBox.new w2 (vO v none 0 []) _).next Con.says_box, (Fr.new w2 _ _).kept ((Con.says_box).block w2.heap.size (by omega))⟩, ⟨⟨rfl, .inl ⟨rfl, rfl⟩⟩, ?_, ?_⟩, fun g hg => by cases hg⟩
    · have := CBox.new (w2.alloc (.cells (vO v none 0 []).arr 25)) (vO v none 0 []) 25
      rwa [e1] at this
    · have := Fr.new (w2.alloc (.cells (vO v none 0 []).arr 25)) (vO v none 0 []).arr 25
      rwa [e1] at this
  have HOJ0 := Lib.hid HR0
  clear HR0 h2 a0 a1 a2 a3 a4 a5 a6 a7 a8 a9 a10 a11 a12
  go_loopw [13] (fun i wr => ∃ j : Nat, j ≤ v.c.order.length ∧ i = .int .i64 j ∧ OJ w wr w.heap.size w2.heap.size v (v.c.order.reverse.take j) ((v.c.order.drop kk ++ v.c.order.take kk).take j)) (fun i _ => v.c.order.length - (intOf i).toNat)
  case atStart => exact ⟨0, Nat.zero_le _, rfl, HOJ0.out⟩
  case round =>
    obtain ⟨j, hjl, rfl, hoj⟩ := hrel
    have HOJ := Lib.hid hoj
    clear hoj HOJ0
    by_cases hlt : j < v.c.order.length
    · have hll := HL.out
      have hkk := HKK.out
      obtain ⟨d1, hd1⟩ : ∃ d : Nat, d = v.c.order.length - 1 - j := ⟨_, rfl⟩
      have hd1l : d1 < v.c.order.length := by omega
      obtain ⟨x1, hx1⟩ : ∃ x, v.c.order[d1]? = some x := ⟨v.c.order[d1], by simp [hd1l]⟩
      have HD1 : Hid (v.c.order.reverse.take (j + 1) = v.c.order.reverse.take j ++ [x1]) := Lib.hid (by
        rw [List.take_add_one, List.getElem?_reverse (by omega), ← hd1, hx1]; rfl)
      obtain ⟨s1, hs1⟩ : ∃ s : Nat, s = j + kk := ⟨_, rfl⟩
      obtain ⟨d2, hd2⟩ : ∃ d : Nat, d = s1 % v.c.order.length := ⟨_, rfl⟩
      have hd2l : d2 < v.c.order.length := by rw [hd2]; exact Nat.mod_lt _ (by omega)
      obtain ⟨x2, hx2⟩ : ∃ x, v.c.order[d2]? = some x := ⟨v.c.order[d2], by simp [hd2l]⟩
      have HD2 : Hid ((v.c.order.drop kk ++ v.c.order.take kk).take (j + 1) = (v.c.order.drop kk ++ v.c.order.take kk).take j ++ [x2]) := Lib.hid (by
        have e : (v.c.order.drop kk ++ v.c.order.take kk)[j]? = some x2 := by
          rw [← hx2, hd2, hs1]
          by_cases hc : j + kk < v.c.order.length
          · rw [List.getElem?_append_left (by rw [List.length_drop]; omega), List.getElem?_drop, Nat.mod_eq_of_lt hc, Nat.add_comm]
          · rw [List.getElem?_append_right (by rw [List.length_drop]; omega), List.length_drop, List.getElem?_take_of_lt (by omega)]
            congr 1
            rw [Nat.mod_eq_sub_mod (by omega), Nat.mod_eq_of_lt (by omega)]
            omega
        rw [List.take_add_one, e]; rfl)
      have hn1 := Sees.nums_at .i64 v.c.order d1 hd1l
      have hn2 := Sees.nums_at .i64 v.c.order d2 hd2l
      rw [hx1] at hn1
      rw [hx2] at hn2
      obtain ⟨b, o, hO, hbB, hcell⟩ := HIN.out.os.at_ hn1
      obtain ⟨b2, o2, hO2, hbB2, hcell2⟩ := HIN.out.os.at_ hn2
      obtain ⟨y1, hy1'⟩ : ∃ y : Int, (v.c.order.length : Int) - 1 = y := ⟨_, rfl⟩
      have E1 : Hid (IntKind.i64.wrap ((v.c.order.length : Int) - 1) = y1) := Lib.hid ((IntWalk.i64_in _ (by omega)).trans hy1')
      have E2 : Hid (IntKind.i64.wrap (y1 - (j : Int)) = (d1 : Int)) := Lib.hid ((IntWalk.i64_in _ (by omega)).trans (by omega))
      have E3 : Hid (IntKind.i64.wrap ((j : Int) + (kk : Int)) = (s1 : Int)) := Lib.hid ((IntWalk.i64_in _ (by omega)).trans (by omega))
      have hem : (s1 : Int) % (v.c.order.length : Int) = (d2 : Int) := by rw [hd2]; exact (Int.natCast_emod s1 v.c.order.length).symm
      have E5 : Hid ((s1 : Int).tmod (v.c.order.length : Int) = (d2 : Int)) := Lib.hid (by rw [Int.tmod_eq_emod_of_nonneg (by omega)]; exact hem)
      have E4 : Hid (IntKind.i64.wrap ((s1 : Int).tmod (v.c.order.length : Int)) = (d2 : Int)) := Lib.hid (by rw [E5.out]; exact IntWalk.i64_in _ (by omega))
      have E6 := Lib.hid hem
      have r1 : (0 : Int) ≤ (d1 : Int) := by omega
      have r2 : (d1 : Int) < (v.c.order.length : Int) := by omega
      have r3 : (0 : Int) ≤ (d2 : Int) := by omega
      have r4 : (d2 : Int) < (v.c.order.length : Int) := by omega
      have hlj := HOJ.out
      obtain ⟨hlj, hN, hw, hsz, A, c, A', c', hR1, hR2, hAP⟩ := hlj
      have hldl : (v.c.order.reverse.take j).length ≤ 100 := by rw [List.length_take]; omega
      have hlel : ((v.c.order.drop kk ++ v.c.order.take kk).take j).length ≤ 100 := by rw [List.length_take]; omega
      clear HOJ
      generalize v.c.order.reverse.take j = ld at HD1 hR1 hR2 hAP hldl ⊢
      generalize (v.c.order.drop kk ++ v.c.order.take kk).take j = le at HD2 hR2 hAP hlel ⊢
      obtain ⟨W0, hW0⟩ : ∃ W0, wr.drew = W0 := ⟨_, rfl⟩
      have HW0 := Lib.hid hW0
      have HLJ : Hid (LJ w W0 w.heap.size v) := Lib.hid (by rw [← hW0]; exact hlj.drew)
      have HN := Lib.hid hN
      have HWX := Lib.hid hw
      have HSZ : Hid (w2.heap.size + 2 ≤ W0.heap.size) := Lib.hid (by rw [← hW0]; exact hsz)
      have HR1 : Hid (Rw W0 (w2.heap.size + 2) w2.heap.size v A c ld) := Lib.hid (by rw [← hW0]; exact ⟨hR1.own.drew, hR1.box.drew, hR1.fr⟩)
      have HR2 : Hid (Rw W0 (w2.heap.size + 2) (w2.heap.size + 1) v A' c' le) := Lib.hid (by rw [← hW0]; exact ⟨hR2.own.drew, hR2.box.drew, hR2.fr⟩)
      have HAP := Lib.hid hAP
      have HOW0 := Lib.hid HR1.out.own
      have HLL := Lib.hid hldl
      have HLE := Lib.hid hlel
      have HCELL : Hid (∀ L x w', ApT W0 ⟨w2.heap.size, 3, none⟩ (w2.heap.size + 2) 3 1 ld.length (.slice A ld.length c) (nums .i64 ld ++ [.int .i64 x1]) (.cells #[.int .i64 x1] 3) 10 11 13 L x w' → L.getD 13 false = false → w'.cell? ⟨w.heap.size, 3, none⟩ = some (.slice (some ⟨b, o, none⟩) v.c.order.length v.co) ∧ w'.cell? ⟨b, o + d1, none⟩ = some (.int .i64 x1) ∧ w'.cell? ⟨w2.heap.size, 3, none⟩ = some (.slice A ld.length c) ∧ w'.frozen? ⟨w2.heap.size, 3, none⟩ = false) := Lib.hid fun L x w' h h3 => by
        have kp := fun Y hY hne => h.keep h3 Y hY hne
        have nb : ∀ Y, Y < w2.heap.size + 2 → some Y ≠ (Value.slice A ld.length c).ownBlock := fun Y hY e => by have := (HR1.out.own.lt Y e.symm).1; omega
        have q0 := HSZ.out
        have q1 := HN.out
        have q2 := HWX.out
        refine ⟨(World.cell?_of_block (kp w.heap.size (by omega) (nb _ (by omega)))).trans ?_, (World.cell?_of_block (kp b (by omega) (nb _ (by omega)))).trans ?_, (World.cell?_of_block (kp (w2.heap.size) (by omega) (nb _ (by omega)))).trans HR1.out.box.c3, (World.frozen?_of_block (kp (w2.heap.size) (by omega) (nb _ (by omega)))).trans (HR1.out.fr 3)⟩
        · rw [← hO]; exact HLJ.out.box.c3
        · exact (HLJ.out.below.cell (p := ⟨b, o + d1, none⟩) hbB).trans hcell
      have HO := Lib.hid hO
      have HO2 := Lib.hid hO2
      have HC2 := Lib.hid hcell2
      have HB2 := Lib.hid hbB2
      clear hlj hN hw hsz hR1 hR2 hAP hldl hlel hW0 hO hO2 hcell hcell2 hbB hbB2 hn1 hn2 hx1 hx2 hd1 hd2 hs1 hd1l hd2l hem hy1' hll hkk hk hk2
      go_wp2
      refine Inv.wp_region_stage (PushF1 w.heap.size w2.heap.size A ld.length c b o v.c.order.length v.co d1 W0.heap.size x1 y1 j) (ApT W0 ⟨w2.heap.size, 3, none⟩ (w2.heap.size + 2) 3 1 ld.length (.slice A ld.length c) (nums .i64 ld ++ [.int .i64 x1]) (.cells #[.int .i64 x1] 3) 10 11 13) (by kernel_rfl) (by kernel_rfl) (by kernel_rfl) (fun x => by rw [HW0.out]; exact ApT.start _) ?_ ?_
      · intro i o' L x W K ho hLs hC hun hd hdone hT hK
        match i, ho with
        | 0, ho =>
          obtain rfl := Option.some.inj ho
          have h25 : L.getD 13 false = false := by
            cases h : L.getD 13 false
            · rfl
            · have := hC 13 _ rfl h ⟨0, .phase⟩ (by simp) rfl
              rw [hun] at this; cases this
          obtain ⟨f0, f1, f2, f3⟩ := HCELL.out _ _ _ hT h25
          simp only [Inv.fill, Act.put, List.setIfInBounds_toArray, List.set_cons_zero, List.set_cons_succ] at hK ⊢
          clear hd ho hdone
          rw [wpOp]
          refine (if_pos rfl).mpr (.inl ?_)
          go_simp
          exact hK _ _ rfl (ApT.same (by decide) (by decide) (by decide) hT)
        | 1, ho =>
          obtain rfl := Option.some.inj ho
          have h25 : L.getD 13 false = false := by
            cases h : L.getD 13 false
            · rfl
            · have := hC 13 _ rfl h ⟨1, .phase⟩ (by simp) rfl
              rw [hun] at this; cases this
          obtain ⟨f0, f1, f2, f3⟩ := HCELL.out _ _ _ hT h25
          have e0 : x 0 = .pointer (some ⟨w2.heap.size, 3, none⟩) := (hd ⟨0, .data⟩ (by simp) rfl).2
          simp only [Inv.fill, Act.put, List.setIfInBounds_toArray, List.set_cons_zero, List.set_cons_succ, e0] at hK ⊢
          clear hd ho hdone e0
          rw [wpOp]
          refine (if_pos rfl).mpr (.inl ?_)
          go_simp
          exact hK _ _ rfl (ApT.same (by decide) (by decide) (by decide) hT)
        | 2, ho =>
          obtain rfl := Option.some.inj ho
          have h25 : L.getD 13 false = false := by
            cases h : L.getD 13 false
            · rfl
            · have := hC 13 _ rfl h ⟨2, .phase⟩ (by simp) rfl
              rw [hun] at this; cases this
          obtain ⟨f0, f1, f2, f3⟩ := HCELL.out _ _ _ hT h25
          simp only [Inv.fill, Act.put, List.setIfInBounds_toArray, List.set_cons_zero, List.set_cons_succ] at hK ⊢
          clear hd ho hdone
          rw [wpOp]
          refine (if_pos rfl).mpr (.inl ?_)
          go_simp
          exact hK _ _ rfl (ApT.same (by decide) (by decide) (by decide) hT)
        | 3, ho =>
          obtain rfl := Option.some.inj ho
          have h25 : L.getD 13 false = false := by
            cases h : L.getD 13 false
            · rfl
            · have := hC 13 _ rfl h ⟨3, .phase⟩ (by simp) rfl
              rw [hun] at this; cases this
          obtain ⟨f0, f1, f2, f3⟩ := HCELL.out _ _ _ hT h25
          have e2 : x 2 = .pointer (some ⟨w.heap.size, 3, none⟩) := (hd ⟨2, .data⟩ (by simp) rfl).2
          simp only [Inv.fill, Act.put, List.setIfInBounds_toArray, List.set_cons_zero, List.set_cons_succ, e2] at hK ⊢
          clear hd ho hdone e2
          rw [wpOp]
          refine (if_pos rfl).mpr (.inl ?_)
          go_simp
          exact hK _ _ rfl (ApT.same (by decide) (by decide) (by decide) hT)
        | 4, ho =>
          obtain rfl := Option.some.inj ho
          have h25 : L.getD 13 false = false := by
            cases h : L.getD 13 false
            · rfl
            · have := hC 13 _ rfl h ⟨4, .phase⟩ (by simp) rfl
              rw [hun] at this; cases this
          obtain ⟨f0, f1, f2, f3⟩ := HCELL.out _ _ _ hT h25
          simp only [Inv.fill, Act.put, List.setIfInBounds_toArray, List.set_cons_zero, List.set_cons_succ] at hK ⊢
          clear hd ho hdone
          rw [wpOp]
          refine (if_pos rfl).mpr (.inl ?_)
          go_simp
          exact hK _ _ rfl (ApT.same (by decide) (by decide) (by decide) hT)
        | 5, ho =>
          obtain rfl := Option.some.inj ho
          have h25 : L.getD 13 false = false := by
            cases h : L.getD 13 false
            · rfl
            · have := hC 13 _ rfl h ⟨5, .phase⟩ (by simp) rfl
              rw [hun] at this; cases this
          obtain ⟨f0, f1, f2, f3⟩ := HCELL.out _ _ _ hT h25
          have e4 : x 4 = .int .i64 (v.c.order.length : Int) := (hd ⟨4, .data⟩ (by simp) rfl).2
          simp only [Inv.fill, Act.put, List.setIfInBounds_toArray, List.set_cons_zero, List.set_cons_succ, e4] at hK ⊢
          clear hd ho hdone e4
          rw [wpOp]
          refine (if_pos rfl).mpr (.inl ?_)
          go_simp
          exact hK _ _ (congrArg (Value.int .i64) E1.out) (ApT.same (by decide) (by decide) (by decide) hT)
        | 6, ho =>
          obtain rfl := Option.some.inj ho
          have h25 : L.getD 13 false = false := by
            cases h : L.getD 13 false
            · rfl
            · have := hC 13 _ rfl h ⟨6, .phase⟩ (by simp) rfl
              rw [hun] at this; cases this
          obtain ⟨f0, f1, f2, f3⟩ := HCELL.out _ _ _ hT h25
          simp only [Inv.fill, Act.put, List.setIfInBounds_toArray, List.set_cons_zero, List.set_cons_succ] at hK ⊢
          clear hd ho hdone
          rw [wpOp]
          refine (if_pos rfl).mpr (.inl ?_)
          go_simp
          exact hK _ _ rfl (ApT.same (by decide) (by decide) (by decide) hT)
        | 7, ho =>
          obtain rfl := Option.some.inj ho
          have h25 : L.getD 13 false = false := by
            cases h : L.getD 13 false
            · rfl
            · have := hC 13 _ rfl h ⟨7, .phase⟩ (by simp) rfl
              rw [hun] at this; cases this
          obtain ⟨f0, f1, f2, f3⟩ := HCELL.out _ _ _ hT h25
          have e5 : x 5 = .int .i64 y1 := (hd ⟨5, .data⟩ (by simp) rfl).2
          have e6 : x 6 = .int .i64 (j : Int) := (hd ⟨6, .data⟩ (by simp) rfl).2
          simp only [Inv.fill, Act.put, List.setIfInBounds_toArray, List.set_cons_zero, List.set_cons_succ, e5, e6] at hK ⊢
          clear hd ho hdone e5 e6
          rw [wpOp]
          refine (if_pos rfl).mpr (.inl ?_)
          go_simp
          exact hK _ _ (congrArg (Value.int .i64) E2.out) (ApT.same (by decide) (by decide) (by decide) hT)
        | 8, ho =>
          obtain rfl := Option.some.inj ho
          have h25 : L.getD 13 false = false := by
            cases h : L.getD 13 false
            · rfl
            · have := hC 13 _ rfl h ⟨8, .phase⟩ (by simp) rfl
              rw [hun] at this; cases this
          obtain ⟨f0, f1, f2, f3⟩ := HCELL.out _ _ _ hT h25
          have e3 : x 3 = .slice (some ⟨b, o, none⟩) v.c.order.length v.co := (hd ⟨3, .data⟩ (by simp) rfl).2
          have e7 : x 7 = .int .i64 (d1 : Int) := (hd ⟨7, .data⟩ (by simp) rfl).2
          simp only [Inv.fill, Act.put, List.setIfInBounds_toArray, List.set_cons_zero, List.set_cons_succ, e3, e7] at hK ⊢
          clear hd ho hdone e3 e7
          rw [wpOp]
          refine (if_pos rfl).mpr (.inl ?_)
          go_simp
          exact hK _ _ rfl (ApT.same (by decide) (by decide) (by decide) hT)
        | 9, ho =>
          obtain rfl := Option.some.inj ho
          have h25 : L.getD 13 false = false := by
            cases h : L.getD 13 false
            · rfl
            · have := hC 13 _ rfl h ⟨9, .phase⟩ (by simp) rfl
              rw [hun] at this; cases this
          obtain ⟨f0, f1, f2, f3⟩ := HCELL.out _ _ _ hT h25
          have e8 : x 8 = .pointer (some ⟨b, o + d1, none⟩) := (hd ⟨8, .data⟩ (by simp) rfl).2
          simp only [Inv.fill, Act.put, List.setIfInBounds_toArray, List.set_cons_zero, List.set_cons_succ, e8] at hK ⊢
          clear hd ho hdone e8
          rw [wpOp]
          refine (if_pos rfl).mpr (.inl ?_)
          go_simp
          exact hK _ _ rfl (ApT.same (by decide) (by decide) (by decide) hT)
        | 10, ho =>
          obtain rfl := Option.some.inj ho
          have h25 : L.getD 13 false = false := by
            cases h : L.getD 13 false
            · rfl
            · have := hC 13 _ rfl h ⟨10, .phase⟩ (by simp) rfl
              rw [hun] at this; cases this
          obtain ⟨f0, f1, f2, f3⟩ := HCELL.out _ _ _ hT h25
          have e9 : x 9 = .int .i64 x1 := (hd ⟨9, .data⟩ (by simp) rfl).2
          have h23 : L.getD 11 false = false := by
            cases h : L.getD 11 false
            · rfl
            · have := hC 11 _ rfl h ⟨10, .data⟩ (by simp) rfl
              rw [hun] at this; cases this
          obtain rfl := ApT.at0 hT h25 h23 hun
          simp only [Inv.fill, Act.put, List.setIfInBounds_toArray, List.set_cons_zero, List.set_cons_succ, e9] at hK ⊢
          clear hd ho hdone e9
          rw [wpOp]
          refine (if_pos rfl).mpr (.inl ?_)
          go_simp
          exact hK _ _ rfl (ApT.mk1 (by rw [hLs]; decide) (by decide) (by decide) h25 h23)
        | 11, ho =>
          obtain rfl := Option.some.inj ho
          have h25 : L.getD 13 false = false := by
            cases h : L.getD 13 false
            · rfl
            · have := hC 13 _ rfl h ⟨11, .data⟩ (by simp) rfl
              rw [hun] at this; cases this
          obtain ⟨f0, f1, f2, f3⟩ := HCELL.out _ _ _ hT h25
          have e1 : x 1 = .slice A ld.length c := (hd ⟨1, .data⟩ (by simp) rfl).2
          have e10 : x 10 = .slice (some ⟨W0.heap.size, 0, none⟩) 1 1 := (hd ⟨10, .data⟩ (by simp) rfl).2
          obtain rfl := ApT.at1 hT h25 hun (hd ⟨10, .data⟩ (by simp) rfl).1
          simp only [Inv.fill, Act.put, List.setIfInBounds_toArray, List.set_cons_zero, List.set_cons_succ, e1, e10] at hK ⊢
          clear hd ho hdone e1 e10
          rw [wpOp]
          refine (if_pos rfl).mpr (.inl ?_)
          refine wp_append_lies _ _ _ 23 rfl (w2.heap.size + 2) 3 i1 _ 1 8 Try.underlying23 hj hy0 hy1 hy2 rfl (by decide) (.slice A ld.length c) ld.length (nums .i64 ld) rfl (HOW0.out.alloc _) ⟨W0.heap.size, 0, none⟩ 1 1 [.int .i64 x1] rfl rfl (new_cell _ _ _) (one_cell _ _) (by decide) (by have := HLL.out; unfold maxLen; omega) (by have := HLL.out; omega) (by have := HSZ.out; simp; omega) _ rfl ?_
          intro g cap w1 hown1 hgrow hat hlt1
          exact hK _ _ trivial (ApT.mk2 (by rw [hLs]; decide) (by decide) h25 ⟨hown1, hgrow, by simpa using hat, hlt1⟩)
        | 12, ho =>
          obtain rfl := Option.some.inj ho
          have h25 : L.getD 13 false = false := by
            cases h : L.getD 13 false
            · rfl
            · have := hC 13 _ rfl h ⟨12, .data⟩ (by simp) rfl
              rw [hun] at this; cases this
          obtain ⟨f0, f1, f2, f3⟩ := HCELL.out _ _ _ hT h25
          simp only [Inv.fill, Act.put, List.setIfInBounds_toArray, List.set_cons_zero, List.set_cons_succ] at hK ⊢
          clear hd ho hdone
          rw [wpOp]
          refine (if_pos rfl).mpr (.inl ?_)
          go_simp
          exact hK _ _ rfl (ApT.same (by decide) (by decide) (by decide) hT)
        | 13, ho =>
          obtain rfl := Option.some.inj ho
          have h25 := hun
          obtain ⟨f0, f1, f2, f3⟩ := HCELL.out _ _ _ hT h25
          have e12 : x 12 = .pointer (some ⟨w2.heap.size, 3, none⟩) := (hd ⟨12, .data⟩ (by simp) rfl).2
          obtain ⟨g, cap, eA, hG⟩ := ApT.at2 hT h25 (hd ⟨11, .data⟩ (by simp) rfl).1
          simp only [Inv.fill, Act.put, List.setIfInBounds_toArray, List.set_cons_zero, List.set_cons_succ, e12, eA] at hK ⊢
          clear hd ho hdone e12 eA
          rw [wpOp]
          refine (if_pos rfl).mpr (.inl ?_)
          go_simp
          exact hK undef _ trivial (ApT.mk3 (by rw [hLs]; decide) hG)
        | n + 14, ho => simp at ho
      · intro x L W' hall hT hx
        obtain ⟨g, cap, w1, hG, rfl⟩ := hT.at3 (hall 13 (by decide))
        simp only [Inv.fill, Act.put, List.setIfInBounds_toArray, List.set_cons_zero, List.set_cons_succ]
        clear hx hall hT
        have hoj := OJ.pushD HIN.out HLJ.out HN.out HWX.out HSZ.out HR1.out HR2.out HAP.out hG
        clear hG
        generalize (World.setCell w1 _ _) = Wm at *
        have HOJ := Lib.hid hoj
        clear hoj HLJ HR1 HR2 HAP HW0 HSZ HCELL HOW0
        have hlj := HOJ.out
        obtain ⟨hlj, hN, hw, hsz, A, c, A', c', hR1, hR2, hAP⟩ := hlj
        clear HOJ
        obtain ⟨W0, hW0⟩ : ∃ W0, Wm.drew = W0 := ⟨_, rfl⟩
        have HW0 := Lib.hid hW0
        have HLJ : Hid (LJ w W0 w.heap.size v) := Lib.hid (by rw [← hW0]; exact hlj.drew)
        have HSZ : Hid (w2.heap.size + 2 ≤ W0.heap.size) := Lib.hid (by rw [← hW0]; exact hsz)
        have HR1 : Hid (Rw W0 (w2.heap.size + 2) w2.heap.size v A c (ld ++ [x1])) := Lib.hid (by rw [← hW0]; exact ⟨hR1.own.drew, hR1.box.drew, hR1.fr⟩)
        have HR2 : Hid (Rw W0 (w2.heap.size + 2) (w2.heap.size + 1) v A' c' le) := Lib.hid (by rw [← hW0]; exact ⟨hR2.own.drew, hR2.box.drew, hR2.fr⟩)
        have HAP := Lib.hid hAP
        have HOW0 := Lib.hid HR2.out.own
        clear HLL
        have HLL := Lib.hid HLE.out
        have hO2 := HO2.out
        have hbB2 := HB2.out
        have hcell2 := HC2.out
        have HCELL : Hid (∀ L x w', ApT W0 ⟨w2.heap.size + 1, 3, none⟩ (w2.heap.size + 2) 3 1 le.length (.slice A' le.length c') (nums .i64 le ++ [.int .i64 x2]) (.cells #[.int .i64 x2] 3) 11 12 14 L x w' → L.getD 14 false = false → w'.cell? ⟨w.heap.size, 3, none⟩ = some (.slice (some ⟨b2, o2, none⟩) v.c.order.length v.co) ∧ w'.cell? ⟨b2, o2 + d2, none⟩ = some (.int .i64 x2) ∧ w'.cell? ⟨w2.heap.size + 1, 3, none⟩ = some (.slice A' le.length c') ∧ w'.frozen? ⟨w2.heap.size + 1, 3, none⟩ = false) := Lib.hid fun L x w' h h3 => by
          have kp := fun Y hY hne => h.keep h3 Y hY hne
          have nb : ∀ Y, Y < w2.heap.size + 2 → some Y ≠ (Value.slice A' le.length c').ownBlock := fun Y hY e => by have := (HR2.out.own.lt Y e.symm).1; omega
          have q0 := HSZ.out
          have q1 := HN.out
          have q2 := HWX.out
          refine ⟨(World.cell?_of_block (kp w.heap.size (by omega) (nb _ (by omega)))).trans ?_, (World.cell?_of_block (kp b2 (by omega) (nb _ (by omega)))).trans ?_, (World.cell?_of_block (kp (w2.heap.size + 1) (by omega) (nb _ (by omega)))).trans HR2.out.box.c3, (World.frozen?_of_block (kp (w2.heap.size + 1) (by omega) (nb _ (by omega)))).trans (HR2.out.fr 3)⟩
          · rw [← hO2]; exact HLJ.out.box.c3
          · exact (HLJ.out.below.cell (p := ⟨b2, o2 + d2, none⟩) hbB2).trans hcell2
        clear hlj hN hw hsz hR1 hR2 hAP hW0 hO2 hbB2 hcell2
        go_wp2
        refine Inv.wp_region_stage (PushF2 w.heap.size (w2.heap.size + 1) A' le.length c' b2 o2 v.c.order.length v.co d2 W0.heap.size x2 s1 j kk) (ApT W0 ⟨w2.heap.size + 1, 3, none⟩ (w2.heap.size + 2) 3 1 le.length (.slice A' le.length c') (nums .i64 le ++ [.int .i64 x2]) (.cells #[.int .i64 x2] 3) 11 12 14) (by kernel_rfl) (by kernel_rfl) (by kernel_rfl) (fun x => by rw [HW0.out]; exact ApT.start _) ?_ ?_
        · intro i o' L x W K ho hLs hC hun hd hdone hT hK
          match i, ho with
          | 0, ho =>
            obtain rfl := Option.some.inj ho
            have h25 : L.getD 14 false = false := by
              cases h : L.getD 14 false
              · rfl
              · have := hC 14 _ rfl h ⟨0, .phase⟩ (by simp) rfl
                rw [hun] at this; cases this
            obtain ⟨f0, f1, f2, f3⟩ := HCELL.out _ _ _ hT h25
            simp only [Inv.fill, Act.put, List.setIfInBounds_toArray, List.set_cons_zero, List.set_cons_succ] at hK ⊢
            clear hd ho hdone
            rw [wpOp]
            refine (if_pos rfl).mpr (.inl ?_)
            go_simp
            exact hK _ _ rfl (ApT.same (by decide) (by decide) (by decide) hT)
          | 1, ho =>
            obtain rfl := Option.some.inj ho
            have h25 : L.getD 14 false = false := by
              cases h : L.getD 14 false
              · rfl
              · have := hC 14 _ rfl h ⟨1, .phase⟩ (by simp) rfl
                rw [hun] at this; cases this
            obtain ⟨f0, f1, f2, f3⟩ := HCELL.out _ _ _ hT h25
            have e0 : x 0 = .pointer (some ⟨w2.heap.size + 1, 3, none⟩) := (hd ⟨0, .data⟩ (by simp) rfl).2
            simp only [Inv.fill, Act.put, List.setIfInBounds_toArray, List.set_cons_zero, List.set_cons_succ, e0] at hK ⊢
            clear hd ho hdone e0
            rw [wpOp]
            refine (if_pos rfl).mpr (.inl ?_)
            go_simp
            exact hK _ _ rfl (ApT.same (by decide) (by decide) (by decide) hT)
          | 2, ho =>
            obtain rfl := Option.some.inj ho
            have h25 : L.getD 14 false = false := by
              cases h : L.getD 14 false
              · rfl
              · have := hC 14 _ rfl h ⟨2, .phase⟩ (by simp) rfl
                rw [hun] at this; cases this
            obtain ⟨f0, f1, f2, f3⟩ := HCELL.out _ _ _ hT h25
            simp only [Inv.fill, Act.put, List.setIfInBounds_toArray, List.set_cons_zero, List.set_cons_succ] at hK ⊢
            clear hd ho hdone
            rw [wpOp]
            refine (if_pos rfl).mpr (.inl ?_)
            go_simp
            exact hK _ _ rfl (ApT.same (by decide) (by decide) (by decide) hT)
          | 3, ho =>
            obtain rfl := Option.some.inj ho
            have h25 : L.getD 14 false = false := by
              cases h : L.getD 14 false
              · rfl
              · have := hC 14 _ rfl h ⟨3, .phase⟩ (by simp) rfl
                rw [hun] at this; cases this
            obtain ⟨f0, f1, f2, f3⟩ := HCELL.out _ _ _ hT h25
            have e2 : x 2 = .pointer (some ⟨w.heap.size, 3, none⟩) := (hd ⟨2, .data⟩ (by simp) rfl).2
            simp only [Inv.fill, Act.put, List.setIfInBounds_toArray, List.set_cons_zero, List.set_cons_succ, e2] at hK ⊢
            clear hd ho hdone e2
            rw [wpOp]
            refine (if_pos rfl).mpr (.inl ?_)
            go_simp
            exact hK _ _ rfl (ApT.same (by decide) (by decide) (by decide) hT)
          | 4, ho =>
            obtain rfl := Option.some.inj ho
            have h25 : L.getD 14 false = false := by
              cases h : L.getD 14 false
              · rfl
              · have := hC 14 _ rfl h ⟨4, .phase⟩ (by simp) rfl
                rw [hun] at this; cases this
            obtain ⟨f0, f1, f2, f3⟩ := HCELL.out _ _ _ hT h25
            simp only [Inv.fill, Act.put, List.setIfInBounds_toArray, List.set_cons_zero, List.set_cons_succ] at hK ⊢
            clear hd ho hdone
            rw [wpOp]
            refine (if_pos rfl).mpr (.inl ?_)
            go_simp
            exact hK _ _ rfl (ApT.same (by decide) (by decide) (by decide) hT)
          | 5, ho =>
            obtain rfl := Option.some.inj ho
            have h25 : L.getD 14 false = false := by
              cases h : L.getD 14 false
              · rfl
              · have := hC 14 _ rfl h ⟨5, .phase⟩ (by simp) rfl
                rw [hun] at this; cases this
            obtain ⟨f0, f1, f2, f3⟩ := HCELL.out _ _ _ hT h25
            simp only [Inv.fill, Act.put, List.setIfInBounds_toArray, List.set_cons_zero, List.set_cons_succ] at hK ⊢
            clear hd ho hdone
            rw [wpOp]
            refine (if_pos rfl).mpr (.inl ?_)
            go_simp
            exact hK _ _ rfl (ApT.same (by decide) (by decide) (by decide) hT)
          | 6, ho =>
            obtain rfl := Option.some.inj ho
            have h25 : L.getD 14 false = false := by
              cases h : L.getD 14 false
              · rfl
              · have := hC 14 _ rfl h ⟨6, .phase⟩ (by simp) rfl
                rw [hun] at this; cases this
            obtain ⟨f0, f1, f2, f3⟩ := HCELL.out _ _ _ hT h25
            have e4 : x 4 = .int .i64 (j : Int) := (hd ⟨4, .data⟩ (by simp) rfl).2
            have e5 : x 5 = .int .i64 (kk : Int) := (hd ⟨5, .data⟩ (by simp) rfl).2
            simp only [Inv.fill, Act.put, List.setIfInBounds_toArray, List.set_cons_zero, List.set_cons_succ, e4, e5] at hK ⊢
            clear hd ho hdone e4 e5
            rw [wpOp]
            refine (if_pos rfl).mpr (.inl ?_)
            go_simp
            exact hK _ _ (congrArg (Value.int .i64) E3.out) (ApT.same (by decide) (by decide) (by decide) hT)
          | 7, ho =>
            obtain rfl := Option.some.inj ho
            have h25 : L.getD 14 false = false := by
              cases h : L.getD 14 false
              · rfl
              · have := hC 14 _ rfl h ⟨7, .phase⟩ (by simp) rfl
                rw [hun] at this; cases this
            obtain ⟨f0, f1, f2, f3⟩ := HCELL.out _ _ _ hT h25
            simp only [Inv.fill, Act.put, List.setIfInBounds_toArray, List.set_cons_zero, List.set_cons_succ] at hK ⊢
            clear hd ho hdone
            rw [wpOp]
            refine (if_pos rfl).mpr (.inl ?_)
            go_simp
            exact hK _ _ rfl (ApT.same (by decide) (by decide) (by decide) hT)
          | 8, ho =>
            obtain rfl := Option.some.inj ho
            have h25 : L.getD 14 false = false := by
              cases h : L.getD 14 false
              · rfl
              · have := hC 14 _ rfl h ⟨8, .phase⟩ (by simp) rfl
                rw [hun] at this; cases this
            obtain ⟨f0, f1, f2, f3⟩ := HCELL.out _ _ _ hT h25
            have e6 : x 6 = .int .i64 (s1 : Int) := (hd ⟨6, .data⟩ (by simp) rfl).2
            have e7 : x 7 = .int .i64 (v.c.order.length : Int) := (hd ⟨7, .data⟩ (by simp) rfl).2
            simp only [Inv.fill, Act.put, List.setIfInBounds_toArray, List.set_cons_zero, List.set_cons_succ, e6, e7] at hK ⊢
            clear hd ho hdone e6 e7
            rw [wpOp]
            refine (if_pos rfl).mpr (.inl ?_)
            go_simp
            exact hK _ _ (by first | exact congrArg (Value.int .i64) E4.out | exact congrArg (Value.int .i64) E5.out | exact congrArg (Value.int .i64) E6.out | rfl) (ApT.same (by decide) (by decide) (by decide) hT)
          | 9, ho =>
            obtain rfl := Option.some.inj ho
            have h25 : L.getD 14 false = false := by
              cases h : L.getD 14 false
              · rfl
              · have := hC 14 _ rfl h ⟨9, .phase⟩ (by simp) rfl
                rw [hun] at this; cases this
            obtain ⟨f0, f1, f2, f3⟩ := HCELL.out _ _ _ hT h25
            have e3 : x 3 = .slice (some ⟨b2, o2, none⟩) v.c.order.length v.co := (hd ⟨3, .data⟩ (by simp) rfl).2
            have e8 : x 8 = .int .i64 (d2 : Int) := (hd ⟨8, .data⟩ (by simp) rfl).2
            simp only [Inv.fill, Act.put, List.setIfInBounds_toArray, List.set_cons_zero, List.set_cons_succ, e3, e8] at hK ⊢
            clear hd ho hdone e3 e8
            rw [wpOp]
            refine (if_pos rfl).mpr (.inl ?_)
            go_simp
            exact hK _ _ rfl (ApT.same (by decide) (by decide) (by decide) hT)
          | 10, ho =>
            obtain rfl := Option.some.inj ho
            have h25 : L.getD 14 false = false := by
              cases h : L.getD 14 false
              · rfl
              · have := hC 14 _ rfl h ⟨10, .phase⟩ (by simp) rfl
                rw [hun] at this; cases this
            obtain ⟨f0, f1, f2, f3⟩ := HCELL.out _ _ _ hT h25
            have e9 : x 9 = .pointer (some ⟨b2, o2 + d2, none⟩) := (hd ⟨9, .data⟩ (by simp) rfl).2
            simp only [Inv.fill, Act.put, List.setIfInBounds_toArray, List.set_cons_zero, List.set_cons_succ, e9] at hK ⊢
            clear hd ho hdone e9
            rw [wpOp]
            refine (if_pos rfl).mpr (.inl ?_)
            go_simp
            exact hK _ _ rfl (ApT.same (by decide) (by decide) (by decide) hT)
          | 11, ho =>
            obtain rfl := Option.some.inj ho
            have h25 : L.getD 14 false = false := by
              cases h : L.getD 14 false
              · rfl
              · have := hC 14 _ rfl h ⟨11, .phase⟩ (by simp) rfl
                rw [hun] at this; cases this
            obtain ⟨f0, f1, f2, f3⟩ := HCELL.out _ _ _ hT h25
            have e10 : x 10 = .int .i64 x2 := (hd ⟨10, .data⟩ (by simp) rfl).2
            have h23 : L.getD 12 false = false := by
              cases h : L.getD 12 false
              · rfl
              · have := hC 12 _ rfl h ⟨11, .data⟩ (by simp) rfl
                rw [hun] at this; cases this
            obtain rfl := ApT.at0 hT h25 h23 hun
            simp only [Inv.fill, Act.put, List.setIfInBounds_toArray, List.set_cons_zero, List.set_cons_succ, e10] at hK ⊢
            clear hd ho hdone e10
            rw [wpOp]
            refine (if_pos rfl).mpr (.inl ?_)
            go_simp
            exact hK _ _ rfl (ApT.mk1 (by rw [hLs]; decide) (by decide) (by decide) h25 h23)
          | 12, ho =>
            obtain rfl := Option.some.inj ho
            have h25 : L.getD 14 false = false := by
              cases h : L.getD 14 false
              · rfl
              · have := hC 14 _ rfl h ⟨12, .data⟩ (by simp) rfl
                rw [hun] at this; cases this
            obtain ⟨f0, f1, f2, f3⟩ := HCELL.out _ _ _ hT h25
            have e1 : x 1 = .slice A' le.length c' := (hd ⟨1, .data⟩ (by simp) rfl).2
            have e11 : x 11 = .slice (some ⟨W0.heap.size, 0, none⟩) 1 1 := (hd ⟨11, .data⟩ (by simp) rfl).2
            obtain rfl := ApT.at1 hT h25 hun (hd ⟨11, .data⟩ (by simp) rfl).1
            simp only [Inv.fill, Act.put, List.setIfInBounds_toArray, List.set_cons_zero, List.set_cons_succ, e1, e11] at hK ⊢
            clear hd ho hdone e1 e11
            rw [wpOp]
            refine (if_pos rfl).mpr (.inl ?_)
            refine wp_append_lies _ _ _ 23 rfl (w2.heap.size + 2) 3 i1 _ 1 8 Try.underlying23 hj hy0 hy1 hy2 rfl (by decide) (.slice A' le.length c') le.length (nums .i64 le) rfl (HOW0.out.alloc _) ⟨W0.heap.size, 0, none⟩ 1 1 [.int .i64 x2] rfl rfl (new_cell _ _ _) (one_cell _ _) (by decide) (by have := HLL.out; unfold maxLen; omega) (by have := HLL.out; omega) (by have := HSZ.out; simp; omega) _ rfl ?_
            intro g cap w1 hown1 hgrow hat hlt1
            exact hK _ _ trivial (ApT.mk2 (by rw [hLs]; decide) (by decide) h25 ⟨hown1, hgrow, by simpa using hat, hlt1⟩)
          | 13, ho =>
            obtain rfl := Option.some.inj ho
            have h25 : L.getD 14 false = false := by
              cases h : L.getD 14 false
              · rfl
              · have := hC 14 _ rfl h ⟨13, .data⟩ (by simp) rfl
                rw [hun] at this; cases this
            obtain ⟨f0, f1, f2, f3⟩ := HCELL.out _ _ _ hT h25
            simp only [Inv.fill, Act.put, List.setIfInBounds_toArray, List.set_cons_zero, List.set_cons_succ] at hK ⊢
            clear hd ho hdone
            rw [wpOp]
            refine (if_pos rfl).mpr (.inl ?_)
            go_simp
            exact hK _ _ rfl (ApT.same (by decide) (by decide) (by decide) hT)
          | 14, ho =>
            obtain rfl := Option.some.inj ho
            have h25 := hun
            obtain ⟨f0, f1, f2, f3⟩ := HCELL.out _ _ _ hT h25
            have e13 : x 13 = .pointer (some ⟨w2.heap.size + 1, 3, none⟩) := (hd ⟨13, .data⟩ (by simp) rfl).2
            obtain ⟨g, cap, eA, hG⟩ := ApT.at2 hT h25 (hd ⟨12, .data⟩ (by simp) rfl).1
            simp only [Inv.fill, Act.put, List.setIfInBounds_toArray, List.set_cons_zero, List.set_cons_succ, e13, eA] at hK ⊢
            clear hd ho hdone e13 eA
            rw [wpOp]
            refine (if_pos rfl).mpr (.inl ?_)
            go_simp
            exact hK undef _ trivial (ApT.mk3 (by rw [hLs]; decide) hG)
          | n + 15, ho => simp at ho
        · intro x L W' hall hT hx
          obtain ⟨g, cap, w1, hG, rfl⟩ := hT.at3 (hall 14 (by decide))
          simp only [Inv.fill, Act.put, List.setIfInBounds_toArray, List.set_cons_zero, List.set_cons_succ]
          clear hx hall hT
          have hoj2 := OJ.pushE HIN.out HLJ.out HN.out HWX.out HSZ.out HR1.out HR2.out HAP.out hG
          clear hG
          generalize (World.setCell w1 _ _) = Wn at *
          have HOJ2 := Lib.hid hoj2
          clear hoj2
          go_wp2
          go_roundw
          case rel => exact ⟨j + 1, by omega, by go_num, by rw [HD1.out, HD2.out]; exact HOJ2.out⟩
          case measure => simp [intOf]; omega
    · have hje : j = v.c.order.length := by omega
      subst hje
      have hrl : v.c.order.reverse.take v.c.order.length = v.c.order.reverse := List.take_of_length_le (by simp)
      have htl : (v.c.order.drop kk ++ v.c.order.take kk).take v.c.order.length = v.c.order.drop kk ++ v.c.order.take kk := List.take_of_length_le (by rw [List.length_append, List.length_drop, List.length_take]; have := HKK.out; omega)
      have hoj := HOJ.out
      rw [hrl, htl] at hoj
      obtain ⟨hlj, hN, hw, hsz, A, c, A', c', hR1, hR2, hAP⟩ := hoj
      have hl1 : v.c.order.reverse.length ≤ 1000 := by rw [List.length_reverse]; have := HL.out; omega
      have hl2 : (v.c.order.drop kk ++ v.c.order.take kk).length ≤ 1000 := by rw [List.length_append, List.length_drop, List.length_take]; have := HL.out; have := HKK.out; omega
      have hsm2 := (smB_iff v).1 HS.out
      obtain ⟨q, hq⟩ : ∃ q, mayC v.c = q := ⟨_, rfl⟩
      have hqd : mayC (cO v.c v.c.order.reverse) = q := by rw [mayO _ _ (once_reverse _ _)]; exact hq
      have hqe : mayC (cO v.c (v.c.order.drop kk ++ v.c.order.take kk)) = q := by rw [mayO _ _ (once_rotate _ _ _)]; exact hq
      clear hrl htl
      generalize v.c.order.reverse = l1 at hR1 hR2 hAP hl1 hqd
      generalize v.c.order.drop kk ++ v.c.order.take kk = l2 at hR2 hAP hl2 hqe
      have K0 : Hid (KJ w wr w.heap.size w2.heap.size v A A' c c' l1 l2) := Lib.hid ⟨hlj, hR1, hR2, hl1, hl2⟩
      clear HOJ hlj hN hw hsz hR1 hR2 hAP
      have C1 : Hid (∀ W, Hid (KJ w W w.heap.size w2.heap.size v A A' c c' (l1) (l2)) → Calls Try.prog 11 #[.agg #[.slice v.A v.c.banks.length v.cb, .int .i64 v.c.floors, .int .i64 v.c.home, .slice v.O v.c.order.length v.co, .int .i64 v.c.speed, .int .i64 v.c.width, .int .i64 v.c.dwell, .int .i64 v.c.good, .int .i64 v.c.dead, .int .i64 v.c.lag, .int .i64 v.c.turn, .int .i64 v.c.cost, .int .i64 v.c.full]] W fun e W' => e = .returned (.bool q) ∧ Hid (KJ w W' w.heap.size w2.heap.size v A A' c c' (l1) (l2))) := Lib.hid fun W h => by
        have := kj_of h (Check_conf v (by omega) (by omega) W h.out.lj.inn); rw [hq] at this; exact this
      have C2 : Hid (∀ W, Hid (KJ w W w.heap.size w2.heap.size v A A' c c' (l1) (l2)) → Calls Try.prog 11 #[.agg #[.slice v.A v.c.banks.length v.cb, .int .i64 v.c.floors, .int .i64 v.c.home, .slice A l1.length c, .int .i64 v.c.speed, .int .i64 v.c.width, .int .i64 v.c.dwell, .int .i64 v.c.good, .int .i64 v.c.dead, .int .i64 v.c.lag, .int .i64 v.c.turn, .int .i64 v.c.cost, .int .i64 v.c.full]] W fun e W' => e = .returned (.bool q) ∧ Hid (KJ w W' w.heap.size w2.heap.size v A A' c c' (l1) (l2))) := Lib.hid fun W h => by
        have := kj_of h (Check_conf (vO v A c l1) (by show v.c.banks.length ≤ 1000; omega) hl1 W h.out.din); rw [show mayC (vO v A c l1).c = q from hqd] at this; exact this
      have C3 : Hid (∀ W, Hid (KJ w W w.heap.size w2.heap.size v A A' c c' (l1) (l2)) → Calls Try.prog 11 #[.agg #[.slice v.A v.c.banks.length v.cb, .int .i64 v.c.floors, .int .i64 v.c.home, .slice A' l2.length c', .int .i64 v.c.speed, .int .i64 v.c.width, .int .i64 v.c.dwell, .int .i64 v.c.good, .int .i64 v.c.dead, .int .i64 v.c.lag, .int .i64 v.c.turn, .int .i64 v.c.cost, .int .i64 v.c.full]] W fun e W' => e = .returned (.bool q) ∧ Hid (KJ w W' w.heap.size w2.heap.size v A A' c c' (l1) (l2))) := Lib.hid fun W h => by
        have := kj_of h (Check_conf (vO v A' c' l2) (by show v.c.banks.length ≤ 1000; omega) hl2 W h.out.ein); rw [show mayC (vO v A' c' l2).c = q from hqe] at this; exact this
      have HQ := Lib.hid hq
      have HQD := Lib.hid hqd
      have HQE := Lib.hid hqe
      have eq1 : (q != q) = false := by simp
      clear hq hqd hqe hsm2 hl1 hl2 hk hk2
      have k0 := K0.out.lj
      obtain ⟨a0, a1, a2, a3, a4, a5, a6, a7, a8, a9, a10, a11, a12⟩ := lj_all (Lib.hid k0)
      clear k0
      go_wp2_with (first
        | (go_at_call 11; (with_reducible refine (C1.out _ K0).mono ?_); clear K0 a0 a1 a2 a3 a4 a5 a6 a7 a8 a9 a10 a11 a12; rintro e w5 ⟨rfl, K1⟩; obtain ⟨a0, a1, a2, a3, a4, a5, a6, a7, a8, a9, a10, a11, a12⟩ := kd_all K1)
        | (go_at_call 11; (with_reducible refine (C2.out _ K1).mono ?_); clear K1 a0 a1 a2 a3 a4 a5 a6 a7 a8 a9 a10 a11 a12; rintro e w6 ⟨rfl, K2⟩; obtain ⟨a0, a1, a2, a3, a4, a5, a6, a7, a8, a9, a10, a11, a12⟩ := ke_all K2)
        | (go_at_call 11; (with_reducible refine (C3.out _ K2).mono ?_); clear K2 a0 a1 a2 a3 a4 a5 a6 a7 a8 a9 a10 a11 a12; rintro e w7 ⟨rfl, K3⟩; have k3 := K3.out.lj; obtain ⟨a0, a1, a2, a3, a4, a5, a6, a7, a8, a9, a10, a11, a12⟩ := lj_all (Lib.hid k3); clear k3))
      clear C1 C2 C3 eq1 a0 a1 a2 a3 a4 a5 a6 a7 a8 a9 a10 a11 a12
      cases q
      · go_quiet (fail)
        go_wp2
        go_ret
        exact ⟨rfl, Con.below_mono K3.out.lj.below (below_drewN (Below.refl _ _) _)⟩
      · have hm : v.c.May := (mayC_iff v.c).1 HQ.out
        have hmd : (cO v.c l1).May := (mayC_iff _).1 HQD.out
        have hme : (cO v.c l2).May := (mayC_iff _).1 HQE.out
        have hL1 := fun W (h : V.In W v) => Limit_any v hm blocked W h
        have hL2 := fun W (h : V.In W (vO v A c l1)) => Limit_any (vO v A c l1) hmd blocked W h
        have hB1 := fun W => Back_any v hm blocked W
        have hB2 := fun W => Back_any (vO v A' c' l2) hme blocked W
        rw [show limit (vO v A c l1).c blocked = limit v.c blocked from rfl] at hL2
        rw [show back (vO v A' c' l2).c blocked = back v.c blocked from rfl] at hB2
        generalize limit v.c blocked = lm at hL1 hL2
        generalize back v.c blocked = bt at hB1 hB2
        have HL1 := Lib.hid hL1
        have HL2 := Lib.hid hL2
        have HB1 := Lib.hid hB1
        have HB2 := Lib.hid hB2
        have HT := K3
        clear hm hmd hme hL1 hL2 hB1 hB2 K3
        refine Inv.wp_region_inv (OrdersF w.heap.size w2.heap.size (w2.heap.size + 1) v A A' c c' (l1) (l2) blocked lm bt) (by kernel_rfl) (by kernel_rfl) (by kernel_rfl) ?_ ?_ ?_
        · intro i v W W' _ h hb
          unfold OrdersF at h ⊢
          split at h <;> first | exact h | exact NewRow.next h hb
        · intro i o x W K ho hB hd hK
          match i, ho with
          | 0, ho =>
            obtain rfl := Option.some.inj ho
            simp only [Inv.fill, Act.put, List.setIfInBounds_toArray, List.set_cons_zero, List.set_cons_succ] at hK ⊢
            clear hd ho
            rw [wpOp]
            refine (if_pos rfl).mpr (.inl ?_)
            go_simp
            exact hK _ _ (Below.refl _ _) rfl
          | 1, ho =>
            obtain rfl := Option.some.inj ho
            have e0 : x 0 = .bool true := hd ⟨0, .data⟩ (by simp) rfl
            simp only [Inv.fill, Act.put, List.setIfInBounds_toArray, List.set_cons_zero, List.set_cons_succ, e0] at hK ⊢
            clear hd ho e0
            rw [wpOp]
            refine (if_pos rfl).mpr (.inl ?_)
            go_simp
            exact hK _ _ (Below.refl _ _) rfl
          | 2, ho =>
            obtain rfl := Option.some.inj ho
            have e1 : x 1 = .bool false := hd ⟨1, .data⟩ (by simp) rfl
            simp only [Inv.fill, Act.put, List.setIfInBounds_toArray, List.set_cons_zero, List.set_cons_succ, e1] at hK ⊢
            clear hd ho e1
            rw [wpOp]
            refine (if_pos rfl).mpr (.inl ?_)
            go_simp
            exact hK _ _ (Below.refl _ _) rfl
          | 3, ho =>
            obtain rfl := Option.some.inj ho
            have e2 : x 2 = .bool false := hd ⟨2, .guard⟩ (by simp) rfl
            simp only [Inv.fill, Act.put, List.setIfInBounds_toArray, List.set_cons_zero, List.set_cons_succ, e2] at hK ⊢
            clear hd ho e2
            rw [wpOp]
            refine (if_pos rfl).mpr (.inl ?_)
            have g0 := (HT.out.next hB).lj.box.c0
            have g1 := (HT.out.next hB).lj.box.c1
            have g2 := (HT.out.next hB).lj.box.c2
            have g3 := (HT.out.next hB).lj.box.c3
            have g4 := (HT.out.next hB).lj.box.c4
            have g5 := (HT.out.next hB).lj.box.c5
            have g6 := (HT.out.next hB).lj.box.c6
            have g7 := (HT.out.next hB).lj.box.c7
            have g8 := (HT.out.next hB).lj.box.c8
            have g9 := (HT.out.next hB).lj.box.c9
            have g10 := (HT.out.next hB).lj.box.c10
            have g11 := (HT.out.next hB).lj.box.c11
            have g12 := (HT.out.next hB).lj.box.c12
            go_simp
            exact hK _ _ (Below.refl _ _) rfl
          | 4, ho =>
            obtain rfl := Option.some.inj ho
            have e2 : x 2 = .bool false := hd ⟨2, .guard⟩ (by simp) rfl
            simp only [Inv.fill, Act.put, List.setIfInBounds_toArray, List.set_cons_zero, List.set_cons_succ, e2] at hK ⊢
            clear hd ho e2
            rw [wpOp]
            refine (if_pos rfl).mpr (.inl ?_)
            go_simp
            exact hK _ _ (Below.refl _ _) rfl
          | 5, ho =>
            obtain rfl := Option.some.inj ho
            have e3 : x 3 = .agg #[.slice v.A v.c.banks.length v.cb, .int .i64 v.c.floors, .int .i64 v.c.home, .slice v.O v.c.order.length v.co, .int .i64 v.c.speed, .int .i64 v.c.width, .int .i64 v.c.dwell, .int .i64 v.c.good, .int .i64 v.c.dead, .int .i64 v.c.lag, .int .i64 v.c.turn, .int .i64 v.c.cost, .int .i64 v.c.full] := hd ⟨3, .data⟩ (by simp) rfl
            have e4 : x 4 = .int .i64 blocked := hd ⟨4, .data⟩ (by simp) rfl
            have e2 : x 2 = .bool false := hd ⟨2, .chain⟩ (by simp) rfl
            simp only [Inv.fill, Act.put, List.setIfInBounds_toArray, List.set_cons_zero, List.set_cons_succ, e3, e4, e2] at hK ⊢
            clear hd ho e3 e4 e2
            rw [wpOp]
            refine (if_pos rfl).mpr (.inl ?_)
            have hc := HL1.out W (HT.out.next hB).lj.inn
            go_simp
            refine hc.mono ?_
            rintro e w2 ⟨rfl, hb2⟩
            exact hK _ _ hb2 rfl
          | 6, ho =>
            obtain rfl := Option.some.inj ho
            have e2 : x 2 = .bool false := hd ⟨2, .guard⟩ (by simp) rfl
            simp only [Inv.fill, Act.put, List.setIfInBounds_toArray, List.set_cons_zero, List.set_cons_succ, e2] at hK ⊢
            clear hd ho e2
            rw [wpOp]
            refine (if_pos rfl).mpr (.inl ?_)
            have g0 := (HT.out.next hB).d.box.c0
            have g1 := (HT.out.next hB).d.box.c1
            have g2 := (HT.out.next hB).d.box.c2
            have g3 := (HT.out.next hB).d.box.c3
            have g4 := (HT.out.next hB).d.box.c4
            have g5 := (HT.out.next hB).d.box.c5
            have g6 := (HT.out.next hB).d.box.c6
            have g7 := (HT.out.next hB).d.box.c7
            have g8 := (HT.out.next hB).d.box.c8
            have g9 := (HT.out.next hB).d.box.c9
            have g10 := (HT.out.next hB).d.box.c10
            have g11 := (HT.out.next hB).d.box.c11
            have g12 := (HT.out.next hB).d.box.c12
            go_simp
            exact hK _ _ (Below.refl _ _) rfl
          | 7, ho =>
            obtain rfl := Option.some.inj ho
            have e2 : x 2 = .bool false := hd ⟨2, .guard⟩ (by simp) rfl
            simp only [Inv.fill, Act.put, List.setIfInBounds_toArray, List.set_cons_zero, List.set_cons_succ, e2] at hK ⊢
            clear hd ho e2
            rw [wpOp]
            refine (if_pos rfl).mpr (.inl ?_)
            go_simp
            exact hK _ _ (Below.refl _ _) rfl
          | 8, ho =>
            obtain rfl := Option.some.inj ho
            have e6 : x 6 = .agg #[.slice v.A v.c.banks.length v.cb, .int .i64 v.c.floors, .int .i64 v.c.home, .slice A l1.length c, .int .i64 v.c.speed, .int .i64 v.c.width, .int .i64 v.c.dwell, .int .i64 v.c.good, .int .i64 v.c.dead, .int .i64 v.c.lag, .int .i64 v.c.turn, .int .i64 v.c.cost, .int .i64 v.c.full] := hd ⟨6, .data⟩ (by simp) rfl
            have e7 : x 7 = .int .i64 blocked := hd ⟨7, .data⟩ (by simp) rfl
            have e2 : x 2 = .bool false := hd ⟨2, .guard⟩ (by simp) rfl
            simp only [Inv.fill, Act.put, List.setIfInBounds_toArray, List.set_cons_zero, List.set_cons_succ, e6, e7, e2] at hK ⊢
            clear hd ho e6 e7 e2
            rw [wpOp]
            refine (if_pos rfl).mpr (.inl ?_)
            have hc := HL2.out W (HT.out.next hB).din
            go_simp
            refine hc.mono ?_
            rintro e w2 ⟨rfl, hb2⟩
            exact hK _ _ hb2 rfl
          | 9, ho =>
            obtain rfl := Option.some.inj ho
            have e5 : x 5 = .int .i64 lm := hd ⟨5, .data⟩ (by simp) rfl
            have e8 : x 8 = .int .i64 lm := hd ⟨8, .data⟩ (by simp) rfl
            have e2 : x 2 = .bool false := hd ⟨2, .guard⟩ (by simp) rfl
            simp only [Inv.fill, Act.put, List.setIfInBounds_toArray, List.set_cons_zero, List.set_cons_succ, e5, e8, e2] at hK ⊢
            clear hd ho e5 e8 e2
            rw [wpOp]
            refine (if_pos rfl).mpr (.inl ?_)
            go_simp
            exact hK _ _ (Below.refl _ _) (show Value.bool _ = Value.bool true by simp)
          | 10, ho =>
            obtain rfl := Option.some.inj ho
            have e9 : x 9 = .bool true := hd ⟨9, .data⟩ (by simp) rfl
            have e2 : x 2 = .bool false := hd ⟨2, .guard⟩ (by simp) rfl
            simp only [Inv.fill, Act.put, List.setIfInBounds_toArray, List.set_cons_zero, List.set_cons_succ, e9, e2] at hK ⊢
            clear hd ho e9 e2
            rw [wpOp]
            refine (if_pos rfl).mpr (.inl ?_)
            go_simp
            exact hK _ _ (Below.refl _ _) rfl
          | 11, ho =>
            obtain rfl := Option.some.inj ho
            have e10 : x 10 = .bool true := hd ⟨10, .guard⟩ (by simp) rfl
            simp only [Inv.fill, Act.put, List.setIfInBounds_toArray, List.set_cons_zero, List.set_cons_succ, e10] at hK ⊢
            clear hd ho e10
            rw [wpOp]
            refine (if_pos rfl).mpr (.inl ?_)
            have g0 := (HT.out.next hB).lj.box.c0
            have g1 := (HT.out.next hB).lj.box.c1
            have g2 := (HT.out.next hB).lj.box.c2
            have g3 := (HT.out.next hB).lj.box.c3
            have g4 := (HT.out.next hB).lj.box.c4
            have g5 := (HT.out.next hB).lj.box.c5
            have g6 := (HT.out.next hB).lj.box.c6
            have g7 := (HT.out.next hB).lj.box.c7
            have g8 := (HT.out.next hB).lj.box.c8
            have g9 := (HT.out.next hB).lj.box.c9
            have g10 := (HT.out.next hB).lj.box.c10
            have g11 := (HT.out.next hB).lj.box.c11
            have g12 := (HT.out.next hB).lj.box.c12
            go_simp
            exact hK _ _ (Below.refl _ _) rfl
          | 12, ho =>
            obtain rfl := Option.some.inj ho
            have e10 : x 10 = .bool true := hd ⟨10, .guard⟩ (by simp) rfl
            simp only [Inv.fill, Act.put, List.setIfInBounds_toArray, List.set_cons_zero, List.set_cons_succ, e10] at hK ⊢
            clear hd ho e10
            rw [wpOp]
            refine (if_pos rfl).mpr (.inl ?_)
            go_simp
            exact hK _ _ (Below.refl _ _) rfl
          | 13, ho =>
            obtain rfl := Option.some.inj ho
            have e11 : x 11 = .agg #[.slice v.A v.c.banks.length v.cb, .int .i64 v.c.floors, .int .i64 v.c.home, .slice v.O v.c.order.length v.co, .int .i64 v.c.speed, .int .i64 v.c.width, .int .i64 v.c.dwell, .int .i64 v.c.good, .int .i64 v.c.dead, .int .i64 v.c.lag, .int .i64 v.c.turn, .int .i64 v.c.cost, .int .i64 v.c.full] := hd ⟨11, .data⟩ (by simp) rfl
            have e12 : x 12 = .int .i64 blocked := hd ⟨12, .data⟩ (by simp) rfl
            have e10 : x 10 = .bool true := hd ⟨10, .chain⟩ (by simp) rfl
            simp only [Inv.fill, Act.put, List.setIfInBounds_toArray, List.set_cons_zero, List.set_cons_succ, e11, e12, e10] at hK ⊢
            clear hd ho e11 e12 e10
            rw [wpOp]
            refine (if_pos rfl).mpr (.inl ?_)
            have hc := HB1.out W
            go_simp
            refine hc.mono ?_
            rintro e w2 ⟨rfl, hb2⟩
            exact hK _ _ hb2 rfl
          | 14, ho =>
            obtain rfl := Option.some.inj ho
            have e10 : x 10 = .bool true := hd ⟨10, .guard⟩ (by simp) rfl
            simp only [Inv.fill, Act.put, List.setIfInBounds_toArray, List.set_cons_zero, List.set_cons_succ, e10] at hK ⊢
            clear hd ho e10
            rw [wpOp]
            refine (if_pos rfl).mpr (.inl ?_)
            have g0 := (HT.out.next hB).e.box.c0
            have g1 := (HT.out.next hB).e.box.c1
            have g2 := (HT.out.next hB).e.box.c2
            have g3 := (HT.out.next hB).e.box.c3
            have g4 := (HT.out.next hB).e.box.c4
            have g5 := (HT.out.next hB).e.box.c5
            have g6 := (HT.out.next hB).e.box.c6
            have g7 := (HT.out.next hB).e.box.c7
            have g8 := (HT.out.next hB).e.box.c8
            have g9 := (HT.out.next hB).e.box.c9
            have g10 := (HT.out.next hB).e.box.c10
            have g11 := (HT.out.next hB).e.box.c11
            have g12 := (HT.out.next hB).e.box.c12
            go_simp
            exact hK _ _ (Below.refl _ _) rfl
          | 15, ho =>
            obtain rfl := Option.some.inj ho
            have e10 : x 10 = .bool true := hd ⟨10, .guard⟩ (by simp) rfl
            simp only [Inv.fill, Act.put, List.setIfInBounds_toArray, List.set_cons_zero, List.set_cons_succ, e10] at hK ⊢
            clear hd ho e10
            rw [wpOp]
            refine (if_pos rfl).mpr (.inl ?_)
            go_simp
            exact hK _ _ (Below.refl _ _) rfl
          | 16, ho =>
            obtain rfl := Option.some.inj ho
            have e14 : x 14 = .agg #[.slice v.A v.c.banks.length v.cb, .int .i64 v.c.floors, .int .i64 v.c.home, .slice A' l2.length c', .int .i64 v.c.speed, .int .i64 v.c.width, .int .i64 v.c.dwell, .int .i64 v.c.good, .int .i64 v.c.dead, .int .i64 v.c.lag, .int .i64 v.c.turn, .int .i64 v.c.cost, .int .i64 v.c.full] := hd ⟨14, .data⟩ (by simp) rfl
            have e15 : x 15 = .int .i64 blocked := hd ⟨15, .data⟩ (by simp) rfl
            have e10 : x 10 = .bool true := hd ⟨10, .guard⟩ (by simp) rfl
            simp only [Inv.fill, Act.put, List.setIfInBounds_toArray, List.set_cons_zero, List.set_cons_succ, e14, e15, e10] at hK ⊢
            clear hd ho e14 e15 e10
            rw [wpOp]
            refine (if_pos rfl).mpr (.inl ?_)
            have hc := HB2.out W
            go_simp
            refine hc.mono ?_
            rintro e w2 ⟨rfl, hb2⟩
            exact hK _ _ hb2 rfl
          | 17, ho =>
            obtain rfl := Option.some.inj ho
            have e13 : x 13 = .int .i64 bt := hd ⟨13, .data⟩ (by simp) rfl
            have e16 : x 16 = .int .i64 bt := hd ⟨16, .data⟩ (by simp) rfl
            have e10 : x 10 = .bool true := hd ⟨10, .guard⟩ (by simp) rfl
            simp only [Inv.fill, Act.put, List.setIfInBounds_toArray, List.set_cons_zero, List.set_cons_succ, e13, e16, e10] at hK ⊢
            clear hd ho e13 e16 e10
            rw [wpOp]
            refine (if_pos rfl).mpr (.inl ?_)
            go_simp
            exact hK _ _ (Below.refl _ _) (show Value.bool _ = Value.bool true by simp)
          | 18, ho =>
            obtain rfl := Option.some.inj ho
            have e10 : x 10 = .bool true := hd ⟨10, .data⟩ (by simp) rfl
            have e17 : x 17 = .bool true := hd ⟨17, .data⟩ (by simp) rfl
            have e2 : x 2 = .bool false := hd ⟨2, .guard⟩ (by simp) rfl
            simp only [Inv.fill, Act.put, List.setIfInBounds_toArray, List.set_cons_zero, List.set_cons_succ, e10, e17, e2] at hK ⊢
            clear hd ho e10 e17 e2
            rw [wpOp]
            refine (if_pos rfl).mpr (.inl ?_)
            go_simp
            exact hK _ _ (Below.refl _ _) rfl
          | 19, ho =>
            obtain rfl := Option.some.inj ho
            have e2 : x 2 = .bool false := hd ⟨2, .data⟩ (by simp) rfl
            have e18 : x 18 = .bool true := hd ⟨18, .data⟩ (by simp) rfl
            simp only [Inv.fill, Act.put, List.setIfInBounds_toArray, List.set_cons_zero, List.set_cons_succ, e2, e18] at hK ⊢
            clear hd ho e2 e18
            rw [wpOp]
            refine (if_pos rfl).mpr (.inl ?_)
            go_simp
            exact hK _ _ (Below.refl _ _) rfl
          | 20, ho =>
            obtain rfl := Option.some.inj ho
            have e19 : x 19 = .bool true := hd ⟨19, .data⟩ (by simp) rfl
            simp only [Inv.fill, Act.put, List.setIfInBounds_toArray, List.set_cons_zero, List.set_cons_succ, e19] at hK ⊢
            clear hd ho e19
            rw [wpOp]
            refine (if_pos rfl).mpr (.inl ?_)
            go_simp
            exact hK _ _ (Below.refl _ _) rfl
          | n + 21, ho => simp at ho
        · intro x W hB hx
          have e20 : x 20 = .bool true := hx 20 (by simp)
          simp only [Inv.fill, Act.put, List.setIfInBounds_toArray, List.set_cons_zero, List.set_cons_succ, e20]
          clear hx e20
          go_wp2
          go_ret
          exact ⟨rfl, (HT.out.next hB).lj.below⟩

end Go.Proofs.Ytkicijgempccfaa.Walk
