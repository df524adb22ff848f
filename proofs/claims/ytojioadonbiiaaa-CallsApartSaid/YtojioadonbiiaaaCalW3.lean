/- The walk of CallsApart. -/
import Derived.Test.YtojioadonbiiaaaCalU
import Derived.Test.YtojioadonbiiaaaCalO
import Derived.Deep.CutRange
import Derived.Deep.RegionHeld
import Derived.OpenShut
import Derived.LoopN
namespace Go.Proofs.Ytojioadonbiiaaa.Walk
open Go.RowKit Go.ChangeShapes Go.Proofs.Ytojioadonbiiaaa.Open Go.Proofs.Ytojioadonbiiaaa.Sees Go.Proofs.Ytojioadonbiiaaa.CalP Go.Proofs.Ytojioadonbiiaaa.Cal Go.Proofs.Ytojioadonbiiaaa.Box Go.Proofs.Ytojioadonbiiaaa.Held
set_option linter.unusedVariables false

/-- new calls, told with a bool: in a new block, memory alone is made -/
def PairB (W : World) (c : C) (n : Nat) (b : Bool) (e : Ending) (W' : World) : Prop :=
  ∃ R, e = .returned (.tuple #[.agg #[.int .u32 c.h, .slice (some ⟨R, 0, none⟩) n n], .bool b]) ∧ W.heap.size ≤ R ∧ Below W.heap.size W W' ∧ Bx W' R (un c.l).toArray
theorem hall_pb {c c' : C} (hc : c.Ok) {R n : Nat} (hn : c.l.length = n) (hN : n ≤ 65536) (f m : Int) {b : Bool} (h : hall c f m = c') (hb : isF f m = b) (W : World) (hR : Bx W R (un c.l).toArray) :
    Calls Try.prog 11 #[.agg #[.int .u32 c.h, .slice (some ⟨R, 0, none⟩) n n], .int .i64 f, .int .i64 m] W (PairB W c' n b) := by
  subst h hb
  refine (Hall_any c hc _ n n hn hN f m W (sees_bx hR hR.lt)).mono ?_
  rintro e W' ⟨h1, h2, h3⟩
  exact ⟨_, h1, by omega, h2, by rw [hall_l]; exact h3⟩
theorem car_pb {c c' : C} (hc : c.Ok) {R n : Nat} (hn : c.l.length = n) (hN : n ≤ 65536) (k f m : Int) {b : Bool} (h : car c k f m = c') (hb : carOk c k f m = b) (W : World) (hR : Bx W R (un c.l).toArray) :
    Calls Try.prog 12 #[.agg #[.int .u32 c.h, .slice (some ⟨R, 0, none⟩) n n], .int .i64 k, .int .i64 f, .int .i64 m] W (PairB W c' n b) := by
  subst h hb
  refine (Car_any c hc _ n n hn hN k f m W (sees_bx hR hR.lt)).mono ?_
  rintro e W' ⟨h1, h2, h3⟩
  exact ⟨_, h1, by omega, h2, h3⟩

/-- c's box and row, while memory alone is made -/
structure HC (w : World) (X R : Nat) (bx cs : Array Value) (W : World) : Prop where
  below : Below w.heap.size w W
  hX : w.heap.size ≤ X
  box : Bx W X bx
  row : Bx W R cs
theorem HC.next {w W W' : World} {X R : Nat} {bx cs : Array Value} (h : HC w X R bx cs W) (hb : Below W.heap.size W W') : HC w X R bx cs W' :=
  ⟨h.below.trans (hb.mono h.below.size), h.hX, h.box.next hb, h.row.next hb⟩
theorem HC.drew {w W : World} {X R : Nat} {bx cs : Array Value} (h : HC w X R bx cs W) : HC w X R bx cs W.drew := ⟨h.below.drew, h.hX, h.box.drew, h.row.drew⟩
theorem HC.alloc {w W : World} {X R : Nat} {bx cs : Array Value} (h : HC w X R bx cs W) (o : Obj) : HC w X R bx cs (W.alloc o) := h.next below_box

theorem HC.set2 {w W : World} {X R D : Nat} {bx cs : Array Value} (h : HC w X R bx cs W) (hD : w.heap.size ≤ D) (hXD : X ≠ D) (hRD : R ≠ D) (u v : Value) : HC w X R bx cs ((W.setCell ⟨D, 0, none⟩ u).setCell ⟨D, 1, none⟩ v) :=
  ⟨(h.below.setCell hD u).setCell hD v, h.hX, (h.box.off _ hXD).off _ hXD, (h.row.off _ hRD).off _ hRD⟩
/-- behind a call: c's box, the new one's, the new row -/
structure HE (w : World) (X R D : Nat) (bx nb cs : Array Value) (W : World) : Prop where
  below : Below w.heap.size w W
  hX : w.heap.size ≤ X
  box : Bx W X bx
  dbox : Bx W D nb
  row : Bx W R cs
  ne : R ≠ X
theorem HE.turn {w W : World} {X R D : Nat} {a b : Value} {nb cs : Array Value} (h : HE w X R D #[a, b] nb cs W) (u v : Value) : HC w X R #[u, v] cs ((W.setCell ⟨X, 0, none⟩ u).setCell ⟨X, 1, none⟩ v) :=
  ⟨(h.below.setCell h.hX u).setCell h.hX v, h.hX, (h.box.set (j := 0) u).set (j := 1) v, (h.row.off _ h.ne).off _ h.ne⟩
theorem HE.alloc {w W : World} {X R : Nat} {bx cs cs' : Array Value} {W0 : World} {R0 : Nat} (h : HC w X R0 bx cs W) (hr : Bx W R cs') (h0 : HC w X R0 bx cs W0) (hR : W0.heap.size ≤ R) (nb : Array Value) (t : TypeId) : HE w X R W.heap.size bx nb cs' (W.alloc (.cells nb t)) :=
  ⟨(h.alloc _).below, h.hX, h.box.alloc _, Bx.new W nb t, hr.alloc _, by have := h0.box.lt; omega⟩
theorem HE.store {w W : World} {X R R0 D : Nat} {bx cs cs' : Array Value} {a b : Value} (h : HC w X R0 bx cs W) (hr : Bx W R cs') (hb : Bx W D #[a, b]) (hD : w.heap.size ≤ D) (hXD : X < D) (hRD : D < R) (u v : Value) : HE w X R D bx #[u, v] cs' ((W.setCell ⟨D, 0, none⟩ u).setCell ⟨D, 1, none⟩ v) :=
  ⟨(h.below.setCell hD u).setCell hD v, h.hX, (h.box.off _ (by show X ≠ D; omega)).off _ (by show X ≠ D; omega), (hb.set (j := 0) u).set (j := 1) v, (hr.off _ (by show R ≠ D; omega)).off _ (by show R ≠ D; omega), by omega⟩

set_option maxRecDepth 100000 in
set_option maxHeartbeats 6400000 in
theorem callsApart_walk (w : World) (cars : Int) (A : Option Addr) (len cap : Nat) (z : List CAc) (a b floor : Int) (w0 : (Lit.int .u8 cars).wf = true)
    (hl : z.length = len) (hcp : len ≤ cap) (hcx : cap ≤ maxLen) (hs : Sees w w.heap.size A (cAcs z)) (w2 : (Lit.int .u8 a).wf = true) (w3 : (Lit.int .u8 b).wf = true) (w4 : (Lit.int .u8 floor).wf = true) :
    Calls Try.prog 5 #[.int .u8 cars, .slice A len cap, .int .u8 a, .int .u8 b, .int .u8 floor] w fun e w' => e = .returned (.bool true) ∧ Below w.heap.size w w' := by
  have hca := bounds_u8 w0
  have ha := bounds_u8 w2
  have hb := bounds_u8 w3
  have hfl := bounds_u8 w4
  clear w0 w2 w3 w4 hcp hcx
  obtain ⟨q, hq⟩ : ∃ q, cars % 8 = q := ⟨_, rfl⟩
  have t1 : cars.tmod 8 = q := by rw [Int.tmod_eq_emod_of_nonneg (by omega)]; exact hq
  have t2 : IntKind.u8.wrap q = q := IntWalk.u8_in _ (by omega)
  have t3 : IntKind.i64.wrap q = q := IntWalk.i64_in _ (by omega)
  obtain ⟨n, hn⟩ : ∃ n : Nat, q + 2 = n := ⟨(q + 2).toNat, by omega⟩
  have t4 : IntKind.i64.wrap (q + 2) = n := by rw [hn]; exact IntWalk.i64_in _ (by omega)
  have hn2 : 2 ≤ n ∧ n ≤ 9 := by omega
  have t5 : IntKind.i64.wrap a = a := IntWalk.i64_in _ (by omega)
  have t6 : IntKind.i64.wrap b = b := IntWalk.i64_in _ (by omega)
  have n0 : ¬ (n : Int) = 0 := by omega
  obtain ⟨x, hx⟩ : ∃ x : Nat, a % (n : Int) = x := ⟨(a % (n : Int)).toNat, by have := Int.emod_nonneg a n0; omega⟩
  have hx1 : x < n := by have := Int.emod_lt_of_pos a (show (0 : Int) < n by omega); omega
  have t7 : a.tmod (n : Int) = x := by rw [Int.tmod_eq_emod_of_nonneg (by omega)]; exact hx
  obtain ⟨y, hy⟩ : ∃ y : Nat, b % (n : Int) = y := ⟨(b % (n : Int)).toNat, by have := Int.emod_nonneg b n0; omega⟩
  have hy1 : y < n := by have := Int.emod_lt_of_pos b (show (0 : Int) < n by omega); omega
  have t8 : b.tmod (n : Int) = y := by rw [Int.tmod_eq_emod_of_nonneg (by omega)]; exact hy
  have t9 : IntKind.i64.wrap (x : Int) = x := IntWalk.i64_in _ (by omega)
  have t10 : IntKind.i64.wrap (y : Int) = y := IntWalk.i64_in _ (by omega)
  obtain ⟨f, hf⟩ : ∃ f : Nat, floor % 32 = f := ⟨(floor % 32).toNat, by omega⟩
  have hf1 : f < 32 := by omega
  have t11 : floor.tmod 32 = f := by rw [Int.tmod_eq_emod_of_nonneg (by omega)]; exact hf
  have t12 : IntKind.u8.wrap (f : Int) = f := IntWalk.u8_in _ (by omega)
  have t13 : IntKind.i64.wrap (f : Int) = f := IntWalk.i64_in _ (by omega)
  clear hq hn hx hy hf ha hb hfl hca
  have HA : Hid (∀ W, Calls Try.prog 8 #[] W (Says W (.bool true))) := Lib.hid fun W => awake_any W
  by_cases h60 : 60 < len
  · have i1 : decide ((60 : Int) < (len : Int)) = true := decide_eq_true (by omega)
    clear hs hl
    go_enter Try.func5, Try.ntmps5
    go_wp2_with (go_at_call 8; (with_reducible refine (HA.out _).mono ?_); clear HA; rintro e w1 ⟨rfl, h1⟩)
    go_ret
    exact ⟨rfl, h1⟩
  · have i1 : decide ((60 : Int) < (len : Int)) = false := decide_eq_false (by omega)
    by_cases hxy : x = y
    · have i2 : ((x : Int) == (y : Int)) = true := by rw [hxy]; simp
      clear hs hl
      go_enter Try.func5, Try.ntmps5
      go_wp2_with (go_at_call 8; (with_reducible refine (HA.out _).mono ?_); clear HA; rintro e w1 ⟨rfl, h1⟩)
      go_ret
      exact ⟨rfl, h1⟩
    · have i2 : ((x : Int) == (y : Int)) = false := by simp; omega
      have HN : Hid (∀ W, JS w [] W → Calls Try.prog 9 #[.int .i64 n] W (Sole w W [] ⟨0, List.replicate n 0⟩ n)) := Lib.hid fun W h => new_js n (by omega) W h
      have HS := Lib.hid hs
      have HL := Lib.hid hl
      clear hs hl
      go_enter Try.func5, Try.ntmps5
      go_upto_region 11 with (first
        | (go_at_call 8; (with_reducible refine (HA.out _).mono ?_); clear HA; rintro e w1 ⟨rfl, h1⟩; have hj1 : Hid (JS w [] w1) := Lib.hid ((J.start w).next h1); clear h1)
        | (go_at_call 9; (with_reducible refine (HN.out _ hj1.out).mono ?_); clear HN; rintro e w2 ⟨R, hR, rfl, hj2⟩; have hj3 : Hid (JS w [(w2.heap.size, #[.int .u32 0, .slice (some ⟨R, 0, none⟩) n n]), (R, (un (c0 n).l).toArray)] _) := Lib.hid (J.push hj2.out #[.int .u32 0, .slice (some ⟨R, 0, none⟩) n n] 27); have hX := Lib.hid hj2.out.below.size; clear hj2 hj1 hR))
      go_wp2
      go_loopw [16] (fun u wr => ∃ (i : Nat) (c : C) (R : Nat), u = .int .i64 i ∧ i ≤ len ∧ Hid (c.Ok ∧ c.l.length = n) ∧ Hid (HC w w2.heap.size R #[.int .u32 c.h, .slice (some ⟨R, 0, none⟩) n n] (un c.l).toArray wr)) (fun u _ => len - (intOf u).toNat)
      case atStart => exact ⟨0, c0 n, R, rfl, Nat.zero_le _, Lib.hid ⟨c0_ok n, c0_len n⟩, Lib.hid ⟨J.below hj3.out, hX.out, JS.bx hj3.out 0 rfl, JS.bx hj3.out 1 rfl⟩⟩
      case round =>
        clear hj3
        obtain ⟨i, c, R, rfl, hi, HCO, hM⟩ := hrel
        by_cases hlt : i < len
        · obtain ⟨ac, hac⟩ : ∃ ac, z[i]? = some ac := ⟨_, List.getElem?_eq_getElem (by rw [HL.out]; exact hlt)⟩
          obtain ⟨bl, of, rfl, hbl, k0, k1, k2, k3⟩ := cAc_cells HS.out i ac hac
          have HB := Lib.hid hbl
          have j0 := (hM.out.below.cell (p := ⟨bl, of + i * 4, none⟩) hbl).trans k0
          have K1 := Lib.hid k1
          have K2 := Lib.hid k2
          have i3 : (i : Int) < (len : Int) := by omega
          have e1 : IntKind.i64.wrap ((i : Int) + 1) = ((i + 1 : Nat) : Int) := by rw [IntWalk.i64_in _ (by omega)]; rfl
          obtain ⟨kk, kc, kf, kh⟩ := ac
          simp only at j0 K1 K2
          clear k0 k1 k2 k3 hac
          by_cases hk : kk < 2
          · skip
            obtain ⟨c', hc'⟩ : ∃ c', hall c kf 32 = c' := ⟨_, rfl⟩
            obtain ⟨tb, htb⟩ : ∃ tb, isF kf 32 = tb := ⟨_, rfl⟩
            have HH : Hid (∀ W, Bx W R (un c.l).toArray → Calls Try.prog 11 #[.agg #[.int .u32 c.h, .slice (some ⟨R, 0, none⟩) n n], .int .i64 kf, .int .i64 32] W (PairB W c' n tb)) := Lib.hid fun W h => hall_pb HCO.out.1 HCO.out.2 (by omega) kf 32 hc' htb W h
            have HCO' : Hid (c'.Ok ∧ c'.l.length = n) := Lib.hid ⟨hc' ▸ hall_ok HCO.out.1 _ _, by rw [← hc', hall_l]; exact HCO.out.2⟩
            have HK : Hid (∀ W', Hid (HC w w2.heap.size R #[.int .u32 c.h, .slice (some ⟨R, 0, none⟩) n n] (un c.l).toArray W') → W'.cell? ⟨w2.heap.size, 0, none⟩ = some (.int .u32 c.h) ∧ W'.cell? ⟨w2.heap.size, 1, none⟩ = some (.slice (some ⟨R, 0, none⟩) n n) ∧ W'.cell? ⟨bl, of + i * 4 + 2, none⟩ = some (.int .i64 kf) ∧ Hid (HC w w2.heap.size R #[.int .u32 c.h, .slice (some ⟨R, 0, none⟩) n n] (un c.l).toArray W')) := Lib.hid fun W' h => ⟨h.out.box.c2.1, h.out.box.c2.2, (h.out.below.cell (p := ⟨bl, of + i * 4 + 2, none⟩) HB.out).trans K2.out, h⟩
            have hMd := Lib.hid hM.out.drew
            clear hc' htb K1 K2 HCO HS HL
            go_upto_region 14 with fail
            go_region_held (fun W' => W'.cell? ⟨w2.heap.size, 0, none⟩ = some (.int .u32 c.h) ∧ W'.cell? ⟨w2.heap.size, 1, none⟩ = some (.slice (some ⟨R, 0, none⟩) n n) ∧ W'.cell? ⟨bl, of + i * 4 + 2, none⟩ = some (.int .i64 kf) ∧ Hid (HC w w2.heap.size R #[.int .u32 c.h, .slice (some ⟨R, 0, none⟩) n n] (un c.l).toArray W'))
              ((first
                | exact HK.out _ hMd
                | exact HK.out _ hM3
                | exact HK.out _ (Lib.hid (hMd.out.alloc _))
                | exact HK.out _ (Lib.hid (hM.out.alloc _).drew)
                | exact HK.out _ (Lib.hid (hM3.out.alloc _))
                | exact HK.out _ (Lib.hid (hM3.out.set2 (Nat.le_trans hM.out.hX (Nat.le_of_lt hM.out.box.lt)) (Nat.ne_of_lt hM.out.box.lt) (Nat.ne_of_lt hM.out.row.lt) _ _))))
              ((go_at_call 11; (with_reducible refine (HH.out _ (by first | exact hMd.out.row | exact (hM.out.alloc _).drew.row)).mono ?_); rintro e w3 ⟨R', rfl, hR', h3, hb3⟩; have hM3 := Lib.hid ((by first | exact hMd.out.next h3 | exact (hM.out.alloc _).drew.next h3 : HC w w2.heap.size R #[.int .u32 c.h, .slice (some ⟨R, 0, none⟩) n n] (un c.l).toArray w3)); first | (have hz : Bx w3 wr.heap.size #[.int .u32 0, .slice none 0 0] := (Bx.new wr _ 27).drew.next h3; obtain ⟨z0, z1⟩ := hz.c2; obtain ⟨y0, y1⟩ := hz.f2) | skip))
            · have hE := HE.alloc hM3.out hb3 hM.out hR' #[.int .u32 c'.h, .slice (some ⟨R', 0, none⟩) n n] 27
              clear hMd hM3 hb3 h3 HK HH hM j0
              generalize w3.alloc (.cells #[.int .u32 c'.h, .slice (some ⟨R', 0, none⟩) n n] 27) = W4 at hE ⊢
              generalize w3.heap.size = D at hE ⊢
              obtain ⟨a0, a1⟩ := hE.box.c2
              obtain ⟨f0, f1⟩ := hE.box.f2
              obtain ⟨d0, d1⟩ := hE.dbox.c2
              have HT := Lib.hid (hE.turn (.int .u32 c'.h) (.slice (some ⟨R', 0, none⟩) n n))
              clear hE
              go_wp2
              go_roundw
              case rel => exact ⟨i + 1, c', R', rfl, by omega, HCO', HT⟩
              case measure => simp [intOf]; omega
            · have hE := HE.store hM3.out hb3 hz (Nat.le_trans hM.out.hX (Nat.le_of_lt hM.out.box.lt)) hM.out.box.lt (by have : (wr.alloc (.cells #[.int .u32 0, .slice none 0 0] 27)).heap.size ≤ R' := hR'; rw [World.size_alloc] at this; omega) (.int .u32 c'.h) (.slice (some ⟨R', 0, none⟩) n n)
              clear hMd hM3 hb3 h3 HK HH hM j0 hz z0 z1 y0 y1
              generalize World.setCell _ ⟨wr.heap.size, 1, none⟩ (.slice (some ⟨R', 0, none⟩) n n) = W4 at hE ⊢
              generalize wr.heap.size = D at hE ⊢
              obtain ⟨a0, a1⟩ := hE.box.c2
              obtain ⟨f0, f1⟩ := hE.box.f2
              obtain ⟨d0, d1⟩ := hE.dbox.c2
              have HT := Lib.hid (hE.turn (.int .u32 c'.h) (.slice (some ⟨R', 0, none⟩) n n))
              clear hE
              go_wp2
              go_roundw
              case rel => exact ⟨i + 1, c', R', rfl, by omega, HCO', HT⟩
              case measure => simp [intOf]; omega
          · skip
            obtain ⟨c', hc'⟩ : ∃ c', car c kc kf 32 = c' := ⟨_, rfl⟩
            obtain ⟨tb, htb⟩ : ∃ tb, carOk c kc kf 32 = tb := ⟨_, rfl⟩
            have HH : Hid (∀ W, Bx W R (un c.l).toArray → Calls Try.prog 12 #[.agg #[.int .u32 c.h, .slice (some ⟨R, 0, none⟩) n n], .int .i64 kc, .int .i64 kf, .int .i64 32] W (PairB W c' n tb)) := Lib.hid fun W h => car_pb HCO.out.1 HCO.out.2 (by omega) kc kf 32 hc' htb W h
            have HCO' : Hid (c'.Ok ∧ c'.l.length = n) := Lib.hid ⟨hc' ▸ car_ok HCO.out.1 _ _ _, by rw [← hc', car_len]; exact HCO.out.2⟩
            have HK : Hid (∀ W', Hid (HC w w2.heap.size R #[.int .u32 c.h, .slice (some ⟨R, 0, none⟩) n n] (un c.l).toArray W') → W'.cell? ⟨w2.heap.size, 0, none⟩ = some (.int .u32 c.h) ∧ W'.cell? ⟨w2.heap.size, 1, none⟩ = some (.slice (some ⟨R, 0, none⟩) n n) ∧ W'.cell? ⟨bl, of + i * 4 + 1, none⟩ = some (.int .i64 kc) ∧ W'.cell? ⟨bl, of + i * 4 + 2, none⟩ = some (.int .i64 kf) ∧ Hid (HC w w2.heap.size R #[.int .u32 c.h, .slice (some ⟨R, 0, none⟩) n n] (un c.l).toArray W')) := Lib.hid fun W' h => ⟨h.out.box.c2.1, h.out.box.c2.2, (h.out.below.cell (p := ⟨bl, of + i * 4 + 1, none⟩) HB.out).trans K1.out, (h.out.below.cell (p := ⟨bl, of + i * 4 + 2, none⟩) HB.out).trans K2.out, h⟩
            have hMd := Lib.hid hM.out.drew
            clear hc' htb K1 K2 HCO HS HL
            go_upto_region 16 with fail
            go_region_held (fun W' => W'.cell? ⟨w2.heap.size, 0, none⟩ = some (.int .u32 c.h) ∧ W'.cell? ⟨w2.heap.size, 1, none⟩ = some (.slice (some ⟨R, 0, none⟩) n n) ∧ W'.cell? ⟨bl, of + i * 4 + 1, none⟩ = some (.int .i64 kc) ∧ W'.cell? ⟨bl, of + i * 4 + 2, none⟩ = some (.int .i64 kf) ∧ Hid (HC w w2.heap.size R #[.int .u32 c.h, .slice (some ⟨R, 0, none⟩) n n] (un c.l).toArray W'))
              ((first
                | exact HK.out _ hMd
                | exact HK.out _ hM3
                | exact HK.out _ (Lib.hid (hMd.out.alloc _))
                | exact HK.out _ (Lib.hid (hM.out.alloc _).drew)
                | exact HK.out _ (Lib.hid (hM3.out.alloc _))
                | exact HK.out _ (Lib.hid (hM3.out.set2 (Nat.le_trans hM.out.hX (Nat.le_of_lt hM.out.box.lt)) (Nat.ne_of_lt hM.out.box.lt) (Nat.ne_of_lt hM.out.row.lt) _ _))))
              ((go_at_call 12; (with_reducible refine (HH.out _ (by first | exact hMd.out.row | exact (hM.out.alloc _).drew.row)).mono ?_); rintro e w3 ⟨R', rfl, hR', h3, hb3⟩; have hM3 := Lib.hid ((by first | exact hMd.out.next h3 | exact (hM.out.alloc _).drew.next h3 : HC w w2.heap.size R #[.int .u32 c.h, .slice (some ⟨R, 0, none⟩) n n] (un c.l).toArray w3)); first | (have hz : Bx w3 wr.heap.size #[.int .u32 0, .slice none 0 0] := (Bx.new wr _ 27).drew.next h3; obtain ⟨z0, z1⟩ := hz.c2; obtain ⟨y0, y1⟩ := hz.f2) | skip))
            · have hE := HE.alloc hM3.out hb3 hM.out hR' #[.int .u32 c'.h, .slice (some ⟨R', 0, none⟩) n n] 27
              clear hMd hM3 hb3 h3 HK HH hM j0
              generalize w3.alloc (.cells #[.int .u32 c'.h, .slice (some ⟨R', 0, none⟩) n n] 27) = W4 at hE ⊢
              generalize w3.heap.size = D at hE ⊢
              obtain ⟨a0, a1⟩ := hE.box.c2
              obtain ⟨f0, f1⟩ := hE.box.f2
              obtain ⟨d0, d1⟩ := hE.dbox.c2
              have HT := Lib.hid (hE.turn (.int .u32 c'.h) (.slice (some ⟨R', 0, none⟩) n n))
              clear hE
              go_wp2
              go_roundw
              case rel => exact ⟨i + 1, c', R', rfl, by omega, HCO', HT⟩
              case measure => simp [intOf]; omega
            · have hE := HE.store hM3.out hb3 hz (Nat.le_trans hM.out.hX (Nat.le_of_lt hM.out.box.lt)) hM.out.box.lt (by have : (wr.alloc (.cells #[.int .u32 0, .slice none 0 0] 27)).heap.size ≤ R' := hR'; rw [World.size_alloc] at this; omega) (.int .u32 c'.h) (.slice (some ⟨R', 0, none⟩) n n)
              clear hMd hM3 hb3 h3 HK HH hM j0 hz z0 z1 y0 y1
              generalize World.setCell _ ⟨wr.heap.size, 1, none⟩ (.slice (some ⟨R', 0, none⟩) n n) = W4 at hE ⊢
              generalize wr.heap.size = D at hE ⊢
              obtain ⟨a0, a1⟩ := hE.box.c2
              obtain ⟨f0, f1⟩ := hE.box.f2
              obtain ⟨d0, d1⟩ := hE.dbox.c2
              have HT := Lib.hid (hE.turn (.int .u32 c'.h) (.slice (some ⟨R', 0, none⟩) n n))
              clear hE
              go_wp2
              go_roundw
              case rel => exact ⟨i + 1, c', R', rfl, by omega, HCO', HT⟩
              case measure => simp [intOf]; omega
        · have hlen : ¬ (i : Int) < (len : Int) := by omega
          obtain ⟨d, hd⟩ : ∃ d, car c x f 32 = d := ⟨_, rfl⟩
          obtain ⟨g, hg⟩ : ∃ g, hall d f 32 = g := ⟨_, rfl⟩
          have hif : isF f 32 = true := isF_iff.2 (by omega)
          have hok : ∀ c : C, c.l.length = n → carOk c x f 32 = true := fun c h => by unfold carOk; rw [h, hif, hasC_iff.2 ⟨by omega, by omega⟩]; rfl
          have oc := HCO.out.1
          have lc := HCO.out.2
          have od : d.Ok := hd ▸ car_ok oc _ _ _
          have ld : d.l.length = n := by rw [← hd, car_len]; exact lc
          have og : g.Ok := hg ▸ hall_ok od _ _
          have lg : g.l.length = n := by rw [← hg, hall_l]; exact ld
          have hdd : car d x f 32 = d := by rw [← hd]; exact car_car (hok c lc)
          have hgg : hall g f 32 = g := by rw [← hg]; exact hall_hall d f 32
          have hj0 : Hid (JS w [(w2.heap.size, #[.int .u32 c.h, .slice (some ⟨R, 0, none⟩) n n]), (R, (un c.l).toArray)] wr) := Lib.hid (((J.mk hM.out.below (fun x hx => by cases hx) : J w wr []).more hM.out.row).more hM.out.box)
          have HC1 : Hid (∀ a0 R bs W, JS w (a0 :: (R, (un c.l).toArray) :: bs) W → Calls Try.prog 12 #[.agg #[.int .u32 c.h, .slice (some ⟨R, 0, none⟩) n n], .int .i64 x, .int .i64 f, .int .i64 32] W (Pair w W (a0 :: (R, (un c.l).toArray) :: bs) d n true)) := Lib.hid fun a0 R bs => car_js oc lc (by omega) 1 rfl x f 32 hd (hok c lc)
          have HC2 : Hid (∀ a0 R bs W, JS w (a0 :: (R, (un d.l).toArray) :: bs) W → Calls Try.prog 12 #[.agg #[.int .u32 d.h, .slice (some ⟨R, 0, none⟩) n n], .int .i64 x, .int .i64 f, .int .i64 32] W (Pair w W (a0 :: (R, (un d.l).toArray) :: bs) d n true)) := Lib.hid fun a0 R bs => car_js od ld (by omega) 1 rfl x f 32 hdd (hok d ld)
          have HH1 : Hid (∀ a0 a1 a2 R bs W, JS w (a0 :: a1 :: a2 :: (R, (un d.l).toArray) :: bs) W → Calls Try.prog 11 #[.agg #[.int .u32 d.h, .slice (some ⟨R, 0, none⟩) n n], .int .i64 f, .int .i64 32] W (Pair w W (a0 :: a1 :: a2 :: (R, (un d.l).toArray) :: bs) g n true)) := Lib.hid fun a0 a1 a2 R bs => hall_js od ld (by omega) 3 rfl f 32 hg hif
          have HH2 : Hid (∀ a0 R bs W, JS w (a0 :: (R, (un g.l).toArray) :: bs) W → Calls Try.prog 11 #[.agg #[.int .u32 g.h, .slice (some ⟨R, 0, none⟩) n n], .int .i64 f, .int .i64 32] W (Pair w W (a0 :: (R, (un g.l).toArray) :: bs) g n true)) := Lib.hid fun a0 R bs => hall_js og lg (by omega) 1 rfl f 32 hgg hif
          have hmd := mn_car oc x f 32
          rw [hd] at hmd
          have HF : Hid (c.Ok ∧ c.l.length = n ∧ d.Ok ∧ d.l.length = n ∧ g.Ok ∧ g.l.length = n ∧ car c x f 32 = d ∧ carOk c x f 32 = true ∧ (mn d = mn c ∨ mn d = mn c + 1)) := Lib.hid ⟨oc, lc, od, ld, og, lg, hd, hok c lc, by split at hmd <;> omega⟩
          obtain ⟨c0a, c0b⟩ := hM.out.box.c2
          clear hd hg hif hok oc lc od ld og lg hdd hgg hmd hM HCO HS HL
          go_upto_region 23 with (first
            | (go_at_call 12; (with_reducible refine (HC1.out _ _ _ _ hj0.out).mono ?_); rintro e w3 ⟨R1, hR1, rfl, hj1⟩; have hk1 : Hid (JS w _ _) := Lib.hid (J.push hj1.out #[.int .u32 d.h, .slice (some ⟨R1, 0, none⟩) n n] 27); clear hj0 hj1 hR1 HC1 c0a c0b; obtain ⟨d0, d1⟩ := (JS.bx hk1.out 0 rfl).c2)
            | (go_at_call 12; (with_reducible refine (HC2.out _ _ _ _ hk1.out).mono ?_); rintro e w4 ⟨R2, hR2, rfl, hj2⟩; have hk2 : Hid (JS w _ _) := Lib.hid (J.push hj2.out #[.int .u32 d.h, .slice (some ⟨R2, 0, none⟩) n n] 27); clear hk1 hj2 hR2 HC2 d0 d1; obtain ⟨d0, d1⟩ := (JS.bx hk2.out 2 rfl).c2)
            | (go_at_call 11; (with_reducible refine (HH1.out _ _ _ _ _ _ hk2.out).mono ?_); rintro e w5 ⟨R3, hR3, rfl, hj3⟩; have hk3 : Hid (JS w _ _) := Lib.hid (J.push hj3.out #[.int .u32 g.h, .slice (some ⟨R3, 0, none⟩) n n] 27); clear hk2 hj3 hR3 HH1 d0 d1; obtain ⟨d0, d1⟩ := (JS.bx hk3.out 0 rfl).c2)
            | (go_at_call 11; (with_reducible refine (HH2.out _ _ _ _ hk3.out).mono ?_); rintro e w6 ⟨R4, hR4, rfl, hj4⟩; have hk4 : Hid (JS w [(w6.heap.size, #[.int .u32 g.h, .slice (some ⟨R4, 0, none⟩) n n]), (R4, (un g.l).toArray), (w5.heap.size, #[.int .u32 g.h, .slice (some ⟨R3, 0, none⟩) n n]), (R3, (un g.l).toArray), (w4.heap.size, #[.int .u32 d.h, .slice (some ⟨R2, 0, none⟩) n n]), (R2, (un d.l).toArray), (w3.heap.size, #[.int .u32 d.h, .slice (some ⟨R1, 0, none⟩) n n]), (R1, (un d.l).toArray), (w2.heap.size, #[.int .u32 c.h, .slice (some ⟨R, 0, none⟩) n n]), (R, (un c.l).toArray)] _) := Lib.hid (J.push hj4.out #[.int .u32 g.h, .slice (some ⟨R4, 0, none⟩) n n] 27); clear hk3 hj4 hR4 HH2 d0 d1))
          obtain ⟨BS, hBS⟩ : ∃ BS, BS = ([(w6.heap.size, #[.int .u32 g.h, .slice (some ⟨R4, 0, none⟩) n n]), (R4, (un g.l).toArray), (w5.heap.size, #[.int .u32 g.h, .slice (some ⟨R3, 0, none⟩) n n]), (R3, (un g.l).toArray), (w4.heap.size, #[.int .u32 d.h, .slice (some ⟨R2, 0, none⟩) n n]), (R2, (un d.l).toArray), (w3.heap.size, #[.int .u32 d.h, .slice (some ⟨R1, 0, none⟩) n n]), (R1, (un d.l).toArray), (w2.heap.size, #[.int .u32 c.h, .slice (some ⟨R, 0, none⟩) n n]), (R, (un c.l).toArray)] : List (Nat × Array Value)) := ⟨_, rfl⟩
          have hk : Hid (JS w BS _) := hBS ▸ hk4
          clear hk4
          obtain ⟨mc, hmc⟩ : ∃ mc, mn c = mc := ⟨_, rfl⟩
          obtain ⟨md, hmd⟩ : ∃ md, mn d = md := ⟨_, rfl⟩
          obtain ⟨mg, hmg⟩ : ∃ mg, mn g = mg := ⟨_, rfl⟩
          have MH : Hid (∀ W, JS w BS W → Calls Try.prog 18 #[.agg #[.int .u32 g.h, .slice (some ⟨R4, 0, none⟩) n n]] W (Says W (.int .i64 mg))) := Lib.hid (many_js HF.out.2.2.2.2.1 HF.out.2.2.2.2.2.1 (by omega) 1 (by rw [hBS]; rfl) hmg)
          have MG : Hid (∀ W, JS w BS W → Calls Try.prog 18 #[.agg #[.int .u32 g.h, .slice (some ⟨R3, 0, none⟩) n n]] W (Says W (.int .i64 mg))) := Lib.hid (many_js HF.out.2.2.2.2.1 HF.out.2.2.2.2.2.1 (by omega) 3 (by rw [hBS]; rfl) hmg)
          have ME : Hid (∀ W, JS w BS W → Calls Try.prog 18 #[.agg #[.int .u32 d.h, .slice (some ⟨R2, 0, none⟩) n n]] W (Says W (.int .i64 md))) := Lib.hid (many_js HF.out.2.2.1 HF.out.2.2.2.1 (by omega) 5 (by rw [hBS]; rfl) hmd)
          have MD : Hid (∀ W, JS w BS W → Calls Try.prog 18 #[.agg #[.int .u32 d.h, .slice (some ⟨R1, 0, none⟩) n n]] W (Says W (.int .i64 md))) := Lib.hid (many_js HF.out.2.2.1 HF.out.2.2.2.1 (by omega) 7 (by rw [hBS]; rfl) hmd)
          have MC : Hid (∀ W, JS w BS W → Calls Try.prog 18 #[.agg #[.int .u32 c.h, .slice (some ⟨R, 0, none⟩) n n]] W (Says W (.int .i64 mc))) := Lib.hid (many_js HF.out.1 HF.out.2.1 (by omega) 9 (by rw [hBS]; rfl) hmc)
          obtain ⟨v1, hv1⟩ : ∃ v1, nx c y 0 0 = v1 := ⟨_, rfl⟩
          have hb0 : BS[0]? = some (w6.heap.size, #[Value.int .u32 g.h, Value.slice (some ⟨R4, 0, none⟩) n n]) := by rw [hBS]; rfl
          have hb2 : BS[2]? = some (w5.heap.size, #[Value.int .u32 g.h, Value.slice (some ⟨R3, 0, none⟩) n n]) := by rw [hBS]; rfl
          have hb4 : BS[4]? = some (w4.heap.size, #[Value.int .u32 d.h, Value.slice (some ⟨R2, 0, none⟩) n n]) := by rw [hBS]; rfl
          have hb6 : BS[6]? = some (w3.heap.size, #[Value.int .u32 d.h, Value.slice (some ⟨R1, 0, none⟩) n n]) := by rw [hBS]; rfl
          have hb8 : BS[8]? = some (w2.heap.size, #[Value.int .u32 c.h, Value.slice (some ⟨R, 0, none⟩) n n]) := by rw [hBS]; rfl
          have hr1 : BS[7]? = some (R1, (un d.l).toArray) := by rw [hBS]; rfl
          have hr2 : BS[5]? = some (R2, (un d.l).toArray) := by rw [hBS]; rfl
          have hr0 : BS[9]? = some (R, (un c.l).toArray) := by rw [hBS]; rfl
          have HBX := Lib.hid (And.intro hb0 (And.intro hb2 (And.intro hb4 (And.intro hb6 hb8))))
          have HRX := Lib.hid (And.intro hr0 (And.intro hr1 hr2))
          have hdl := HF.out.2.2.2.2.2.2.2.2
          rw [hmc, hmd] at hdl
          have z1 : ((md : Int) != (md : Int)) = false := by simp
          have z2 : ((mg : Int) != (mg : Int)) = false := by simp
          have hbd : mc ≤ 320 := by
            rw [← hmc]
            have h1 := pc_le c.h
            have h2 := tot_le c.l
            rw [HF.out.2.1] at h2
            unfold mn
            omega
          obtain ⟨dl, hdl2⟩ : ∃ dl : Int, (md : Int) - (mc : Int) = dl := ⟨_, rfl⟩
          have z3 : IntKind.i64.wrap ((md : Int) - (mc : Int)) = dl := by rw [hdl2]; exact IntWalk.i64_in _ (by omega)
          have z4 : decide (1 < dl) = false := decide_eq_false (by omega)
          have z5 : decide ((md : Int) < (mc : Int)) = false := decide_eq_false (by omega)
          have z6 : decide (md < mc) = false := decide_eq_false (by omega)
          clear hBS hb0 hb2 hb4 hb6 hb8 hr0 hr1 hr2 hmc hmd hmg hdl hdl2 hbd hv1 v1
          refine wp_region_all _ JS.closed hk.out (by kernel_rfl) (by kernel_rfl) ?_
          apply Exists.intro
          refine ⟨fun w7 h7 => ?_, fun W7 hJ7 hb7 => ?_⟩
          · haveI := Ext.some h7
            obtain ⟨p0, p1⟩ := ext2 h7 0 HBX.out.1
            obtain ⟨p2, p3⟩ := ext2 h7 2 HBX.out.2.1
            obtain ⟨p4, p5⟩ := ext2 h7 4 HBX.out.2.2.1
            obtain ⟨p6, p7⟩ := ext2 h7 6 HBX.out.2.2.2.1
            obtain ⟨p8, p9⟩ := ext2 h7 8 HBX.out.2.2.2.2
            have k0 := Lib.hid (Ext.calls h7 JS.closed (fun W h => MH.out W h))
            have k1 := Lib.hid (Ext.calls h7 JS.closed (fun W h => MG.out W h))
            have k2 := Lib.hid (Ext.calls h7 JS.closed (fun W h => ME.out W h))
            have k3 := Lib.hid (Ext.calls h7 JS.closed (fun W h => MD.out W h))
            have k4 := Lib.hid (Ext.calls h7 JS.closed (fun W h => MC.out W h))
            repeat go_big_quiet_step (first | (go_at_call 18; with_reducible exact k0.out _) | (go_at_call 18; with_reducible exact k1.out _) | (go_at_call 18; with_reducible exact k2.out _) | (go_at_call 18; with_reducible exact k3.out _) | (go_at_call 18; with_reducible exact k4.out _))
            exact wpQuiet_nil rfl
          · have hk7 : Hid (JS w BS W7) := Lib.hid hJ7
            clear hJ7 hb7 hk MH MG ME MD MC
            have hkx : hasC c.l.length x = true := by rw [HF.out.2.1]; exact hasC_iff.2 ⟨by omega, by omega⟩
            have hky : hasC c.l.length y = true := by rw [HF.out.2.1]; exact hasC_iff.2 ⟨by omega, by omega⟩
            have hkx' : hasC d.l.length x = true := by rw [HF.out.2.2.2.1]; exact hasC_iff.2 ⟨by omega, by omega⟩
            have hky' : hasC d.l.length y = true := by rw [HF.out.2.2.2.1]; exact hasC_iff.2 ⟨by omega, by omega⟩
            have hry : row d y = row c y := by rw [← HF.out.2.2.2.2.2.2.1]; exact row_car_off (by omega) (by omega) (by omega)
            have hrx : hb (row d x) f = true := by
              rw [← HF.out.2.2.2.2.2.2.1, row_car HF.out.2.2.2.2.2.2.2.1, hb_wi, inb_iff.2 (by omega)]
              simp
            have HPL : Hid (∀ p, nx d y p 0 = nx c y p 0) := Lib.hid fun p => by rw [nx_z p hky', nx_z p hky, hry]
            have HPF : Hid (nx d x (8 * (f : Int)) 0 = f) := Lib.hid (by rw [nx_z _ hkx']; exact nr_self hrx)
            obtain ⟨dn', hdn⟩ : ∃ dn', dn d x f false = dn' := ⟨_, rfl⟩
            have HDL : Hid (dn'.Ok ∧ dn'.l.length = n ∧ nx dn' y 0 0 = nx c y 0 0) := Lib.hid ⟨hdn ▸ dn_ok HF.out.2.2.1 _ _ _, by rw [← hdn, dn_len]; exact HF.out.2.2.2.1, by
              have hk2 : hasC (dn d x f false).l.length y = true := by rw [dn_len]; exact hky'
              rw [← hdn, nx_z _ hk2, nx_z _ hky, row_dn_off (by omega) (by omega) (by omega), hry]⟩
            have HDN := Lib.hid hdn
            clear hkx hky hkx' hky' hry hrx hdn
            go_wp2
            go_loopw [30] (fun u wr => ∃ pp : Int, u = .int .i64 pp ∧ 0 ≤ pp ∧ pp ≤ 300 ∧ Hid (JS w BS wr)) (fun u _ => (300 - intOf u).toNat)
            case atStart => exact ⟨0, rfl, by omega, by omega, hk7⟩
            case round =>
              clear hk7
              rename World => wv
              obtain ⟨pp, rfl, hp0, hp3, hM⟩ := hrel
              by_cases hpl : pp < 249
              · have e1 : IntKind.i64.wrap (pp + 31) = pp + 31 := IntWalk.i64_in _ (by omega)
                have e2 : IntKind.i64.wrap ((f : Int) * 8) = 8 * (f : Int) := by rw [IntWalk.i64_in _ (by omega)]; omega
                have e3 : IntKind.i64.wrap (8 * (f : Int)) = 8 * (f : Int) := IntWalk.i64_in _ (by omega)
                obtain ⟨v1, hv1⟩ : ∃ v1, nx c y pp 0 = v1 := ⟨_, rfl⟩
                have hv1' : nx d y pp 0 = v1 := by rw [HPL.out]; exact hv1
                obtain ⟨v2, hv2⟩ : ∃ v2, nx d x pp 0 = v2 := ⟨_, rfl⟩
                have hpp : 0 ≤ pp ∧ pp ≤ 248 := ⟨hp0, by omega⟩
                have hpf : 0 ≤ 8 * (f : Int) ∧ 8 * (f : Int) ≤ 248 := ⟨by omega, by omega⟩
                have N1 : Hid (∀ W, JS w BS W → Calls Try.prog 16 #[.agg #[.int .u32 d.h, .slice (some ⟨R1, 0, none⟩) n n], .int .i64 y, .int .i64 pp, .int .u32 0] W (Says W (.int .i64 v1))) := Lib.hid (next_js HF.out.2.2.1 HF.out.2.2.2.1 7 HRX.out.2.1 y pp hpp 0 (by decide) hv1')
                have N2 : Hid (∀ W, JS w BS W → Calls Try.prog 16 #[.agg #[.int .u32 c.h, .slice (some ⟨R, 0, none⟩) n n], .int .i64 y, .int .i64 pp, .int .u32 0] W (Says W (.int .i64 v1))) := Lib.hid (next_js HF.out.1 HF.out.2.1 9 HRX.out.1 y pp hpp 0 (by decide) hv1)
                have N3 : Hid (∀ W, JS w BS W → Calls Try.prog 16 #[.agg #[.int .u32 d.h, .slice (some ⟨R2, 0, none⟩) n n], .int .i64 x, .int .i64 pp, .int .u32 0] W (Says W (.int .i64 v2))) := Lib.hid (next_js HF.out.2.2.1 HF.out.2.2.2.1 5 HRX.out.2.2 x pp hpp 0 (by decide) hv2)
                have N4 : Hid (∀ W, JS w BS W → Calls Try.prog 16 #[.agg #[.int .u32 d.h, .slice (some ⟨R1, 0, none⟩) n n], .int .i64 x, .int .i64 pp, .int .u32 0] W (Says W (.int .i64 v2))) := Lib.hid (next_js HF.out.2.2.1 HF.out.2.2.2.1 7 HRX.out.2.1 x pp hpp 0 (by decide) hv2)
                have N5 : Hid (∀ W, JS w BS W → Calls Try.prog 16 #[.agg #[.int .u32 d.h, .slice (some ⟨R1, 0, none⟩) n n], .int .i64 x, .int .i64 (8 * (f : Int)), .int .u32 0] W (Says W (.int .i64 f))) := Lib.hid (next_js HF.out.2.2.1 HF.out.2.2.2.1 7 HRX.out.2.1 x (8 * (f : Int)) hpf 0 (by decide) HPF.out)
                have z1 : (v1 != v1) = false := by simp
                have z2 : (v2 != v2) = false := by simp
                have z3 : ((f : Int) != (f : Int)) = false := by simp
                have hM' : Hid (JS w BS wv) := hM
                clear hv1 hv1' hv2 hpp hpf HPL HPF HDL HDN hM
                go_wp2
                refine wp_region_all _ JS.closed hM'.out (by kernel_rfl) (by kernel_rfl) ?_
                apply Exists.intro
                refine ⟨fun w8 h8 => ?_, fun W8 hJ8 hb8 => ?_⟩
                · haveI := Ext.some h8
                  obtain ⟨p4, p5⟩ := ext2 h8 4 HBX.out.2.2.1
                  obtain ⟨p6, p7⟩ := ext2 h8 6 HBX.out.2.2.2.1
                  obtain ⟨p8, p9⟩ := ext2 h8 8 HBX.out.2.2.2.2
                  have k1 := Lib.hid (Ext.calls h8 JS.closed (fun W h => N1.out W h))
                  have k2 := Lib.hid (Ext.calls h8 JS.closed (fun W h => N2.out W h))
                  have k3 := Lib.hid (Ext.calls h8 JS.closed (fun W h => N3.out W h))
                  have k4 := Lib.hid (Ext.calls h8 JS.closed (fun W h => N4.out W h))
                  have k5 := Lib.hid (Ext.calls h8 JS.closed (fun W h => N5.out W h))
                  repeat go_big_quiet_step (first | (go_at_call 16; with_reducible exact k1.out _) | (go_at_call 16; with_reducible exact k2.out _) | (go_at_call 16; with_reducible exact k3.out _) | (go_at_call 16; with_reducible exact k4.out _) | (go_at_call 16; with_reducible exact k5.out _))
                  exact wpQuiet_nil rfl
                · have hk8 : Hid (JS w BS W8) := Lib.hid hJ8
                  clear hJ8 hb8 N1 N2 N3 N4 N5 hM'
                  go_wp2
                  go_roundw
                  case rel => exact ⟨pp + 31, rfl, by omega, by omega, hk8⟩
                  case measure => simp [intOf]; omega
              · obtain ⟨v3, hv3⟩ : ∃ v3, nx c y 0 0 = v3 := ⟨_, rfl⟩
                have hv3' : nx dn' y 0 0 = v3 := HDL.out.2.2.trans hv3
                have ND : Hid (∀ W, JS w BS W → Calls Try.prog 14 #[.agg #[.int .u32 d.h, .slice (some ⟨R1, 0, none⟩) n n], .int .i64 x, .int .i64 f, .bool false] W fun e W' => ∃ R', e = .returned (.agg #[.int .u32 dn'.h, .slice (some ⟨R', 0, none⟩) n n]) ∧ Below W.heap.size W W' ∧ Bx W' R' (un dn'.l).toArray) := Lib.hid fun W h => by
                  have := Done_any d HF.out.2.2.1 (some ⟨R1, 0, none⟩) n n HF.out.2.2.2.1 (by omega) x f false W (js_sees h 7 HRX.out.2.1)
                  rw [HDN.out] at this
                  exact this.mono fun e W' ⟨h1, h2, h3⟩ => ⟨_, h1, h2, h3⟩
                have NC : Hid (∀ W, JS w BS W → Calls Try.prog 16 #[.agg #[.int .u32 c.h, .slice (some ⟨R, 0, none⟩) n n], .int .i64 y, .int .i64 0, .int .u32 0] W (Says W (.int .i64 v3))) := Lib.hid (next_js HF.out.1 HF.out.2.1 9 HRX.out.1 y 0 ⟨by omega, by omega⟩ 0 (by decide) hv3)
                have NN : Hid (∀ R' W, Bx W R' (un dn'.l).toArray → Calls Try.prog 16 #[.agg #[.int .u32 dn'.h, .slice (some ⟨R', 0, none⟩) n n], .int .i64 y, .int .i64 0, .int .u32 0] W (Says W (.int .i64 v3))) := Lib.hid fun R' W h => by
                  have := Next_any dn' HDL.out.1 (some ⟨R', 0, none⟩) n n HDL.out.2.1 y 0 ⟨by omega, by omega⟩ 0 (by decide) W (sees_bx h h.lt)
                  rwa [hv3'] at this
                have hMd : Hid (JS w BS wv.drew) := Lib.hid (J.drew hM.out)
                have HK : Hid (∀ W', Hid (JS w BS W') → W'.cell? ⟨w3.heap.size, 0, none⟩ = some (.int .u32 d.h) ∧ W'.cell? ⟨w3.heap.size, 1, none⟩ = some (.slice (some ⟨R1, 0, none⟩) n n) ∧ W'.cell? ⟨w2.heap.size, 0, none⟩ = some (.int .u32 c.h) ∧ W'.cell? ⟨w2.heap.size, 1, none⟩ = some (.slice (some ⟨R, 0, none⟩) n n) ∧ Hid (JS w BS W')) := Lib.hid fun W' h => ⟨(JS.bx h.out 6 HBX.out.2.2.2.1).c2.1, (JS.bx h.out 6 HBX.out.2.2.2.1).c2.2, (JS.bx h.out 8 HBX.out.2.2.2.2).c2.1, (JS.bx h.out 8 HBX.out.2.2.2.2).c2.2, h⟩
                clear hv3 hv3' HPL HPF HDL HDN hM
                go_upto_region 30 with fail
                go_region_held (fun W' => W'.cell? ⟨w3.heap.size, 0, none⟩ = some (.int .u32 d.h) ∧ W'.cell? ⟨w3.heap.size, 1, none⟩ = some (.slice (some ⟨R1, 0, none⟩) n n) ∧ W'.cell? ⟨w2.heap.size, 0, none⟩ = some (.int .u32 c.h) ∧ W'.cell? ⟨w2.heap.size, 1, none⟩ = some (.slice (some ⟨R, 0, none⟩) n n) ∧ Hid (JS w BS W'))
                  ((have hc := ‹Hid (JS w BS _)›
                    exact HK.out _ hc))
                  ((have hc0 := ‹Hid (JS w BS _)›
                    first
                    | (go_at_call 14; (with_reducible refine (ND.out _ hc0.out).mono ?_); rintro e w9 ⟨R', rfl, h9, hb9⟩; have hc9 := Lib.hid (JS.closed _ _ hc0.out h9))
                    | (go_at_call 16; (with_reducible refine (NC.out _ hc0.out).mono ?_); rintro e w10 ⟨rfl, h10⟩; have hc10 := Lib.hid (JS.closed _ _ hc0.out h10); first | (have hb9 := hb9.next h10) | skip)
                    | (go_at_call 16; (with_reducible refine (NN.out _ _ hb9).mono ?_); rintro e w11 ⟨rfl, h11⟩; have hc11 := Lib.hid (JS.closed _ _ hc0.out h11))))
                all_goals
                  go_wp2
                  go_ret
                  first
                    | exact ⟨rfl, J.below hc11.out⟩
                    | exact ⟨rfl, J.below hc10.out⟩
end Go.Proofs.Ytojioadonbiiaaa.Walk
