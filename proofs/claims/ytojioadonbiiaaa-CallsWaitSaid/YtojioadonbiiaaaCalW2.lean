/- The walk of CallsWait. -/
import Derived.Test.YtojioadonbiiaaaCalU
import Derived.Deep.CutRange
import Derived.OpenShut
import Derived.LoopN
namespace Go.Proofs.Ytojioadonbiiaaa.Walk
open Go.RowKit Go.ChangeShapes Go.Proofs.Ytojioadonbiiaaa.Sees Go.Proofs.Ytojioadonbiiaaa.CalP Go.Proofs.Ytojioadonbiiaaa.Cal Go.Proofs.Ytojioadonbiiaaa.Box Go.Proofs.Ytojioadonbiiaaa.Held
set_option linter.unusedVariables false

theorem nums_un {z : List Int} (h : ∀ n ∈ z, (Lit.int .u32 n).wf = true) : ∃ l : List Nat, z.length = l.length ∧ nums .u32 z = un l ∧ ∀ x ∈ l, x < 4294967296 := by
  refine ⟨z.map Int.toNat, by simp, ?_, fun x hx => ?_⟩
  · unfold nums un
    rw [List.map_map]
    refine List.map_congr_left fun n hn => ?_
    have := bounds_u32 (h n hn)
    show Value.int .u32 n = Value.int .u32 ((n.toNat : Nat) : Int)
    rw [Int.toNat_of_nonneg this.1]
  · obtain ⟨n, hn, rfl⟩ := List.mem_map.1 hx
    have := bounds_u32 (h n hn)
    omega

set_option maxRecDepth 100000 in
set_option maxHeartbeats 6400000 in
theorem callsWait_walk (w : World) (A : Option Addr) (len cap : Nat) (z : List Int) (hall cr pos halls : Int) (hl : z.length = len) (hcp : len ≤ cap) (hcx : cap ≤ maxLen) (hs : Sees w w.heap.size A (nums .u32 z)) (hw : ∀ n ∈ z, (Lit.int .u32 n).wf = true)
    (w1 : (Lit.int .u32 hall).wf = true) (w2 : (Lit.int .u8 cr).wf = true) (w3 : (Lit.int .u8 pos).wf = true) (w4 : (Lit.int .u32 halls).wf = true) :
    Calls Try.prog 4 #[.slice A len cap, .int .u32 hall, .int .u8 cr, .int .u8 pos, .int .u32 halls] w fun e w' => e = .returned (.bool true) ∧ Below w.heap.size w w' := by
  have hha := bounds_u32 w1
  have hcr := bounds_u8 w2
  have hpo := bounds_u8 w3
  have hhs := bounds_u32 w4
  obtain ⟨l, hll, hzl, hlb⟩ := nums_un hw
  rw [hzl] at hs
  rw [hl] at hll
  clear w1 w2 w3 w4 hw hzl hl hcx hcp
  obtain ⟨h, rfl⟩ : ∃ h : Nat, hall = h := ⟨hall.toNat, by omega⟩
  obtain ⟨q, rfl⟩ : ∃ q : Nat, halls = q := ⟨halls.toNat, by omega⟩
  have HA : Hid (∀ W, Calls Try.prog 8 #[] W (Says W (.bool true))) := Lib.hid fun W => awake_any W
  by_cases h64 : 64 < len
  · have i1 : (64 : Int) < (len : Int) := by omega
    clear hs hlb hll
    go_enter Try.func4, Try.ntmps4
    go_wp2_with (go_at_call 8; (with_reducible refine (HA.out _).mono ?_); clear HA; rintro e w1 ⟨rfl, h1⟩)
    go_ret
    exact ⟨rfl, h1⟩
  · have i1 : ¬ (64 : Int) < (len : Int) := by omega
    by_cases hz : len = 0
    · subst hz
      clear hs hlb hll
      go_enter Try.func4, Try.ntmps4
      go_wp2_with (go_at_call 8; (with_reducible refine (HA.out _).mono ?_); clear HA; rintro e w1 ⟨rfl, h1⟩)
      go_ret
      exact ⟨rfl, h1⟩
    · have i2 : ¬ (len : Int) = 0 := by omega
      have g1 : decide ((64 : Int) < (len : Int)) = false := decide_eq_false i1
      have g2 : ((len : Int) == 0) = false := by simpa using hz
      have t1 : IntKind.i64.wrap cr = cr := IntWalk.i64_in _ (by omega)
      have t2 : IntKind.i64.wrap pos = pos := IntWalk.i64_in _ (by omega)
      obtain ⟨k, hk⟩ : ∃ k : Nat, cr % (len : Int) = k := ⟨(cr % (len : Int)).toNat, by have := Int.emod_nonneg cr i2; omega⟩
      have hk1 : k < len := by have := Int.emod_lt_of_pos cr (show (0 : Int) < len by omega); omega
      have t3 : cr.tmod (len : Int) = k := by rw [Int.tmod_eq_emod_of_nonneg (by omega)]; exact hk
      obtain ⟨p, hp⟩ : ∃ p, pos % 249 = p := ⟨_, rfl⟩
      have t4 : pos.tmod 249 = p := by rw [Int.tmod_eq_emod_of_nonneg (by omega)]; exact hp
      have hp' : 0 ≤ p ∧ p ≤ 248 := by omega
      have t5 : IntKind.i64.wrap p = p := IntWalk.i64_in _ (by omega)
      have t6 : IntKind.i64.wrap (k : Int) = k := IntWalk.i64_in _ (by omega)
      clear hk hp
      have oc : (C.mk h l).Ok := ⟨by show h < _; omega, hlb⟩
      have lc : (C.mk h l).l.length = len := hll.symm
      have hkc : hasC (C.mk h l).l.length k = true := by rw [lc]; exact hasC_iff.2 ⟨by omega, by omega⟩
      have hsub : ∀ bs W, JS w bs W → Sees W W.heap.size A (un (C.mk h l).l) := fun bs W hW => (hs.below (J.below hW) (Nat.le_refl _)).more (J.below hW).size
      obtain ⟨y, hy⟩ : ∃ y, nx ⟨h, l⟩ k p q = y := ⟨_, rfl⟩
      obtain ⟨m, hm⟩ : ∃ m, mn ⟨h, l⟩ = m := ⟨_, rfl⟩
      obtain ⟨x, hx⟩ : ∃ x, row ⟨h, l⟩ k = x := ⟨_, rfl⟩
      have hat := row_at (c := ⟨h, l⟩) (k := k) (by rw [lc]; omega)
      rw [hx] at hat
      obtain ⟨b, o, rfl, hb, k0⟩ := hs.at_ (un_at hat)
      have HNX : Hid (∀ bs W, JS w bs W → Calls Try.prog 16 #[.agg #[.int .u32 h, .slice (some ⟨b, o, none⟩) len cap], .int .i64 k, .int .i64 p, .int .u32 q] W (Says W (.int .i64 y))) := Lib.hid fun bs => next_gs oc lc (hsub bs) k p hp' q (by omega) hy
      have HMC : Hid (∀ bs W, JS w bs W → Calls Try.prog 18 #[.agg #[.int .u32 h, .slice (some ⟨b, o, none⟩) len cap]] W (Says W (.int .i64 m))) := Lib.hid fun bs => many_gs oc lc (by omega) (hsub bs) hm
      have K0 := Lib.hid k0
      have HB := Lib.hid hb
      have HOC := Lib.hid (And.intro oc (And.intro lc (And.intro hkc (And.intro hy (And.intro hm hx)))))
      have HSU := Lib.hid hsub
      have HP := Lib.hid (And.intro hp' (And.intro hhs hha))
      clear hs hlb oc lc hkc hsub hat k0 hb hy hm hx hp' hhs hha hpo hcr hll
      go_enter Try.func4, Try.ntmps4
      go_upto_region 11 with (first
        | (go_at_call 8; (with_reducible refine (HA.out _).mono ?_); clear HA; rintro e w1 ⟨rfl, h1⟩; have hj1 : Hid (JS w _ _) := Lib.hid (J.push ((J.start w).next h1) #[.int .u32 h, .slice (some ⟨b, o, none⟩) len cap] 27); obtain ⟨d0, d1⟩ := (JS.bx hj1.out 0 rfl).c2; clear h1)
        | (go_at_call 16; (with_reducible refine (HNX.out _ _ hj1.out).mono ?_); rintro e w2 ⟨rfl, h2⟩; have hj2 := Lib.hid (JS.closed _ _ hj1.out h2); clear h2 d0 d1 hj1; obtain ⟨d0, d1⟩ := (JS.bx hj2.out 0 rfl).c2)
        | (go_at_call 18; (with_reducible refine (HMC.out _ _ hj2.out).mono ?_); rintro e w3 ⟨rfl, h3⟩; have hj3 := Lib.hid (JS.closed _ _ hj2.out h3); clear h3 d0 d1 hj2; obtain ⟨d0, d1⟩ := (JS.bx hj3.out 0 rfl).c2))
      have e0 := ((J.below hj3.out).cell (p := ⟨b, o + k, none⟩) HB.out).trans K0.out
      have hyr : -1 ≤ y ∧ y < 32 := HOC.out.2.2.2.1 ▸ nx_range ⟨h, l⟩ k p q
      by_cases hy : y < 0
      · obtain rfl : y = -1 := by omega
        obtain ⟨n1, n2⟩ := nx_none HOC.out.1 HOC.out.2.2.1 (by have := HP.out; omega) HOC.out.2.2.2.1
        obtain rfl : x = 0 := HOC.out.2.2.2.2.2.symm.trans n1
        have hand : bits .and .u32 h q = 0 := by
          rw [u32_and_nat h q (by have := HP.out; omega) (by have := HP.out; omega)]
          show (((C.mk h l).h &&& q : Nat) : Int) = 0
          rw [n2]; rfl
        clear HOC HSU HP K0 HB HNX HMC hyr n1 n2
        go_wp2
        go_ret
        exact ⟨rfl, J.below hj3.out⟩
      · obtain ⟨yn, rfl⟩ : ∃ yn : Nat, y = yn := ⟨y.toNat, by omega⟩
        have hy32 : yn < 32 := by omega
        have t7 : IntKind.u64.wrap (yn : Int) = yn := IntWalk.u64_in _ (by omega)
        have i3 : ¬ (31 : Int) < (yn : Int) := by omega
        clear hyr
        obtain ⟨d, hd⟩ : ∃ d, dn ⟨h, l⟩ k yn true = d := ⟨_, rfl⟩
        obtain ⟨e', he⟩ : ∃ e', dn ⟨h, l⟩ k yn false = e' := ⟨_, rfl⟩
        have heh : e'.h = h := by rw [← he]; rfl
        have HDT : Hid (∀ bs W, JS w bs W → Calls Try.prog 14 #[.agg #[.int .u32 h, .slice (some ⟨b, o, none⟩) len cap], .int .i64 k, .int .i64 yn, .bool true] W (Sole w W bs d len)) := Lib.hid fun bs => done_gs HOC.out.1 HOC.out.2.1 (by omega) (HSU.out bs) k yn true hd
        have HDF : Hid (∀ bs W, JS w bs W → Calls Try.prog 14 #[.agg #[.int .u32 h, .slice (some ⟨b, o, none⟩) len cap], .int .i64 k, .int .i64 yn, .bool false] W fun e W' => ∃ R, W.heap.size ≤ R ∧ e = .returned (.agg #[.int .u32 h, .slice (some ⟨R, 0, none⟩) len len]) ∧ Hid (JS w ((R, (un e'.l).toArray) :: bs) W')) := Lib.hid fun bs W hW => by
          have := done_gs (cap := cap) HOC.out.1 HOC.out.2.1 (by omega) (HSU.out bs) k yn false he W hW
          unfold Sole at this
          rw [heh] at this
          exact this
        have od : d.Ok := hd ▸ dn_ok HOC.out.1 _ _ _
        have ld : d.l.length = len := by rw [← hd, dn_len]; exact HOC.out.2.1
        have hml : mn d < m := by rw [← hd, ← HOC.out.2.2.2.2.1]; exact mn_less HOC.out.1 HOC.out.2.2.1 HOC.out.2.2.2.1 (by omega)
        have hnd : nx d k p q ≠ yn := by rw [← hd]; exact nx_done HOC.out.1 HOC.out.2.2.1 p (by omega)
        obtain ⟨m2, hm2⟩ : ∃ m2, mn d = m2 := ⟨_, rfl⟩
        obtain ⟨z2, hz2⟩ : ∃ z2, nx d k p q = z2 := ⟨_, rfl⟩
        rw [hm2] at hml
        rw [hz2] at hnd
        have HMD : Hid (∀ R x0 x1 x2 bs W, JS w (x0 :: x1 :: x2 :: (R, (un d.l).toArray) :: bs) W → Calls Try.prog 18 #[.agg #[.int .u32 d.h, .slice (some ⟨R, 0, none⟩) len len]] W (Says W (.int .i64 m2))) := Lib.hid fun R x0 x1 x2 bs => many_js od ld (by omega) 3 rfl hm2
        have HND : Hid (∀ R x0 x1 x2 bs W, JS w (x0 :: x1 :: x2 :: (R, (un d.l).toArray) :: bs) W → Calls Try.prog 16 #[.agg #[.int .u32 d.h, .slice (some ⟨R, 0, none⟩) len len], .int .i64 k, .int .i64 p, .int .u32 q] W (Says W (.int .i64 z2))) := Lib.hid fun R x0 x1 x2 bs => next_js od ld 3 rfl k p HP.out.1 q (by have := HP.out; omega) hz2
        have hx32 : x < 4294967296 := HOC.out.2.2.2.2.2 ▸ row_lt HOC.out.1 k
        have hh32 : h < 4294967296 := by have := HP.out; omega
        have e1 : IntKind.i64.wrap (8 * (yn : Int)) = 8 * (yn : Int) := IntWalk.i64_in _ (by omega)
        have e2 : IntKind.i64.wrap (8 * (yn : Int) - p) = 8 * (yn : Int) - p := IntWalk.i64_in _ (by have := HP.out; omega)
        have e3 : IntKind.i64.wrap (p - 8 * (yn : Int)) = p - 8 * (yn : Int) := IntWalk.i64_in _ (by have := HP.out; omega)
        have m1 := run_wy yn p
        obtain ⟨far, hfar⟩ : ∃ far, wy yn p = far := ⟨_, rfl⟩
        rw [hfar] at m1
        have q1 : decide (m2 < m) = true := decide_eq_true hml
        have q1' : decide ((m2 : Int) < (m : Int)) = true := decide_eq_true (by omega)
        have q2 : (z2 == (yn : Int)) = false := by simpa using hnd
        have q3 : (z2 != (yn : Int)) = true := by simpa using hnd
        by_cases hx0 : x = 0
        · subst hx0
          have hhb : hb h yn = true := by
            have := nx_hall_bit HOC.out.2.2.1 HOC.out.2.2.2.2.2 (p := p) (hs := q) (by rw [HOC.out.2.2.2.1]; omega)
            rw [HOC.out.2.2.2.1] at this
            exact this
          have b1 : bits .and .u32 0 1 = 0 := by decide
          have b2 := bits_yes hh32 hy32 hhb
          clear hhb HOC HSU HP K0 HB hd he heh od ld hml hnd hm2 hz2 hfar HNX
          go_upto_region 17 with fail
          go_wp2
          go_loop [18] (fun g => g = .int .i64 0) (fun _ => 0)
          case atStart => rfl
          case round =>
            obtain rfl := hrel
            go_wp2_with (first
              | (go_at_call 14; (with_reducible refine (HDT.out _ _ hj3.out).mono ?_); rintro e w4 ⟨R1, hR1, rfl, hj4⟩; have hj5 : Hid (JS w _ _) := Lib.hid (J.push hj4.out #[.int .u32 d.h, .slice (some ⟨R1, 0, none⟩) len len] 27); clear hj4 hR1 hj3 HDT d0 d1; obtain ⟨d0, d1⟩ := (JS.bx hj5.out 2 rfl).c2)
              | (go_at_call 14; (with_reducible refine (HDF.out _ _ hj5.out).mono ?_); rintro e w5 ⟨R2, hR2, rfl, hj6⟩; have hj7 : Hid (JS w _ _) := Lib.hid (J.push hj6.out #[.int .u32 h, .slice (some ⟨R2, 0, none⟩) len len] 27); clear hj6 hR2 hj5 HDF d0 d1; obtain ⟨d0, d1⟩ := (JS.bx hj7.out 4 rfl).c2; obtain ⟨c0, c1⟩ := (JS.bx hj7.out 2 rfl).c2; obtain ⟨a0, a1⟩ := (JS.bx hj7.out 0 rfl).c2)
              | (go_at_call 18; (with_reducible refine (HMD.out _ _ _ _ _ _ hj7.out).mono ?_); rintro e w6 ⟨rfl, h6⟩; have hj8 := Lib.hid (JS.closed _ _ hj7.out h6); clear h6 hj7 d0 d1 c0 c1 a0 a1; obtain ⟨d0, d1⟩ := (JS.bx hj8.out 4 rfl).c2; obtain ⟨c0, c1⟩ := (JS.bx hj8.out 2 rfl).c2; obtain ⟨a0, a1⟩ := (JS.bx hj8.out 0 rfl).c2)
              | (go_at_call 16; (with_reducible refine (HND.out _ _ _ _ _ _ hj8.out).mono ?_); rintro e w7 ⟨rfl, h7⟩; have hj9 := Lib.hid (JS.closed _ _ hj8.out h7); clear h7 hj8 d0 d1 c0 c1 a0 a1; obtain ⟨d0, d1⟩ := (JS.bx hj9.out 4 rfl).c2; obtain ⟨c0, c1⟩ := (JS.bx hj9.out 2 rfl).c2; obtain ⟨a0, a1⟩ := (JS.bx hj9.out 0 rfl).c2)
              | (go_at_call 18; (with_reducible refine (HMC.out _ _ hj9.out).mono ?_); rintro e w8 ⟨rfl, h8⟩; have hj10 := Lib.hid (JS.closed _ _ hj9.out h8); clear h8))
            go_ret
            exact ⟨ret_bool (by simp), J.below hj10.out⟩
        · have hrow := nx_row HOC.out.1 HOC.out.2.2.1 p q (by rw [HOC.out.2.2.2.2.2]; exact hx0)
          rw [HOC.out.2.2.2.1, HOC.out.2.2.2.2.2, hfar] at hrow
          have b1 := bits_yes hx32 hy32 hrow.1
          have HR := Lib.hid hrow.2
          have HP2 := Lib.hid HP.out.1
          have v1 : ((x : Int) == 0) = false := by simpa using hx0
          have v2 : ((x : Int) != 0) = true := by simpa using hx0
          clear hrow HOC HSU HP K0 HB hd he heh od ld hml hnd hm2 hz2 hfar HNX
          go_upto_region 17 with fail
          go_wp2
          clear b1
          go_loop [18] (fun g => ∃ i : Nat, g = .int .i64 i ∧ i ≤ 32) (fun g => 32 - (intOf g).toNat)
          case atStart => exact ⟨0, rfl, by omega⟩
          case round =>
            obtain ⟨i, rfl, hi⟩ := hrel
            by_cases hlt : i < 32
            · have j1 : (i : Int) < 32 := by omega
              have j2 : decide ((i : Int) < 32) = true := decide_eq_true j1
              have j3 : IntKind.u64.wrap (i : Int) = i := IntWalk.u64_in _ (by omega)
              have j4 : IntKind.i64.wrap ((i : Int) + 1) = ((i + 1 : Nat) : Int) := by rw [IntWalk.i64_in _ (by omega)]; rfl
              clear HDT HDF HMD HND HMC
              cases hbi : hb x i
              · have b3 := bits_no hx32 hlt hbi
                clear HR hbi
                go_wp2
                go_round
                case rel => exact ⟨i + 1, rfl, by omega⟩
                case measure => simp [intOf]; omega
              · have b3 := bits_yes hx32 hlt hbi
                have hle := HR.out i hbi
                have f1 : IntKind.i64.wrap (8 * (i : Int)) = 8 * (i : Int) := IntWalk.i64_in _ (by omega)
                have f2 : IntKind.i64.wrap (8 * (i : Int) - p) = 8 * (i : Int) - p := IntWalk.i64_in _ (by have := HP2.out; omega)
                have f3 : IntKind.i64.wrap (p - 8 * (i : Int)) = p - 8 * (i : Int) := IntWalk.i64_in _ (by have := HP2.out; omega)
                have m2' := run_wy i p
                have f4 : decide (wy i p < far) = false := decide_eq_false (by omega)
                generalize wy i p = g at *
                clear HR hbi hle
                go_wp2
                go_round
                case rel => exact ⟨i + 1, rfl, by omega⟩
                case measure => simp [intOf]; omega
            · obtain rfl : i = 32 := by omega
              go_wp2_with (first
                | (go_at_call 14; (with_reducible refine (HDT.out _ _ hj3.out).mono ?_); rintro e w4 ⟨R1, hR1, rfl, hj4⟩; have hj5 : Hid (JS w _ _) := Lib.hid (J.push hj4.out #[.int .u32 d.h, .slice (some ⟨R1, 0, none⟩) len len] 27); clear hj4 hR1 hj3 HDT d0 d1; obtain ⟨d0, d1⟩ := (JS.bx hj5.out 2 rfl).c2)
                | (go_at_call 14; (with_reducible refine (HDF.out _ _ hj5.out).mono ?_); rintro e w5 ⟨R2, hR2, rfl, hj6⟩; have hj7 : Hid (JS w _ _) := Lib.hid (J.push hj6.out #[.int .u32 h, .slice (some ⟨R2, 0, none⟩) len len] 27); clear hj6 hR2 hj5 HDF d0 d1; obtain ⟨d0, d1⟩ := (JS.bx hj7.out 4 rfl).c2; obtain ⟨c0, c1⟩ := (JS.bx hj7.out 2 rfl).c2; obtain ⟨a0, a1⟩ := (JS.bx hj7.out 0 rfl).c2)
                | (go_at_call 18; (with_reducible refine (HMD.out _ _ _ _ _ _ hj7.out).mono ?_); rintro e w6 ⟨rfl, h6⟩; have hj8 := Lib.hid (JS.closed _ _ hj7.out h6); clear h6 hj7 d0 d1 c0 c1 a0 a1; obtain ⟨d0, d1⟩ := (JS.bx hj8.out 4 rfl).c2; obtain ⟨c0, c1⟩ := (JS.bx hj8.out 2 rfl).c2; obtain ⟨a0, a1⟩ := (JS.bx hj8.out 0 rfl).c2)
                | (go_at_call 16; (with_reducible refine (HND.out _ _ _ _ _ _ hj8.out).mono ?_); rintro e w7 ⟨rfl, h7⟩; have hj9 := Lib.hid (JS.closed _ _ hj8.out h7); clear h7 hj8 d0 d1 c0 c1 a0 a1; obtain ⟨d0, d1⟩ := (JS.bx hj9.out 4 rfl).c2; obtain ⟨c0, c1⟩ := (JS.bx hj9.out 2 rfl).c2; obtain ⟨a0, a1⟩ := (JS.bx hj9.out 0 rfl).c2)
                | (go_at_call 18; (with_reducible refine (HMC.out _ _ hj9.out).mono ?_); rintro e w8 ⟨rfl, h8⟩; have hj10 := Lib.hid (JS.closed _ _ hj9.out h8); clear h8))
              go_ret
              exact ⟨ret_bool (by simp), J.below hj10.out⟩
end Go.Proofs.Ytojioadonbiiaaa.Walk
