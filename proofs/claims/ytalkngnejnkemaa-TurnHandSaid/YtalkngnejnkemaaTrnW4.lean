/- The walk of TurnHand. -/
import Derived.Test.YtalkngnejnkemaaTrnE
import Derived.Test.YtalkngnejnkemaaOrdA1
import Derived.Test.YtalkngnejnkemaaOpenB
import Derived.OpenShut
import Derived.LoopN
namespace Go.Proofs.Ytalkngnejnkemaa.Walk
open Go.RowKit Go.ChangeShapes Go.Proofs.Ytalkngnejnkemaa.Plain Go.Proofs.Ytalkngnejnkemaa.OrdP Go.Proofs.Ytalkngnejnkemaa.Ord Go.Proofs.Ytalkngnejnkemaa.TrnP Go.Proofs.Ytalkngnejnkemaa.Box Go.Proofs.Ytalkngnejnkemaa.Held Go.Proofs.Ytalkngnejnkemaa.Sees Go.Proofs.Ytalkngnejnkemaa.Open
set_option linter.unusedVariables false

theorem bools_at (z : List Bool) (k : Nat) (h : k < z.length) : (bools z)[k]? = some (.bool (z[k]?.getD false)) := by
  unfold bools
  rw [List.getElem?_map, List.getElem?_eq_getElem h]
  rfl
/-- who was chosen by hand, a tick on -/
theorem hand_st {r : Nat} {k L p : Int} (b : Bool) (hk : hb r k = true) (hp : 1 ≤ p) : (b = true ∧ st ⟨k, L⟩ r b p = ⟨k, L⟩) ∨ (b = false ∧ ¬ L ≤ 1 ∧ st ⟨k, L⟩ r b p = ⟨k, L - 1⟩) ∨
    (b = false ∧ L ≤ 1 ∧ st ⟨k, L⟩ r b p = ⟨nb r k, p⟩) := by
  have hg := bg_pos p (hb_ge (nb_has k hk))
  rw [show max 1 p = p by omega] at hg
  unfold st
  simp only
  rw [if_neg (by rw [hk]; decide), hg]
  cases b
  · refine .inr ?_
    rw [if_neg (by decide)]
    by_cases h : L ≤ 1
    · exact .inr ⟨rfl, h, if_pos h⟩
    · exact .inl ⟨rfl, h, if_neg h⟩
  · exact .inl ⟨rfl, if_pos rfl⟩
theorem jhead2 {w W : World} {X : Nat} {a b x y : Value} (h : J w W [(X, #[a, b])]) (hX : w.heap.size ≤ X) : J w ((W.setCell ⟨X, 0, none⟩ x).setCell ⟨X, 1, none⟩ y) [(X, #[x, y])] := by
  have := (h.set 0 x hX).set 1 y hX
  simpa using this

set_option maxRecDepth 100000 in
set_option maxHeartbeats 6400000 in
theorem turnHand_walk (w : World) (r' car per : Int) (a3 : Option Addr) (len3 cap3 : Nat) (z3 : List Bool) (u0 : (Lit.int .u64 r').wf = true) (u1 : (Lit.int .u8 car).wf = true) (u2 : (Lit.int .u8 per).wf = true)
    (hl3 : z3.length = len3) (hc3 : len3 ≤ cap3) (hx3 : cap3 ≤ maxLen) (hs3 : Sees w w.heap.size a3 (bools z3)) :
    Calls Try.prog 6 #[.int .u64 r', .int .u8 car, .int .u8 per, .slice a3 len3 cap3] w fun e w' => e = .returned (.bool true) ∧ Below w.heap.size w w' := by
  have br := bounds_u64 u0
  have bc := bounds_u8 u1
  have bp := bounds_u8 u2
  obtain ⟨r, rfl⟩ : ∃ r : Nat, r' = r := ⟨r'.toNat, by omega⟩
  have hr : r < 18446744073709551616 := by omega
  unfold maxLen at hx3
  have HL3 := Lib.hid hl3
  have HS3 := Lib.hid hs3
  have HR := Lib.hid hr
  clear u0 u1 u2 hl3 hs3 br hr
  have HA : Hid (∀ W, Calls Try.prog 7 #[] W (Says W (.bool true))) := Lib.hid fun W => Trn.awake_any W
  obtain ⟨k, hk⟩ : ∃ k, car % 64 = k := ⟨_, rfl⟩
  have s1 : car.tmod 64 = k := by rw [Int.tmod_eq_emod_of_nonneg (by omega)]; exact hk
  have s2 : IntKind.u8.wrap k = k := IntWalk.u8_in _ (by omega)
  have s3 : IntKind.i64.wrap k = k := IntWalk.i64_in _ (by omega)
  obtain ⟨n, hn⟩ : ∃ n, per % 20 = n := ⟨_, rfl⟩
  have t1 : per.tmod 20 = n := by rw [Int.tmod_eq_emod_of_nonneg (by omega)]; exact hn
  have t2 : IntKind.u8.wrap n = n := IntWalk.u8_in _ (by omega)
  have t3 : IntKind.i64.wrap n = n := IntWalk.i64_in _ (by omega)
  obtain ⟨p, hp⟩ : ∃ p, n + 1 = p := ⟨_, rfl⟩
  have t4 : IntKind.i64.wrap (n + 1) = p := by rw [hp]; exact IntWalk.i64_in _ (by omega)
  have HB := Lib.hid (⟨by omega, by omega, by omega, by omega⟩ : 1 ≤ p ∧ p ≤ 20 ∧ 0 ≤ k ∧ k < 64)
  have HH : Hid (∀ W, Calls Try.prog 13 #[.int .u64 r, .int .i64 k] W fun e w' => e = .returned (.bool (hb r k)) ∧ W = w') := Lib.hid fun W => Has_any r k W HR.out
  obtain ⟨hh, HHH⟩ : ∃ hh, hb r k = hh := ⟨_, rfl⟩
  rw [HHH] at HH
  have HG := Lib.hid HHH
  clear hk hn hp bc bp HHH
  by_cases hbig : 100 < len3
  · have g1 : decide ((100 : Int) < (len3 : Int)) = true := by simp; omega
    go_enter Try.func6, Try.ntmps6
    go_wp2_with (go_at_call 7; refine (HA.out _).mono ?_; rintro e w1 ⟨rfl, h1⟩)
    go_ret
    exact ⟨rfl, h1⟩
  have g1 : decide ((100 : Int) < (len3 : Int)) = false := by simp; omega
  have HLN := Lib.hid (by omega : len3 ≤ 100)
  clear hbig
  cases hh
  · go_enter Try.func6, Try.ntmps6
    go_wp2_with (first
      | (go_at_call 7; refine (HA.out _).mono ?_; rintro e w1 ⟨rfl, h1⟩)
      | (go_at_call 13; refine (HH.out _).mono ?_; rintro e w' ⟨rfl, rfl⟩))
    go_ret
    exact ⟨rfl, h1⟩
  have HN : Hid (∀ W, Calls Try.prog 12 #[] W (Says W (.agg #[.int .i64 (-1), .int .i64 0]))) := Lib.hid (fun W => Trn.None_any W)
  have HP : Hid (∀ W, Calls Try.prog 10 #[.agg #[.int .i64 (-1), .int .i64 0], .int .i64 k, .int .u64 r, .bool false, .int .i64 p] W (Says W (.tuple #[.agg #[.int .i64 k, .int .i64 p], .bool true]))) := Lib.hid fun W => by
    have := Trn.Pick_any no k r false p HR.out W
    have e : pk no k r false p = ⟨k, p⟩ := by
      unfold pk
      rw [if_neg (by rw [HG.out]; decide), bg_pos p HB.out.2.2.1, show max 1 p = p by have := HB.out; omega]
    rw [e, HG.out] at this
    exact this
  have hj := Lib.hid (J.start w)
  go_enter Try.func6, Try.ntmps6
  go_wp2_with (first
    | (go_at_call 7; refine (HA.out _).mono ?_; rintro e w1 ⟨rfl, h1⟩; have hj1 := Lib.hid (hj.out.next h1); clear h1 hj)
    | (go_at_call 13; refine (HH.out _).mono ?_; rintro e w' ⟨rfl, rfl⟩)
    | (go_at_call 12; refine (HN.out _).mono ?_; rintro e w2 ⟨rfl, h2⟩; have hj2 := Lib.hid (hj1.out.next h2); clear h2 hj1)
    | (go_at_call 10; refine (HP.out _).mono ?_; rintro e w3 ⟨rfl, h3⟩; have HX := Lib.hid (hj2.out.next h3).below.size; have hj3 := Lib.hid ((hj2.out.next h3).push #[.int .i64 k, .int .i64 p] 23); clear h3 hj2; obtain ⟨a0, a1⟩ := (hj3.out.bx 0 rfl).c2))
  clear a0 a1 HP HN
  go_loopw [14, 15] (fun x y wr => ∃ (i : Nat) (q L : Int), x = .int .i64 q ∧ y = .int .i64 i ∧ i ≤ len3 ∧ Hid (0 ≤ q ∧ q < p ∧ L = p - q) ∧ Hid (J w wr [(w3.heap.size, #[.int .i64 k, .int .i64 L])])) (fun _ y _ => len3 - (intOf y).toNat)
  case atStart => exact ⟨0, 0, p, rfl, rfl, Nat.zero_le _, Lib.hid ⟨by decide, by have := HB.out; omega, by omega⟩, hj3⟩
  case round =>
    clear hj3 s1 s2 s3 t1 t2 t3 t4
    obtain ⟨i, q, L, rfl, rfl, hi, hq, hj⟩ := hrel
    by_cases hlt : i < len3
    · have hkz : i < z3.length := by rw [HL3.out]; exact hlt
      obtain ⟨b2, p2, rfl, hb2, hcell2⟩ := HS3.out.at_ (bools_at z3 i hkz)
      generalize z3[i]?.getD false = b at *
      have HC := Lib.hid hcell2
      have HB2 := Lib.hid hb2
      have hways := hand_st (L := L) b HG.out HB.out.1
      have HST : Hid (∀ W, Calls Try.prog 8 #[.agg #[.int .i64 k, .int .i64 L], .int .u64 r, .bool b, .int .i64 p] W (Says W (.agg #[.int .i64 (st ⟨k, L⟩ r b p).c, .int .i64 (st ⟨k, L⟩ r b p).l]))) := Lib.hid fun W => Trn.Step_any ⟨k, L⟩ r b p HR.out (by have := hq.out; have := HB.out; simp only; omega) W
      obtain ⟨⟨sc, sl⟩, hst⟩ : ∃ s, st ⟨k, L⟩ r b p = s := ⟨_, rfl⟩
      rw [hst] at HST hways
      simp only [T.mk.injEq] at HST hways
      have i1 : (i : Int) < (len3 : Int) := by omega
      have e3 : IntKind.i64.wrap ((i : Int) + 1) = ((i + 1 : Nat) : Int) := by rw [IntWalk.i64_in _ (by have := HLN.out; omega)]; rfl
      have HW := Lib.hid hways
      clear hways hst hcell2 hkz hb2
      have hjl : Hid (JS w [(w3.heap.size, #[.int .i64 k, .int .i64 L])] wr) := hj
      clear hj
      go_wp2
      refine wp_region_tail 8 _ JS.closed hjl.out (by kernel_rfl) (by kernel_rfl) ?_
      simp only [List.take_succ_cons, List.take_zero, List.drop_succ_cons, List.drop_zero]
      apply Exists.intro
      refine ⟨fun w4 h4 => ?_, fun W4 hJ4 hz4 => ?_⟩
      · haveI := Ext.some h4
        obtain ⟨q0, q1⟩ := ext2 h4 0 rfl
        have m2 := ext_old h4 (a := ⟨b2, p2 + i, none⟩) HB2.out HC.out
        have k1 := Lib.hid (Ext.calls h4 JS.closed (fun W _ => HST.out W))
        repeat go_big_quiet_step (first | (go_at_call 8; with_reducible exact k1.out _))
        exact wpQuiet_nil rfl
      · obtain ⟨f0, f1⟩ := (J.bx hJ4 0 rfl).f2
        obtain ⟨a0, a1⟩ := (J.bx hJ4 0 rfl).c2
        have hj5 := Lib.hid (jhead2 (x := .int .i64 sc) (y := .int .i64 sl) hJ4 HX.out)
        clear hz4 hjl hJ4
        change wpList _ _ _ _ _ _
        obtain ⟨W5, hW5⟩ : ∃ W5, (W4.setCell ⟨w3.heap.size, 0, none⟩ (.int .i64 sc)).setCell ⟨w3.heap.size, 1, none⟩ (.int .i64 sl) = W5 := ⟨_, rfl⟩
        rw [hW5] at hj5
        obtain ⟨c0, c1⟩ := (hj5.out.bx 0 rfl).c2
        have m5 := (hj5.out.below.cell (p := ⟨b2, p2 + i, none⟩) HB2.out).trans HC.out
        rcases HW.out with ⟨rfl, rfl, rfl⟩ | ⟨rfl, hL, rfl, rfl⟩ | ⟨rfl, hL, hsc0, rfl⟩
        · have d1 : decide (q < p) = true := by have := hq.out; simp; omega
          have d2 : ¬ p ≤ q := by have := hq.out; omega
          have e1 : IntKind.i64.wrap (p - q) = sl := by have := hq.out; have := HB.out; rw [IntWalk.i64_in _ (by omega)]; omega
          clear HW
          go_wp2
          go_roundw
          case rel => exact ⟨i + 1, q, sl, rfl, rfl, by omega, hq, hj5⟩
          case measure => simp [intOf]; omega
        · obtain ⟨kk, hkk⟩ : ∃ kk, q + 1 = kk := ⟨_, rfl⟩
          have e0 : IntKind.i64.wrap (q + 1) = kk := by have := hq.out; have := HB.out; rw [IntWalk.i64_in _ (by omega)]; exact hkk
          obtain ⟨L', hL'⟩ : ∃ L', L - 1 = L' := ⟨_, rfl⟩
          rw [hL'] at hj5 c1 hW5
          have hq' : Hid (0 ≤ kk ∧ kk < p ∧ L' = p - kk) := Lib.hid (by have := hq.out; omega)
          have d1 : decide (kk < p) = true := by have := hq'.out; simp; omega
          have d2 : ¬ p ≤ kk := by have := hq'.out; omega
          have e1 : IntKind.i64.wrap (p - kk) = L' := by have := hq'.out; have := HB.out; rw [IntWalk.i64_in _ (by omega)]; omega
          clear HW hkk hL hq
          rw [hL']
          clear hL'
          go_wp2
          go_roundw
          case rel => exact ⟨i + 1, kk, L', rfl, rfl, by omega, hq', hj5⟩
          case measure => simp [intOf]; omega
        · have e0 : IntKind.i64.wrap (q + 1) = sl := by have := hq.out; have := HB.out; rw [IntWalk.i64_in _ (by omega)]; omega
          have hsc := hsc0.symm
          clear hsc0
          have hx : hb r sc = true := by rw [← hsc]; exact nb_has k HG.out
          have HX2 : Hid (∀ W, Calls Try.prog 13 #[.int .u64 r, .int .i64 sc] W fun e w' => e = .returned (.bool true) ∧ W = w') := Lib.hid fun W => by
            have := Has_any r sc W HR.out
            rwa [hx] at this
          by_cases hs : sc = k
          · subst hs
            have HWO : Hid (∀ W, Calls Try.prog 14 #[.int .u64 r, .int .i64 sc] W fun e w' => e = .returned (.int .u64 0) ∧ W = w') := Lib.hid fun W => by
              have := Without_any r sc W HR.out
              rwa [wo_alone HR.out (nb_self hsc HG.out)] at this
            clear HW hL hq hsc hx
            go_wp2_with (first
              | (go_at_call 13; refine (HX2.out _).mono ?_; rintro e w' ⟨rfl, rfl⟩)
              | (go_at_call 14; refine (HWO.out _).mono ?_; rintro e w' ⟨rfl, rfl⟩))
            go_ret
            exact ⟨rfl, hj5.out.below⟩
          · clear HW hL hq hsc hx
            have hs' : (sc == k) = false := by simpa using hs
            go_wp2_with (first
              | (go_at_call 13; refine (HX2.out _).mono ?_; rintro e w' ⟨rfl, rfl⟩))
            go_ret
            exact ⟨rfl, hj5.out.below⟩
    · obtain rfl : i = len3 := by omega
      go_wp2
      go_ret
      exact ⟨rfl, hj.out.below⟩
end Go.Proofs.Ytalkngnejnkemaa.Walk
