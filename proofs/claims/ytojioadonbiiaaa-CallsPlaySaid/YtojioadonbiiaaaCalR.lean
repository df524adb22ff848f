/- The reference of layer 22. -/
import Derived.Test.YtojioadonbiiaaaCalE
import Derived.LoopN
namespace Go.Proofs.Ytojioadonbiiaaa.Cal
open Go.RowKit Go.Proofs.Ytojioadonbiiaaa.CalP Go.Proofs.Ytojioadonbiiaaa.Box Go.Proofs.Ytojioadonbiiaaa.Held
set_option linter.unusedVariables false

theorem half (b k : Nat) : b / 2 ^ k / 2 = b / 2 ^ (k + 1) := by rw [Nat.div_div_eq_div_mul, Nat.pow_succ]

theorem rcHas_any (b : Nat) (c : Int) (w : World) (hl : b < 4294967296) : Calls Try.prog 19 #[.int .u32 b, .int .i64 c] w fun e w' => e = .returned (.bool (hb b c)) ∧ w = w' := by
  by_cases h0 : c < 0
  · rw [hb_out (inb_no.2 (by omega))]
    go_enter Try.func19, Try.ntmps19
    go_wp2
    go_ret
    exact ⟨rfl, rfl⟩
  · by_cases h1 : 31 < c
    · rw [hb_out (inb_no.2 (by omega))]
      go_enter Try.func19, Try.ntmps19
      go_wp2
      go_ret
      exact ⟨rfl, rfl⟩
    · obtain ⟨m, rfl⟩ : ∃ m : Nat, c = m := ⟨c.toNat, by omega⟩
      have hend : Hid ((((b / 2 ^ m : Nat) : Int) % 2 == 1) = hb b m) := Lib.hid (by
        unfold hb
        rw [inb_iff.2 (by omega), Bool.true_and, Int.toNat_natCast, Nat.testBit_eq_decide_div_mod_eq]
        generalize b / 2 ^ m = x
        by_cases hx : x % 2 = 1
        · rw [decide_eq_true hx]; simp; omega
        · rw [decide_eq_false hx]; simp; omega)
      go_enter Try.func19, Try.ntmps19
      go_wp2
      go_loop [0, 5] (fun x i => ∃ k d : Nat, i = .int .i64 k ∧ k ≤ m ∧ x = .int .u32 d ∧ Hid (d = b / 2 ^ k)) (fun _ i => m - (intOf i).toNat)
      case atStart => exact ⟨0, b, rfl, Nat.zero_le _, rfl, Lib.hid (by simp)⟩
      case round =>
        obtain ⟨k, d, rfl, hk, rfl, hd⟩ := hrel
        by_cases hlt : k < m
        · have i1 : (k : Int) < (m : Int) := by omega
          have hdl : d < 4294967296 := by have := hd.out; have h2 := Nat.div_le_self b (2 ^ k); omega
          have e1 : IntKind.u32.wrap ((d : Int) / 2) = ((d / 2 : Nat) : Int) := by rw [IntWalk.u32_in _ (by omega)]; omega
          go_wp2
          go_round
          case rel => exact ⟨k + 1, d / 2, rfl, by omega, congrArg _ (by omega), Lib.hid (by rw [hd.out, half])⟩
          case measure => simp [intOf]; omega
        · obtain rfl : k = m := by omega
          rw [← hd.out] at hend
          go_wp2
          go_ret
          exact ⟨congrArg (fun t => Ending.returned (.bool t)) hend.out, rfl⟩

theorem rcOne_any (m : Nat) (hm : m < 32) (w : World) : Calls Try.prog 20 #[.int .i64 m] w fun e w' => e = .returned (.int .u32 (bt (m : Int) : Nat)) ∧ w = w' := by
  rw [bt_in (inb_iff.2 (by omega)), Int.toNat_natCast]
  obtain ⟨y, hy⟩ : ∃ y, 2 ^ m = y := ⟨_, rfl⟩
  rw [hy]
  have HY := Lib.hid hy
  clear hy
  go_enter Try.func20, Try.ntmps20
  go_wp2
  go_loop [3, 4] (fun x i => ∃ k d : Nat, i = .int .i64 k ∧ k ≤ m ∧ x = .int .u32 d ∧ Hid (d = 2 ^ k)) (fun _ i => m - (intOf i).toNat)
  case atStart => exact ⟨0, 1, rfl, Nat.zero_le _, rfl, Lib.hid rfl⟩
  case round =>
    obtain ⟨k, d, rfl, hk, rfl, hd⟩ := hrel
    by_cases hlt : k < m
    · have i1 : (k : Int) < (m : Int) := by omega
      have hdl : d * 2 < 4294967296 := by
        have e : d * 2 = 2 ^ (k + 1) := by rw [hd.out, Nat.pow_succ]
        rw [e]
        exact Nat.pow_lt_pow_right (a := 2) (n := 32) (by decide) (by omega)
      have e1 : IntKind.u32.wrap ((d : Int) * 2) = ((d * 2 : Nat) : Int) := by rw [IntWalk.u32_in _ (by omega)]; omega
      go_wp2
      go_round
      case rel => exact ⟨k + 1, d * 2, rfl, by omega, congrArg _ (by omega), Lib.hid (by rw [hd.out, Nat.pow_succ])⟩
      case measure => simp [intOf]; omega
    · obtain rfl : k = m := by omega
      obtain rfl : d = y := hd.out.trans HY.out
      go_wp2
      go_ret
      exact ⟨rfl, rfl⟩

theorem rcWith_any (x : Nat) (hx : x < 4294967296) (f n : Int) (w : World) : Calls Try.prog 10 #[.int .u32 x, .int .i64 f, .int .i64 n] w fun e w' => e = .returned (.tuple #[.int .u32 ((if isF f n = true then wi x f else x) : Nat), .bool (isF f n)]) ∧ w = w' := by
  by_cases h0 : f < 0
  · have e : isF f n = false := by unfold isF; rw [inb_no.2 (by omega)]; simp
    rw [e, if_neg (by decide)]
    go_enter Try.func10, Try.ntmps10
    go_wp2
    go_ret2
    exact ⟨rfl, rfl⟩
  · by_cases h1 : 31 < f
    · have e : isF f n = false := by unfold isF; rw [inb_no.2 (by omega)]; simp
      rw [e, if_neg (by decide)]
      go_enter Try.func10, Try.ntmps10
      go_wp2
      go_ret2
      exact ⟨rfl, rfl⟩
    · by_cases h2 : n ≤ f
      · have e : isF f n = false := by unfold isF; rw [decide_eq_false (by omega)]; rfl
        rw [e, if_neg (by decide)]
        go_enter Try.func10, Try.ntmps10
        go_wp2
        go_ret2
        exact ⟨rfl, rfl⟩
      · have hi : inb f = true := inb_iff.2 (by omega)
        have e : isF f n = true := by unfold isF; rw [decide_eq_true (by omega), hi]; rfl
        rw [e, if_pos rfl]
        obtain ⟨m, rfl⟩ : ∃ m : Nat, f = m := ⟨f.toNat, by omega⟩
        have HH := Lib.hid (fun W => rcHas_any x m W hx)
        have HO := Lib.hid (fun W => rcOne_any m (by omega) W)
        cases hh : hb x m
        · have hs := wi_add hx hh
          have hl := wi_lt (m : Int) hx
          have hs' : IntKind.u32.wrap ((x : Int) + (bt (m : Int) : Nat)) = ((wi x m : Nat) : Int) := by rw [hs] at hl ⊢; rw [IntWalk.u32_in _ (by omega)]; rfl
          rw [hh] at HH
          clear hs hl
          generalize wi x m = y at *
          generalize bt (m : Int) = d at *
          go_enter Try.func10, Try.ntmps10
          go_wp2_with (first
            | (go_at_call 19; refine (HH.out _).mono ?_; rintro e w' ⟨rfl, rfl⟩)
            | (go_at_call 20; refine (HO.out _).mono ?_; rintro e w' ⟨rfl, rfl⟩))
          go_ret2
          exact ⟨rfl, rfl⟩
        · rw [wi_has hh]
          rw [hh] at HH
          go_enter Try.func10, Try.ntmps10
          go_wp2_with (first
            | (go_at_call 19; refine (HH.out _).mono ?_; rintro e w' ⟨rfl, rfl⟩))
          go_ret2
          exact ⟨rfl, rfl⟩

theorem rcWithout_any (x : Nat) (hx : x < 4294967296) (f : Int) (w : World) : Calls Try.prog 13 #[.int .u32 x, .int .i64 f] w fun e w' => e = .returned (.int .u32 (wo x f : Nat)) ∧ w = w' := by
  have HH := Lib.hid (fun W => rcHas_any x f W hx)
  cases hh : hb x f
  · rw [wo_hasnt hx hh]
    rw [hh] at HH
    go_enter Try.func13, Try.ntmps13
    go_wp2_with (go_at_call 19; refine (HH.out _).mono ?_; rintro e w' ⟨rfl, rfl⟩)
    go_ret
    exact ⟨rfl, rfl⟩
  · have hg := hb_ge hh
    obtain ⟨m, rfl⟩ : ∃ m : Nat, f = m := ⟨f.toNat, by omega⟩
    have HO := Lib.hid (fun W => rcOne_any m (by omega) W)
    have hs := wo_sub hx hh
    have hs' : IntKind.u32.wrap ((x : Int) - (bt (m : Int) : Nat)) = ((wo x m : Nat) : Int) := by rw [IntWalk.u32_in _ (by omega)]; omega
    rw [hh] at HH
    clear hs
    generalize wo x m = y at *
    generalize bt (m : Int) = d at *
    go_enter Try.func13, Try.ntmps13
    go_wp2_with (first
      | (go_at_call 19; refine (HH.out _).mono ?_; rintro e w' ⟨rfl, rfl⟩)
      | (go_at_call 20; refine (HO.out _).mono ?_; rintro e w' ⟨rfl, rfl⟩))
    go_ret
    exact ⟨rfl, rfl⟩

theorem rcMany_any (x : Nat) (hx : x < 4294967296) (w : World) : Calls Try.prog 15 #[.int .u32 x] w fun e w' => e = .returned (.int .i64 (pc x : Nat)) ∧ w = w' := by
  have HH : Hid (∀ (f : Int) W, Calls Try.prog 19 #[.int .u32 x, .int .i64 f] W fun e w' => e = .returned (.bool (hb x f)) ∧ W = w') := Lib.hid fun f W => rcHas_any x f W hx
  go_enter Try.func15, Try.ntmps15
  go_wp2
  go_loop [3, 4, 5] (fun t i is => ∃ k s : Nat, i = .int .i64 k ∧ k ≤ 32 ∧ t = .int .i64 s ∧ s ≤ k ∧ Hid (s = (fk x k).length)) (fun _ i _ => 32 - (intOf i).toNat)
  case atStart => exact ⟨0, 0, rfl, Nat.zero_le _, rfl, Nat.le_refl _, Lib.hid rfl⟩
  case round =>
    obtain ⟨k, s, rfl, hk, rfl, hs, hS⟩ := hrel
    by_cases hlt : k < 32
    · have i1 : (k : Int) < 32 := by omega
      have HF := Lib.hid (fk_succ x hlt)
      have HX := Lib.hid (HH.out (k : Int))
      have e1 : IntKind.i64.wrap ((k : Int) + 1) = ((k + 1 : Nat) : Int) := by rw [IntWalk.i64_in _ (by omega)]; rfl
      have e2 : IntKind.i64.wrap ((s : Int) + 1) = ((s + 1 : Nat) : Int) := by rw [IntWalk.i64_in _ (by omega)]; rfl
      clear HH
      cases hh : hb x k
      · have HF' : Hid (fk x (k + 1) = fk x k) := Lib.hid (by rw [HF.out, hh, if_neg (by decide)])
        rw [hh] at HX
        clear hh HF
        go_wp2_with (go_at_call 19; refine (HX.out _).mono ?_; rintro e w' ⟨rfl, rfl⟩)
        go_round
        case rel => exact ⟨k + 1, s, rfl, by omega, rfl, by omega, Lib.hid (by rw [HF'.out]; exact hS.out)⟩
        case measure => simp [intOf]; omega
      · have HF' : Hid (fk x (k + 1) = fk x k ++ [(k : Int)]) := Lib.hid (by rw [HF.out, hh, if_pos rfl])
        rw [hh] at HX
        clear hh HF
        go_wp2_with (go_at_call 19; refine (HX.out _).mono ?_; rintro e w' ⟨rfl, rfl⟩)
        go_round
        case rel => exact ⟨k + 1, s + 1, rfl, by omega, rfl, by omega, Lib.hid (by rw [HF'.out, List.length_append, hS.out]; rfl)⟩
        case measure => simp [intOf]; omega
    · obtain rfl : k = 32 := by omega
      have e := hS.out
      rw [fk_all] at e
      have HE := Lib.hid e
      clear e hS
      go_wp2
      go_ret
      exact ⟨ret_int (by rw [HE.out]; rfl), rfl⟩
end Go.Proofs.Ytojioadonbiiaaa.Cal
