/- The reference of layer 19. -/
import Derived.Test.YtmacnecjgdjdiaaOrdA
import Derived.Test.YtmacnecjgdjdiaaPlain
import Derived.Test.YtmacnecjgdjdiaaSees
import Derived.LoopN
namespace Go.Proofs.Ytmacnecjgdjdiaa.Ord
open Go.RowKit Go.Proofs.Ytmacnecjgdjdiaa.Plain Go.Proofs.Ytmacnecjgdjdiaa.OrdP Go.Proofs.Ytmacnecjgdjdiaa.Sees
set_option linter.unusedVariables false

theorem half (b k : Nat) : b / 2 ^ k / 2 = b / 2 ^ (k + 1) := by rw [Nat.div_div_eq_div_mul, Nat.pow_succ]

theorem roHas_any (b : Nat) (c : Int) (w : World) (hl : b < 18446744073709551616) : Calls Try.prog 9 #[.int .u64 b, .int .i64 c] w fun e w' => e = .returned (.bool (hb b c)) ∧ w = w' := by
  by_cases h0 : c < 0
  · rw [hb_out (inb_no.2 (by omega))]
    go_enter Try.func9, Try.ntmps9
    go_wp2
    go_ret
    exact ⟨rfl, rfl⟩
  · by_cases h1 : 63 < c
    · rw [hb_out (inb_no.2 (by omega))]
      go_enter Try.func9, Try.ntmps9
      go_wp2
      go_ret
      exact ⟨rfl, rfl⟩
    · obtain ⟨m, rfl⟩ : ∃ m : Nat, c = m := ⟨c.toNat, by omega⟩
      have hend : Hid ((((b / 2 ^ m : Nat) : Int) % 2 == 1) = hb b m) := Lib.hid (by
        unfold hb
        rw [inb_iff.2 (by omega), Bool.true_and, Int.toNat_natCast, Nat.testBit_eq_decide_div_mod_eq]
        generalize b / 2 ^ m = x
        by_cases hx : x % 2 = 1
        · rw [decide_eq_true hx]; simp; omega
        · rw [decide_eq_false hx]; simp; omega)
      go_enter Try.func9, Try.ntmps9
      go_wp2
      go_loop [0, 5] (fun x i => ∃ k d : Nat, i = .int .i64 k ∧ k ≤ m ∧ x = .int .u64 d ∧ Hid (d = b / 2 ^ k)) (fun _ i => m - (intOf i).toNat)
      case atStart => exact ⟨0, b, rfl, Nat.zero_le _, rfl, Lib.hid (by simp)⟩
      case round =>
        obtain ⟨k, d, rfl, hk, rfl, hd⟩ := hrel
        by_cases hlt : k < m
        · have i1 : (k : Int) < (m : Int) := by omega
          have hdl : d < 18446744073709551616 := by have := hd.out; have h2 := Nat.div_le_self b (2 ^ k); omega
          have e1 : IntKind.u64.wrap ((d : Int) / 2) = ((d / 2 : Nat) : Int) := by rw [IntWalk.u64_in _ (by omega)]; omega
          go_wp2
          go_round
          case rel => exact ⟨k + 1, d / 2, rfl, by omega, congrArg _ (by omega), Lib.hid (by rw [hd.out, half])⟩
          case measure => simp [intOf]; omega
        · obtain rfl : k = m := by omega
          rw [← hd.out] at hend
          go_wp2
          go_ret
          exact ⟨congrArg (fun t => Ending.returned (.bool t)) hend.out, rfl⟩

theorem roOne_any (c : Int) (w : World) : Calls Try.prog 10 #[.int .i64 c] w fun e w' => e = .returned (.int .u64 (bt c : Nat)) ∧ w = w' := by
  by_cases h0 : c < 0
  · rw [bt_out (inb_no.2 (by omega))]
    go_enter Try.func10, Try.ntmps10
    go_wp2
    go_ret
    exact ⟨rfl, rfl⟩
  · by_cases h1 : 63 < c
    · rw [bt_out (inb_no.2 (by omega))]
      go_enter Try.func10, Try.ntmps10
      go_wp2
      go_ret
      exact ⟨rfl, rfl⟩
    · obtain ⟨m, rfl⟩ : ∃ m : Nat, c = m := ⟨c.toNat, by omega⟩
      rw [bt_in (inb_iff.2 (by omega)), Int.toNat_natCast]
      obtain ⟨y, hy⟩ : ∃ y, 2 ^ m = y := ⟨_, rfl⟩
      rw [hy]
      have HY := Lib.hid hy
      clear hy
      go_enter Try.func10, Try.ntmps10
      go_wp2
      go_loop [3, 4] (fun x i => ∃ k d : Nat, i = .int .i64 k ∧ k ≤ m ∧ x = .int .u64 d ∧ Hid (d = 2 ^ k)) (fun _ i => m - (intOf i).toNat)
      case atStart => exact ⟨0, 1, rfl, Nat.zero_le _, rfl, Lib.hid rfl⟩
      case round =>
        obtain ⟨k, d, rfl, hk, rfl, hd⟩ := hrel
        by_cases hlt : k < m
        · have i1 : (k : Int) < (m : Int) := by omega
          have hdl : d * 2 < 18446744073709551616 := by
            have e : d * 2 = 2 ^ (k + 1) := by rw [hd.out, Nat.pow_succ]
            rw [e]
            exact Nat.pow_lt_pow_right (a := 2) (n := 64) (by decide) (by omega)
          have e1 : IntKind.u64.wrap ((d : Int) * 2) = ((d * 2 : Nat) : Int) := by rw [IntWalk.u64_in _ (by omega)]; omega
          go_wp2
          go_round
          case rel => exact ⟨k + 1, d * 2, rfl, by omega, congrArg _ (by omega), Lib.hid (by rw [hd.out, Nat.pow_succ])⟩
          case measure => simp [intOf]; omega
        · obtain rfl : k = m := by omega
          obtain rfl : d = y := hd.out.trans HY.out
          go_wp2
          go_ret
          exact ⟨rfl, rfl⟩

theorem fr_take {d o : Nat} {l : List Int} {k : Nat} {x : Int} (h : l[k]? = some x) : fr d o (l.take (k + 1)) = if (inb x && !hb d x && !hb o x) = true then fr d o (l.take k) ++ [x] else fr d o (l.take k) := by
  rw [List.take_add_one, h]
  unfold fr
  rw [List.filter_append]
  cases hh : inb x && !hb d x && !hb o x
  · simp [hh]
  · simp [hh]
theorem head_snoc (xs : List Int) (x : Int) : (xs ++ [x]).headD (-1) = if xs.length = 0 then x else xs.headD (-1) := by
  cases xs <;> simp

set_option maxHeartbeats 3200000 in
theorem roNext_any (d o : Nat) (l : List Int) (A : Option Addr) (n c : Nat) (w : World) (hd : d < 18446744073709551616) (ho : o < 18446744073709551616) (hl : l.length = n) (hn : n ≤ 1000) (hs : Sees w w.heap.size A (nums .i64 l)) :
    Calls Try.prog 8 #[.slice A n c, .int .u64 d, .int .u64 o] w fun e w' => e = .returned (.tuple #[.int .i64 (nx d o l), .int .i64 (lf d o l : Nat)]) ∧ w = w' := by
  have HS := Lib.hid hs
  have HL := Lib.hid hl
  have H1 := Lib.hid fun x W => roHas_any d x W hd
  have H2 := Lib.hid fun x W => roHas_any o x W ho
  clear hs hl hd ho
  go_enter Try.func8, Try.ntmps8
  go_wp2
  go_loop [8, 9, 10] (fun f t i => ∃ (k q : Nat) (z : Int), i = .int .i64 k ∧ k ≤ n ∧ f = .int .i64 z ∧ t = .int .i64 q ∧ q ≤ k ∧ Hid (z = nx d o (l.take k) ∧ q = lf d o (l.take k))) (fun _ _ i => n - (intOf i).toNat)
  case atStart => exact ⟨0, 0, -1, rfl, Nat.zero_le _, rfl, rfl, Nat.le_refl _, Lib.hid ⟨rfl, rfl⟩⟩
  case round =>
    obtain ⟨k, q, z, rfl, hk, rfl, rfl, hq, hf⟩ := hrel
    by_cases hlt : k < n
    · have i1 : (k : Int) < (n : Int) := by omega
      obtain ⟨x, hx⟩ : ∃ x, l[k]? = some x := ⟨_, List.getElem?_eq_getElem (by rw [HL.out]; omega)⟩
      obtain ⟨b, p, rfl, hbB, k0⟩ := HS.out.at_ (k := k) (u := .int .i64 x) (by unfold nums; rw [List.getElem?_map, hx]; rfl)
      have HF := Lib.hid (fr_take (d := d) (o := o) hx)
      have HX1 := Lib.hid (H1.out x)
      have HX2 := Lib.hid (H2.out x)
      have e1 : IntKind.i64.wrap ((q : Int) + 1) = ((q + 1 : Nat) : Int) := by rw [IntWalk.i64_in _ (by omega)]; rfl
      clear H1 H2 hx
      have hw : (x < 0 ∧ (inb x && !hb d x && !hb o x) = false) ∨ (¬ x < 0 ∧ 63 < x ∧ (inb x && !hb d x && !hb o x) = false) ∨ (¬ x < 0 ∧ ¬ 63 < x ∧ inb x = true) := by
        by_cases a : x < 0
        · exact .inl ⟨a, by rw [inb_no.2 (by omega)]; rfl⟩
        · by_cases b : 63 < x
          · exact .inr (.inl ⟨a, b, by rw [inb_no.2 (by omega)]; rfl⟩)
          · exact .inr (.inr ⟨a, b, inb_iff.2 (by omega)⟩)
      rcases hw with ⟨a1, hi⟩ | ⟨a1, a2, hi⟩ | ⟨a1, a2, hi⟩
      · rw [hi] at HF
        clear hi
        go_wp2
        go_round
        case rel => exact ⟨k + 1, q, z, rfl, by omega, rfl, rfl, by omega, Lib.hid (by unfold nx lf; rw [HF.out]; exact hf.out)⟩
        case measure => simp [intOf]; omega
      · rw [hi] at HF
        clear hi
        go_wp2
        go_round
        case rel => exact ⟨k + 1, q, z, rfl, by omega, rfl, rfl, by omega, Lib.hid (by unfold nx lf; rw [HF.out]; exact hf.out)⟩
        case measure => simp [intOf]; omega
      · rw [hi, Bool.true_and] at HF
        clear hi
        cases h1 : hb d x
        · cases h2 : hb o x
          · rw [h1, h2] at HF
            rw [h1] at HX1
            rw [h2] at HX2
            have HF' : Hid (fr d o (l.take (k + 1)) = fr d o (l.take k) ++ [x]) := Lib.hid (by rw [HF.out]; rfl)
            clear h1 h2 HF
            have hh : (fr d o (l.take k)).length = q := hf.out.2.symm
            by_cases hq0 : q = 0
            · subst hq0
              go_wp2_with (first
                | (go_at_call 9; (with_reducible refine (HX1.out _).mono ?_); clear HX1; rintro e w' ⟨rfl, rfl⟩)
                | (go_at_call 9; (with_reducible refine (HX2.out _).mono ?_); rintro e w' ⟨rfl, rfl⟩))
              go_round
              case rel => exact ⟨k + 1, 1, x, rfl, by omega, rfl, rfl, by omega, Lib.hid (by unfold nx lf; rw [HF'.out, head_snoc, if_pos hh, List.length_append, hh]; exact ⟨rfl, rfl⟩)⟩
              case measure => simp [intOf]; omega
            · have n1 : ¬ (q : Int) = 0 := by omega
              go_wp2_with (first
                | (go_at_call 9; (with_reducible refine (HX1.out _).mono ?_); clear HX1; rintro e w' ⟨rfl, rfl⟩)
                | (go_at_call 9; (with_reducible refine (HX2.out _).mono ?_); rintro e w' ⟨rfl, rfl⟩))
              go_round
              case rel => exact ⟨k + 1, q + 1, z, rfl, by omega, rfl, rfl, by omega, Lib.hid (by unfold nx lf; rw [HF'.out, head_snoc, if_neg (by omega), List.length_append, hh]; exact ⟨hf.out.1, rfl⟩)⟩
              case measure => simp [intOf]; omega
          · rw [h1, h2] at HF
            rw [h1] at HX1
            rw [h2] at HX2
            have HF' : Hid (fr d o (l.take (k + 1)) = fr d o (l.take k)) := Lib.hid (by rw [HF.out]; rfl)
            clear h1 h2 HF
            go_wp2_with (first
                | (go_at_call 9; (with_reducible refine (HX1.out _).mono ?_); clear HX1; rintro e w' ⟨rfl, rfl⟩)
                | (go_at_call 9; (with_reducible refine (HX2.out _).mono ?_); rintro e w' ⟨rfl, rfl⟩))
            go_round
            case rel => exact ⟨k + 1, q, z, rfl, by omega, rfl, rfl, by omega, Lib.hid (by unfold nx lf; rw [HF'.out]; exact hf.out)⟩
            case measure => simp [intOf]; omega
        · rw [h1] at HF HX1
          have HF' : Hid (fr d o (l.take (k + 1)) = fr d o (l.take k)) := Lib.hid (by rw [HF.out]; rfl)
          clear h1 HF HX2
          go_wp2_with (go_at_call 9; (with_reducible refine (HX1.out _).mono ?_); rintro e w' ⟨rfl, rfl⟩)
          go_round
          case rel => exact ⟨k + 1, q, z, rfl, by omega, rfl, rfl, by omega, Lib.hid (by unfold nx lf; rw [HF'.out]; exact hf.out)⟩
          case measure => simp [intOf]; omega
    · obtain rfl : k = n := by omega
      have hf' := hf.out
      rw [List.take_of_length_le (by rw [HL.out]; exact Nat.le_refl _)] at hf'
      obtain ⟨rfl, rfl⟩ := hf'
      go_wp2
      go_ret2
      exact ⟨rfl, rfl⟩
end Go.Proofs.Ytmacnecjgdjdiaa.Ord
