/- Contracts of calls' small functions: how many bits are 1, a floor's bit, whether there is such a floor, how far it is. -/
import Derived.Test.YtojioadonbiiaaaRows
import Derived.Test.YtojioadonbiiaaaCalP
import Derived.Test.YtojioadonbiiaaaHeld
import Derived.Lib.Hide
import Derived.Lib.Tables
import Derived.ProofKit
import Derived.IntWalk
import Derived.Laws.BitsAllLaws
import Derived.Laws.ShiftsVarLaws
namespace Go.Proofs.Ytojioadonbiiaaa.Cal
open Go.RowKit Go.Proofs.Ytojioadonbiiaaa.CalP Go.Proofs.Ytojioadonbiiaaa.Box Go.Proofs.Ytojioadonbiiaaa.Held
set_option linter.unusedVariables false

theorem bt_wrap {c : Int} (h : inb c = true) : IntKind.u32.wrap (2 ^ c.toNat) = ((bt c : Nat) : Int) := by
  have := bt_lt c
  rw [bt_in h] at this ⊢
  rw [show ((2 : Int) ^ c.toNat) = ((2 ^ c.toNat : Nat) : Int) by simp]
  generalize 2 ^ c.toNat = x at *
  exact IntWalk.u32_in _ (by omega)
theorem bit_any (c : Int) (w : World) : Calls Try.prog 23 #[.int .i64 c] w fun e w' => e = .returned (.int .u32 (bt c : Nat)) ∧ w = w' := by
  by_cases h0 : c < 0
  · rw [bt_out (inb_no.2 (by omega))]
    go_enter Try.func23, Try.ntmps23
    go_wp2
    go_ret
    exact ⟨rfl, rfl⟩
  · by_cases h1 : 32 ≤ c
    · rw [bt_out (inb_no.2 (by omega))]
      go_enter Try.func23, Try.ntmps23
      go_wp2
      go_ret
      exact ⟨rfl, rfl⟩
    · have hb := bt_wrap (inb_iff.2 (by omega) : inb c = true)
      generalize bt c = b at *
      go_enter Try.func23, Try.ntmps23
      go_wp2
      go_ret
      exact ⟨rfl, rfl⟩

theorem isFloor_any (f n : Int) (w : World) : Calls Try.prog 22 #[.int .i64 f, .int .i64 n] w fun e w' => e = .returned (.bool (isF f n)) ∧ w = w' := by
  have HB := Lib.hid (fun W => bit_any f W)
  have h1 : ((((bt f : Nat) : Int)) != 0) = inb f := by
    cases h : inb f
    · rw [bt_out h]; rfl
    · rw [bt_in h]
      have : ¬ 2 ^ f.toNat = 0 := by have := Nat.two_pow_pos f.toNat; omega
      generalize 2 ^ f.toNat = x at *
      simp [this]
  have H1 := Lib.hid h1
  clear h1
  unfold isF
  generalize bt f = d at *
  by_cases h : f < n
  · rw [decide_eq_true h, Bool.true_and]
    go_enter Try.func22, Try.ntmps22
    go_wp2_with (go_at_call 23; refine (HB.out _).mono ?_; rintro e w' ⟨rfl, rfl⟩)
    go_ret
    exact ⟨congrArg (fun t => Ending.returned (.bool t)) H1.out, rfl⟩
  · rw [decide_eq_false h, Bool.false_and]
    go_enter Try.func22, Try.ntmps22
    go_wp2
    go_ret
    exact ⟨rfl, rfl⟩

theorem way_any (f p : Int) (hf : 0 ≤ f ∧ f < 32) (hp : 0 ≤ p ∧ p ≤ 248) (w : World) : Calls Try.prog 29 #[.int .i64 f, .int .i64 p] w fun e w' => e = .returned (.int .i64 (wy f p)) ∧ w = w' := by
  have e1 : IntKind.i64.wrap (f * 8) = 8 * f := by rw [IntWalk.i64_in _ (by omega)]; omega
  have e2 : IntKind.i64.wrap (8 * f - p) = 8 * f - p := IntWalk.i64_in _ (by omega)
  have e3 : IntKind.i64.wrap (p - 8 * f) = p - 8 * f := IntWalk.i64_in _ (by omega)
  have m1 : ∀ W, (Builtin.max_ #[3, 3] 3 #[.int .i64 (8 * f - p), .int .i64 (p - 8 * f)]).run Try.prog W = .ok (.int .i64 (wy f p)) W := fun W => by
    rw [run_max_int2]; unfold wy; congr 2; split <;> omega
  generalize wy f p = y at *
  go_enter Try.func29, Try.ntmps29
  go_wp2
  go_ret
  exact ⟨rfl, rfl⟩

theorem pop_cnt (x : Nat) (h : x < 256) : Lib.pop8 (x : Int) = (cnt 8 x : Nat) := by
  have hall : ∀ y : Fin 256, Lib.pop8 ((y.val : Nat) : Int) = (cnt 8 y.val : Nat) := by decide +kernel
  exact hall ⟨x, h⟩

theorem and_byte (x : Nat) (h : x < 4294967296) : bits .and .u32 (x : Int) 255 = (x : Int) % 256 := by
  have h1 := u32_and_nat x 255 h (by decide)
  rw [show ((255 : Nat) : Int) = 255 from rfl] at h1
  have h2 : x &&& 255 = x % 256 := Nat.and_two_pow_sub_one_eq_mod x 8
  rw [h1, h2]
  omega

set_option maxHeartbeats 1600000 in
theorem ones_any (b : Nat) (hl : b < 4294967296) (w : World) : Calls Try.prog 27 #[.int .u32 b] w (Says w (.int .i64 (pc b : Nat))) := by
  have hb := pc_bytes b
  obtain ⟨x3, h3⟩ : ∃ x, b / 16777216 = x := ⟨_, rfl⟩
  obtain ⟨x2, h2⟩ : ∃ x, b / 65536 = x := ⟨_, rfl⟩
  obtain ⟨x1, h1⟩ : ∃ x, b / 256 = x := ⟨_, rfl⟩
  have q3 : x3 < 256 := by omega
  have m3 : x3 % 256 = x3 := by omega
  rw [h3, h2, h1, m3] at hb
  have d3 : (b : Int) / 16777216 = (x3 : Int) := by omega
  have d2 : (b : Int) / 65536 = (x2 : Int) := by omega
  have d1 : (b : Int) / 256 = (x1 : Int) := by omega
  have p3 := pop_cnt x3 q3
  have p2 := pop_cnt (x2 % 256) (by omega)
  have p1 := pop_cnt (x1 % 256) (by omega)
  have p0 := pop_cnt (b % 256) (by omega)
  have c3 := cnt_le 8 x3
  have c2 := cnt_le 8 (x2 % 256)
  have c1 := cnt_le 8 (x1 % 256)
  have c0 := cnt_le 8 (b % 256)
  rw [hb]
  generalize cnt 8 x3 = y3 at *
  generalize cnt 8 (x2 % 256) = y2 at *
  generalize cnt 8 (x1 % 256) = y1 at *
  generalize cnt 8 (b % 256) = y0 at *
  have e2 : ((x2 % 256 : Nat) : Int) = (x2 : Int) % 256 := by omega
  have e1 : ((x1 % 256 : Nat) : Int) = (x1 : Int) % 256 := by omega
  have e0 : ((b % 256 : Nat) : Int) = (b : Int) % 256 := by omega
  rw [e2] at p2
  rw [e1] at p1
  rw [e0] at p0
  have b2 : bits .and .u32 (x2 : Int) 255 = (x2 : Int) % 256 := and_byte x2 (by omega)
  have b1 : bits .and .u32 (x1 : Int) 255 = (x1 : Int) % 256 := and_byte x1 (by omega)
  have b0 : bits .and .u32 (b : Int) 255 = (b : Int) % 256 := and_byte b hl
  have s1 : IntKind.u8.wrap ((y3 : Int) + (y2 : Int)) = ((y3 + y2 : Nat) : Int) := by rw [IntWalk.u8_in _ (by omega)]; omega
  have s2 : IntKind.u8.wrap (((y3 + y2 : Nat) : Int) + (y1 : Int)) = ((y3 + y2 + y1 : Nat) : Int) := by rw [IntWalk.u8_in _ (by omega)]; omega
  have s3 : IntKind.u8.wrap (((y3 + y2 + y1 : Nat) : Int) + (y0 : Int)) = ((y3 + y2 + y1 + y0 : Nat) : Int) := by rw [IntWalk.u8_in _ (by omega)]; omega
  have s4 : IntKind.i64.wrap ((y3 + y2 + y1 + y0 : Nat) : Int) = ((y3 + y2 + y1 + y0 : Nat) : Int) := by rw [IntWalk.i64_in _ (by omega)]
  have g0 : (0 : Int) ≤ x3 := by omega
  have g1 : (x3 : Int) ≤ 255 := by omega
  clear hb h3 h2 h1 e2 e1 e0 q3 m3
  go_enter Try.func27, Try.ntmps27
  go_wp2
  go_quiet (fail)
  go_wp2
  go_ret
  exact ⟨ret_int (by omega), below_drewN (Below.refl _ _) _⟩
end Go.Proofs.Ytojioadonbiiaaa.Cal
