/- awake of layer 20. -/
import Derived.Test.YtalkngnejnkemaaTrnD
namespace Go.Proofs.Ytalkngnejnkemaa.Trn
open Go.RowKit Go.Proofs.Ytalkngnejnkemaa.Plain Go.Proofs.Ytalkngnejnkemaa.OrdP Go.Proofs.Ytalkngnejnkemaa.TrnP Go.Proofs.Ytalkngnejnkemaa.Ord Go.Proofs.Ytalkngnejnkemaa.Sees Go.Proofs.Ytalkngnejnkemaa.Box Go.Proofs.Ytalkngnejnkemaa.Held
set_option linter.unusedVariables false

theorem fld0 (a b : Int) (W : World) : (Instr.field 23 (.agg #[.int .i64 a, .int .i64 b]) 0).run Try.prog W = .ok (.int .i64 a) W := by kernel_rfl

theorem s1 : st no 5 false 1 = ⟨0, 1⟩ := T.ext2 (by decide +kernel) (by decide +kernel)
theorem s2 : st ⟨0, 1⟩ 5 false 1 = ⟨2, 1⟩ := T.ext2 (by decide +kernel) (by decide +kernel)
theorem s3 : st ⟨2, 1⟩ 5 false 1 = ⟨0, 1⟩ := T.ext2 (by decide +kernel) (by decide +kernel)
theorem s4 : pk ⟨0, 1⟩ 1 5 false 1 = ⟨0, 1⟩ := T.ext2 (by decide +kernel) (by decide +kernel)

set_option maxHeartbeats 3200000 in
theorem awake_any (w : World) : Calls Try.prog 7 #[] w (Says w (.bool true)) := by
  have HN : Hid (∀ W, Calls Try.prog 12 #[] W (Says W (.agg #[.int .i64 (-1), .int .i64 0]))) := Lib.hid (fun W => None_any W)
  have H1 : Hid (∀ W, Calls Try.prog 8 #[.agg #[.int .i64 (-1), .int .i64 0], .int .u64 5, .bool false, .int .i64 1] W (Says W (.agg #[.int .i64 0, .int .i64 1]))) := Lib.hid fun W => by
    have := Step_any no 5 false 1 (by decide) (by decide) W
    rwa [s1] at this
  have H2 : Hid (∀ W, Calls Try.prog 8 #[.agg #[.int .i64 0, .int .i64 1], .int .u64 5, .bool false, .int .i64 1] W (Says W (.agg #[.int .i64 2, .int .i64 1]))) := Lib.hid fun W => by
    have := Step_any ⟨0, 1⟩ 5 false 1 (by decide) (by decide) W
    rwa [s2] at this
  have H3 : Hid (∀ W, Calls Try.prog 8 #[.agg #[.int .i64 2, .int .i64 1], .int .u64 5, .bool false, .int .i64 1] W (Says W (.agg #[.int .i64 0, .int .i64 1]))) := Lib.hid fun W => by
    have := Step_any ⟨2, 1⟩ 5 false 1 (by decide) (by decide) W
    rwa [s3] at this
  have H4 : Hid (∀ W, Calls Try.prog 10 #[.agg #[.int .i64 0, .int .i64 1], .int .i64 1, .int .u64 5, .bool false, .int .i64 1] W (Says W (.tuple #[.agg #[.int .i64 0, .int .i64 1], .bool false]))) := Lib.hid fun W => by
    have := Pick_any ⟨0, 1⟩ 1 5 false 1 (by decide) W
    rw [s4] at this
    exact this
  have hfd := fld0
  have hj := Lib.hid (J.start w)
  go_enter Try.func7, Try.ntmps7
  go_wp2_with (first
    | (go_at_call 12; (with_reducible refine (HN.out w).mono ?_); rintro e w0 ⟨rfl, h0⟩; have hj0 := Lib.hid (hj.out.next h0); clear h0 hj)
    | (go_at_call 8; (with_reducible refine (H1.out _).mono ?_); clear H1; rintro e w1 ⟨rfl, h1⟩; have hj1 := Lib.hid ((hj0.out.next h1).push #[.int .i64 0, .int .i64 1] 23); clear h1 hj0; obtain ⟨a0, a1⟩ := (hj1.out.bx 0 rfl).c2)
    | (go_at_call 8; (with_reducible refine (H2.out _).mono ?_); clear H2 a0 a1; rintro e w2 ⟨rfl, h2⟩; have hj2 := Lib.hid ((hj1.out.next h2).push #[.int .i64 2, .int .i64 1] 23); clear h2 hj1; obtain ⟨a0, a1⟩ := (hj2.out.bx 0 rfl).c2)
    | (go_at_call 8; (with_reducible refine (H3.out _).mono ?_); clear H3 a0 a1; rintro e w3 ⟨rfl, h3⟩; have hj3 := Lib.hid ((hj2.out.next h3).push #[.int .i64 0, .int .i64 1] 23); clear h3 hj2; obtain ⟨a0, a1⟩ := (hj3.out.bx 0 rfl).c2)
    | (go_at_call 10; (with_reducible refine (H4.out _).mono ?_); clear H4 a0 a1; rintro e w4 ⟨rfl, h4⟩; have hj4 := Lib.hid ((hj3.out.next h4).push #[.int .i64 0, .int .i64 1] 23); clear h4 hj3; obtain ⟨a0, a1⟩ := (hj4.out.bx 1 rfl).c2; obtain ⟨b0, b1⟩ := (hj4.out.bx 2 rfl).c2; obtain ⟨c0, c1⟩ := (hj4.out.bx 3 rfl).c2)
    | (go_at_call 12; (with_reducible refine (HN.out _).mono ?_); rintro e w5 ⟨rfl, h5⟩; have hj5 := Lib.hid (hj4.out.next h5); clear h5))
  go_ret
  exact ⟨rfl, hj5.out.below⟩
end Go.Proofs.Ytalkngnejnkemaa.Trn
