/- awake of layer 22. -/
import Derived.Test.YtojioadonbiiaaaCalJ
import Derived.Deep.CutRange
namespace Go.Proofs.Ytojioadonbiiaaa.Cal
open Go.RowKit Go.Proofs.Ytojioadonbiiaaa.Sees Go.Proofs.Ytojioadonbiiaaa.CalP Go.Proofs.Ytojioadonbiiaaa.Box Go.Proofs.Ytojioadonbiiaaa.Held
set_option linter.unusedVariables false

theorem two_ok {a b h : Nat} (h1 : a < 4294967296) (h2 : b < 4294967296) (h3 : h < 4294967296) : (C.mk h [a, b]).Ok := ⟨h3, fun x hx => by
  simp only [List.mem_cons, List.not_mem_nil, or_false] at hx
  rcases hx with rfl | rfl
  · exact h1
  · exact h2⟩

set_option maxRecDepth 100000 in
set_option maxHeartbeats 3200000 in
theorem awake_any (w : World) : Calls Try.prog 8 #[] w (Says w (.bool true)) := by
  have hj0 : Hid (JS w [] w) := Lib.hid (J.start w)
  have o0 : (C.mk 0 [0, 0]).Ok := two_ok (by decide) (by decide) (by decide)
  have o1 : (C.mk 0 [4, 0]).Ok := two_ok (by decide) (by decide) (by decide)
  have o2 : (C.mk 0 [5, 0]).Ok := two_ok (by decide) (by decide) (by decide)
  have O0 := Lib.hid o0
  have O1 := Lib.hid o1
  have O2 := Lib.hid o2
  clear o0 o1 o2
  have t1 : car ⟨0, [0, 0]⟩ 0 2 4 = ⟨0, [4, 0]⟩ := by decide +kernel
  have t2 : carOk ⟨0, [0, 0]⟩ 0 2 4 = true := by decide +kernel
  have t3 : car ⟨0, [4, 0]⟩ 0 0 4 = ⟨0, [5, 0]⟩ := by decide +kernel
  have t4 : carOk ⟨0, [4, 0]⟩ 0 0 4 = true := by decide +kernel
  have t5 : hall ⟨0, [5, 0]⟩ 9 4 = ⟨0, [5, 0]⟩ := by decide +kernel
  have t6 : isF 9 4 = false := by decide +kernel
  have t7 : nx ⟨0, [5, 0]⟩ 0 9 0 = 2 := by decide +kernel
  have t8 : nx ⟨0, [5, 0]⟩ 0 8 0 = 0 := by decide +kernel
  have t9 : nx ⟨0, [5, 0]⟩ 1 8 15 = -1 := by decide +kernel
  have t10 : mn ⟨0, [5, 0]⟩ = 2 := by decide +kernel
  have T := Lib.hid (And.intro t1 (And.intro t2 (And.intro t3 (And.intro t4 (And.intro t5 (And.intro t6 (And.intro t7 (And.intro t8 (And.intro t9 t10)))))))))
  clear t1 t2 t3 t4 t5 t6 t7 t8 t9 t10
  go_enter Try.func8, Try.ntmps8
  go_upto_region 5 with (first
    | (go_at_call 9; refine (new_js 2 (by decide) w hj0.out).mono ?_; rintro e w1 ⟨R0, hR0, rfl, hj1⟩; have hj2 : Hid (JS w _ _) := Lib.hid (J.push hj1.out #[.int .u32 0, .slice (some ⟨R0, 0, none⟩) 2 2] 27); have hX := Lib.hid hj1.out.below.size; clear hj0)
    | (go_at_call 12; refine (car_js (c := ⟨0, [0, 0]⟩) O0.out (n := 2) rfl (by decide) 1 rfl 0 2 4 T.out.1 T.out.2.1 _ hj2.out).mono ?_; rintro e w2 ⟨R1, hR1, rfl, hj3⟩; obtain ⟨a0, a1⟩ := (JS.bx hj3.out 1 rfl).c2; obtain ⟨f0, f1⟩ := (JS.bx hj3.out 1 rfl).f2; have hj4 := Lib.hid (jnew2 hj3.out hR1 (JS.bx hj2.out 0 rfl) hX.out ⟨0, rfl⟩ (.int .u32 0) (.slice (some ⟨R1, 0, none⟩) 2 2)); have hlt := Lib.hid (JS.bx hj2.out 0 rfl).lt; clear hj2 hj3 hj1 hR1)
    | (go_at_call 12; refine (car_js (c := ⟨0, [4, 0]⟩) O1.out (n := 2) rfl (by decide) 1 rfl 0 0 4 T.out.2.2.1 T.out.2.2.2.1 _ hj4.out).mono ?_; rintro e w3 ⟨R2, hR2, rfl, hj5⟩; obtain ⟨b0, b1⟩ := (JS.bx hj5.out 1 rfl).c2; obtain ⟨g0, g1⟩ := (JS.bx hj5.out 1 rfl).f2; have hj6 := Lib.hid (jnew2 hj5.out hR2 (J.bx hj4.out 0 rfl) hX.out ⟨0, rfl⟩ (.int .u32 0) (.slice (some ⟨R2, 0, none⟩) 2 2)); clear hj4 hj5 hR2 a0 a1 f0 f1)
    | (go_at_call 11; refine (hall_js (c := ⟨0, [5, 0]⟩) O2.out (n := 2) rfl (by decide) 1 rfl 9 4 T.out.2.2.2.2.1 T.out.2.2.2.2.2.1 _ hj6.out).mono ?_; rintro e w4 ⟨R3, hR3, rfl, hj7⟩; obtain ⟨c0, c1⟩ := (JS.bx hj7.out 1 rfl).c2; have hj8 : Hid (JS w _ _) := Lib.hid (J.push hj7.out #[.int .u32 0, .slice (some ⟨R3, 0, none⟩) 2 2] 27); have hj : Hid (JS w _ _) := hj8; obtain ⟨d0, d1⟩ := (JS.bx hj.out 2 rfl).c2; obtain ⟨e0, e1⟩ := (JS.bx hj.out 0 rfl).c2; clear hj6 hj7 hj8 hR3 b0 b1 g0 g1 c0 c1))
  obtain ⟨BS, hBS⟩ : ∃ BS, BS = [(w4.heap.size, #[Value.int .u32 0, Value.slice (some ⟨R3, 0, none⟩) 2 2]), (R3, (un [5, 0]).toArray), (w1.heap.size, #[Value.int .u32 0, Value.slice (some ⟨R2, 0, none⟩) 2 2]), (R2, (un [5, 0]).toArray)] := ⟨_, rfl⟩
  replace hj : Hid (JS w BS _) := hBS ▸ hj
  have hB0 : BS[0]? = some (w4.heap.size, #[Value.int .u32 0, Value.slice (some ⟨R3, 0, none⟩) 2 2]) := by rw [hBS]; rfl
  have hB1 : BS[1]? = some (R3, (un [5, 0]).toArray) := by rw [hBS]; rfl
  have hB2 : BS[2]? = some (w1.heap.size, #[Value.int .u32 0, Value.slice (some ⟨R2, 0, none⟩) 2 2]) := by rw [hBS]; rfl
  have hB3 : BS[3]? = some (R2, (un [5, 0]).toArray) := by rw [hBS]; rfl
  have HN1 : Hid (∀ W, JS w BS W → Calls Try.prog 16 #[.agg #[.int .u32 0, .slice (some ⟨R2, 0, none⟩) 2 2], .int .i64 0, .int .i64 9, .int .u32 0] W (Says W (.int .i64 2))) := Lib.hid (next_js (c := ⟨0, [5, 0]⟩) O2.out (n := 2) rfl 3 hB3 0 9 (by decide) 0 (by decide) T.out.2.2.2.2.2.2.1)
  have HN2 : Hid (∀ W, JS w BS W → Calls Try.prog 16 #[.agg #[.int .u32 0, .slice (some ⟨R2, 0, none⟩) 2 2], .int .i64 0, .int .i64 8, .int .u32 0] W (Says W (.int .i64 0))) := Lib.hid (next_js (c := ⟨0, [5, 0]⟩) O2.out (n := 2) rfl 3 hB3 0 8 (by decide) 0 (by decide) T.out.2.2.2.2.2.2.2.1)
  have HN3 : Hid (∀ W, JS w BS W → Calls Try.prog 16 #[.agg #[.int .u32 0, .slice (some ⟨R2, 0, none⟩) 2 2], .int .i64 1, .int .i64 8, .int .u32 15] W (Says W (.int .i64 (-1)))) := Lib.hid (next_js (c := ⟨0, [5, 0]⟩) O2.out (n := 2) rfl 3 hB3 1 8 (by decide) 15 (by decide) T.out.2.2.2.2.2.2.2.2.1)
  have HM : Hid (∀ W, JS w BS W → Calls Try.prog 18 #[.agg #[.int .u32 0, .slice (some ⟨R3, 0, none⟩) 2 2]] W (Says W (.int .i64 2))) := Lib.hid (many_js (c := ⟨0, [5, 0]⟩) O2.out (n := 2) rfl (by decide) 1 hB1 T.out.2.2.2.2.2.2.2.2.2)
  have HB := Lib.hid (And.intro hB0 hB2)
  clear hBS hB1 hB3 hB0 hB2 T O0 O1 O2 hX hlt
  go_wp2_with (first
    | (go_at_call 16; (with_reducible refine (HN1.out _ hj.out).mono ?_); rintro e w5 ⟨rfl, h5⟩; replace hj := Lib.hid (JS.closed _ _ hj.out h5); clear h5; replace d0 := (JS.bx hj.out 2 HB.out.2).c2.1; replace d1 := (JS.bx hj.out 2 HB.out.2).c2.2; replace e0 := (JS.bx hj.out 0 HB.out.1).c2.1; replace e1 := (JS.bx hj.out 0 HB.out.1).c2.2)
    | (go_at_call 16; (with_reducible refine (HN2.out _ hj.out).mono ?_); rintro e w5 ⟨rfl, h5⟩; replace hj := Lib.hid (JS.closed _ _ hj.out h5); clear h5; replace d0 := (JS.bx hj.out 2 HB.out.2).c2.1; replace d1 := (JS.bx hj.out 2 HB.out.2).c2.2; replace e0 := (JS.bx hj.out 0 HB.out.1).c2.1; replace e1 := (JS.bx hj.out 0 HB.out.1).c2.2)
    | (go_at_call 16; (with_reducible refine (HN3.out _ hj.out).mono ?_); rintro e w5 ⟨rfl, h5⟩; replace hj := Lib.hid (JS.closed _ _ hj.out h5); clear h5; replace d0 := (JS.bx hj.out 2 HB.out.2).c2.1; replace d1 := (JS.bx hj.out 2 HB.out.2).c2.2; replace e0 := (JS.bx hj.out 0 HB.out.1).c2.1; replace e1 := (JS.bx hj.out 0 HB.out.1).c2.2)
    | (go_at_call 18; (with_reducible refine (HM.out _ hj.out).mono ?_); rintro e w5 ⟨rfl, h5⟩; replace hj := Lib.hid (JS.closed _ _ hj.out h5); clear h5))
  go_ret
  exact ⟨rfl, J.below hj.out⟩
end Go.Proofs.Ytojioadonbiiaaa.Cal
