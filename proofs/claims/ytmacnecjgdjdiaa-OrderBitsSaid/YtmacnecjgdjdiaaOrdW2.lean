/- The walk of OrderBits. -/
import Derived.Test.YtmacnecjgdjdiaaOrdE
import Derived.OpenShut
namespace Go.Proofs.Ytmacnecjgdjdiaa.Walk
open Go.RowKit Go.ChangeShapes Go.Proofs.Ytmacnecjgdjdiaa.Plain Go.Proofs.Ytmacnecjgdjdiaa.OrdP Go.Proofs.Ytmacnecjgdjdiaa.Ord Go.Proofs.Ytmacnecjgdjdiaa.Box Go.Proofs.Ytmacnecjgdjdiaa.Held Go.Proofs.Ytmacnecjgdjdiaa.Sees Go.Proofs.Ytmacnecjgdjdiaa.Open
set_option linter.unusedVariables false

set_option maxRecDepth 100000 in
set_option maxHeartbeats 6400000 in
theorem orderBits_walk (w : World) (b' c x : Int) (wb : (Lit.int .u64 b').wf = true) (wc : (Lit.int .i64 c).wf = true) (wx : (Lit.int .i64 x).wf = true) :
    Calls Try.prog 5 #[.int .u64 b', .int .i64 c, .int .i64 x] w fun e w' => e = .returned (.bool true) ∧ Below w.heap.size w w' := by
  have bb := bounds_u64 wb
  obtain ⟨b, rfl⟩ : ∃ b : Nat, b' = b := ⟨b'.toNat, by omega⟩
  have hl : b < 18446744073709551616 := by omega
  clear wb wc wx bb
  have HA : Hid (∀ W, Hid (Bw w W) → Calls Try.prog 7 #[] W (On w (.bool true))) := Lib.hid fun W hW => on_says hW (awake_any W)
  have K0 : Hid (Bw w w) := Lib.hid (Bw.refl w)
  have H1 : Hid (∀ W, Calls Try.prog 14 #[.int .u64 b, .int .i64 c] W fun e w' => e = .returned (.int .u64 (wi b c : Nat)) ∧ W = w') := Lib.hid fun W => With_any b c W hl
  have H2 : Hid (∀ W, Calls Try.prog 15 #[.int .u64 b, .int .i64 c] W fun e w' => e = .returned (.int .u64 (wo b c : Nat)) ∧ W = w') := Lib.hid fun W => Without_any b c W hl
  have H3 : Hid (∀ W, Calls Try.prog 13 #[.int .u64 (wi b c : Nat), .int .i64 c] W fun e w' => e = .returned (.bool (inb c)) ∧ W = w') := Lib.hid fun W => by
    have := Has_any (wi b c) c W (wi_lt c hl)
    rw [hb_wi] at this
    have e : (hb b c || (inb c && decide (c = c))) = inb c := by
      cases h : inb c
      · rw [hb_out h]; rfl
      · simp
    rwa [e] at this
  have H4 : Hid (∀ W, Calls Try.prog 13 #[.int .u64 (wo b c : Nat), .int .i64 c] W fun e w' => e = .returned (.bool false) ∧ W = w') := Lib.hid fun W => by
    have := Has_any (wo b c) c W (wo_lt c hl)
    rw [hb_wo c c hl] at this
    simpa using this
  have H5 : Hid (∀ W, Calls Try.prog 14 #[.int .u64 (wo b c : Nat), .int .i64 c] W fun e w' => e = .returned (.int .u64 (wi b c : Nat)) ∧ W = w') := Lib.hid fun W => by
    have := With_any (wo b c) c W (wo_lt c hl); rwa [wi_wo c hl] at this
  have H6 : Hid (∀ W, Calls Try.prog 15 #[.int .u64 (wi b c : Nat), .int .i64 c] W fun e w' => e = .returned (.int .u64 (wo b c : Nat)) ∧ W = w') := Lib.hid fun W => by
    have := Without_any (wi b c) c W (wi_lt c hl); rwa [wo_wi c hl] at this
  have H7 : Hid (∀ W, Calls Try.prog 14 #[.int .u64 (wi b c : Nat), .int .i64 c] W fun e w' => e = .returned (.int .u64 (wi b c : Nat)) ∧ W = w') := Lib.hid fun W => by
    have := With_any (wi b c) c W (wi_lt c hl); rwa [wi_wi] at this
  have H8 : Hid (∀ W, Calls Try.prog 15 #[.int .u64 (wo b c : Nat), .int .i64 c] W fun e w' => e = .returned (.int .u64 (wo b c : Nat)) ∧ W = w') := Lib.hid fun W => by
    have := Without_any (wo b c) c W (wo_lt c hl); rwa [wo_wo c hl] at this
  have h9 : wi b c = b ∨ (¬ wi b c = b ∧ wo b c = b) := by
    by_cases h : wi b c = b
    · exact .inl h
    · exact .inr ⟨h, (wi_or_wo c hl).resolve_left h⟩
  have hx : x = c ∨ (¬ x = c ∧ Hid (∀ W, Calls Try.prog 13 #[.int .u64 (wi b c : Nat), .int .i64 x] W fun e w' => e = .returned (.bool (hb b x)) ∧ W = w') ∧ Hid (∀ W, Calls Try.prog 13 #[.int .u64 (wo b c : Nat), .int .i64 x] W fun e w' => e = .returned (.bool (hb b x)) ∧ W = w') ∧ Hid (∀ W, Calls Try.prog 13 #[.int .u64 b, .int .i64 x] W fun e w' => e = .returned (.bool (hb b x)) ∧ W = w')) := by
    by_cases h : x = c
    · exact .inl h
    · refine .inr ⟨h, Lib.hid fun W => ?_, Lib.hid fun W => ?_, Lib.hid fun W => Has_any b x W hl⟩
      · have := Has_any (wi b c) x W (wi_lt c hl)
        rw [hb_wi] at this
        simpa [h] using this
      · have := Has_any (wo b c) x W (wo_lt c hl)
        rw [hb_wo c x hl] at this
        simpa [h] using this
  have hc : (c < 0 ∧ inb c = false) ∨ (¬ c < 0 ∧ 64 ≤ c ∧ inb c = false) ∨ (¬ c < 0 ∧ ¬ 64 ≤ c ∧ inb c = true) := by
    by_cases a : c < 0
    · exact .inl ⟨a, inb_no.2 (by omega)⟩
    · by_cases b : 64 ≤ c
      · exact .inr (.inl ⟨a, b, inb_no.2 (by omega)⟩)
      · exact .inr (.inr ⟨a, b, inb_iff.2 (by omega)⟩)
  generalize inb c = i at *
  generalize hb b x = q at *
  generalize wi b c = u at *
  generalize wo b c = v at *
  have h10 : u = b ∨ (((u : Int) == (b : Int)) = false ∧ v = b) := by
    rcases h9 with h | ⟨h, k⟩
    · exact .inl h
    · exact .inr ⟨beq_false_of_ne (by omega), k⟩
  clear h9 hl
  rcases hc with ⟨c0, rfl⟩ | ⟨c0, c1, rfl⟩ | ⟨c0, c1, rfl⟩
  all_goals
    rcases hx with rfl | ⟨x0, X1, X2, X3⟩
    all_goals
      rcases h10 with rfl | ⟨n1, rfl⟩
      all_goals
        go_enter Try.func5, Try.ntmps5
        go_wp2_with (first
          | (go_at_call 7; refine (HA.out _ K0).mono ?_; rintro e w1 ⟨rfl, K1⟩)
          | (go_at_call 14; ((with_reducible refine (H1.out _).mono ?_); rintro e w' ⟨rfl, rfl⟩))
          | (go_at_call 15; ((with_reducible refine (H2.out _).mono ?_); rintro e w' ⟨rfl, rfl⟩))
          | (go_at_call 13; ((with_reducible refine (H3.out _).mono ?_); rintro e w' ⟨rfl, rfl⟩))
          | (go_at_call 13; ((with_reducible refine (H4.out _).mono ?_); rintro e w' ⟨rfl, rfl⟩))
          | (go_at_call 14; ((with_reducible refine (H5.out _).mono ?_); rintro e w' ⟨rfl, rfl⟩))
          | (go_at_call 15; ((with_reducible refine (H6.out _).mono ?_); rintro e w' ⟨rfl, rfl⟩))
          | (go_at_call 14; ((with_reducible refine (H7.out _).mono ?_); rintro e w' ⟨rfl, rfl⟩))
          | (go_at_call 15; ((with_reducible refine (H8.out _).mono ?_); rintro e w' ⟨rfl, rfl⟩))
          | (go_at_call 13; ((with_reducible refine (X1.out _).mono ?_); rintro e w' ⟨rfl, rfl⟩))
          | (go_at_call 13; ((with_reducible refine (X2.out _).mono ?_); rintro e w' ⟨rfl, rfl⟩))
          | (go_at_call 13; ((with_reducible refine (X3.out _).mono ?_); rintro e w' ⟨rfl, rfl⟩)))
        go_ret
        exact ⟨rfl, K1.out⟩
end Go.Proofs.Ytmacnecjgdjdiaa.Walk
