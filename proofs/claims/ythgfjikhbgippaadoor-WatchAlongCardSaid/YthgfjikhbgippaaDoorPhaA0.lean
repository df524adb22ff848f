/- Contracts of phase's known, May; the reference's May: the table of what may follow alone, in block 0 (a seat that lists no names; layer 21's own seat has XPhaA, with both). -/
import Derived.Test.YthgfjikhbgippaaDoorPhaP
import Derived.Test.YthgfjikhbgippaaDoorBox
import Derived.Test.YthgfjikhbgippaaDoorSees
import Derived.Laws.BitsAllLaws
namespace Go.Proofs.YthgfjikhbgippaaDoor.Pha
open Go.RowKit Go.Proofs.YthgfjikhbgippaaDoor.PhaP Go.Proofs.YthgfjikhbgippaaDoor.Sees Go.Proofs.YthgfjikhbgippaaDoor.Box
set_option linter.unusedVariables false
set_option maxRecDepth 100000

/-- what may follow lies there -/
structure Lay (w : World) : Prop where
  lt : 0 < w.heap.size
  bits : ∀ j : Nat, j < 6 → w.cell? ⟨0, j, none⟩ = some (.int .u8 (tb j : Nat))
theorem Lay.next {w w' : World} (h : Lay w) (hb : Below w.heap.size w w') : Lay w' :=
  ⟨Nat.lt_of_lt_of_le h.lt hb.size, fun j hj => (hb.cell (p := ⟨0, j, none⟩) h.lt).trans (h.bits j hj)⟩

theorem known_any (p : Int) (w : World) : Calls Tryd.prog 41 #[.int .i64 p] w fun e w' => e = .returned (.bool (kn p)) ∧ w = w' := by
  by_cases h0 : 0 ≤ p
  · by_cases h1 : p < 6
    · rw [kn_iff.2 ⟨h0, h1⟩]
      go_enter Tryd.func41, Tryd.ntmps41
      go_wp2
      go_ret
      exact ⟨rfl, rfl⟩
    · rw [kn_no.2 (by omega)]
      go_enter Tryd.func41, Tryd.ntmps41
      go_wp2
      go_ret
      exact ⟨rfl, rfl⟩
  · rw [kn_no.2 (by omega)]
    go_enter Tryd.func41, Tryd.ntmps41
    go_wp2
    go_ret
    exact ⟨rfl, rfl⟩

theorem shr_fin : ∀ x : Fin 6, ∀ y : Fin 6, (bits .and .u8 ((tb x.val : Int) / 2 ^ y.val) 1 == 1) = my x.val y.val := by decide +kernel

set_option maxHeartbeats 3200000 in
theorem May_any (a b : Int) (w : World) (h : Lay w) : Calls Tryd.prog 42 #[.int .i64 a, .int .i64 b] w fun e w' => e = .returned (.bool (my a b)) ∧ w = w' := by
  have HK := Lib.hid fun p W => known_any p W
  cases ha : kn a
  · rw [my_out (.inl ha)]
    have HA := Lib.hid (HK.out a)
    rw [ha] at HA
    clear h ha HK
    go_enter Tryd.func42, Tryd.ntmps42
    go_wp2_with (go_at_call 41; refine (HA.out _).mono ?_; rintro e w' ⟨rfl, rfl⟩)
    go_ret
    exact ⟨rfl, rfl⟩
  · cases hb : kn b
    · rw [my_out (.inr hb)]
      have HA := Lib.hid (HK.out a)
      have HB := Lib.hid (HK.out b)
      rw [ha] at HA
      rw [hb] at HB
      clear h ha hb HK
      go_enter Tryd.func42, Tryd.ntmps42
      go_wp2_with (first
        | (go_at_call 41; (with_reducible refine (HA.out _).mono ?_); rintro e w' ⟨rfl, rfl⟩)
        | (go_at_call 41; (with_reducible refine (HB.out _).mono ?_); rintro e w' ⟨rfl, rfl⟩))
      go_ret
      exact ⟨rfl, rfl⟩
    · have h1 := kn_iff.1 ha
      have h2 := kn_iff.1 hb
      obtain ⟨x, rfl⟩ : ∃ x : Nat, a = x := ⟨a.toNat, by omega⟩
      obtain ⟨y, rfl⟩ : ∃ y : Nat, b = y := ⟨b.toNat, by omega⟩
      have HA := Lib.hid (HK.out x)
      have HB := Lib.hid (HK.out y)
      rw [ha] at HA
      rw [hb] at HB
      have c0 := h.bits x (by omega)
      have HE := Lib.hid (shr_fin ⟨x, by omega⟩ ⟨y, by omega⟩)
      simp only at HE
      have hx : x < 6 := by omega
      generalize my x y = m at *
      generalize tb x = t at *
      clear h HK
      go_enter Tryd.func42, Tryd.ntmps42
      go_wp2_with (first
        | (go_at_call 41; (with_reducible refine (HA.out _).mono ?_); rintro e w' ⟨rfl, rfl⟩)
        | (go_at_call 41; (with_reducible refine (HB.out _).mono ?_); rintro e w' ⟨rfl, rfl⟩))
      go_ret
      exact ⟨ret_bool HE.out, rfl⟩

set_option maxHeartbeats 6400000 in
theorem rMay_any (a b : Int) (w : World) : Calls Tryd.prog 33 #[.int .i64 a, .int .i64 b] w fun e w' => e = .returned (.bool (my a b)) ∧ w = w' := by
  cases ha : kn a
  · rw [my_out (.inl ha)]
    have := kn_no.1 ha
    by_cases h0 : a < 0
    · clear ha this
      go_enter Tryd.func33, Tryd.ntmps33
      go_wp2
      go_ret
      exact ⟨rfl, rfl⟩
    · have h1 : 5 < a := by omega
      clear ha this
      go_enter Tryd.func33, Tryd.ntmps33
      go_wp2
      go_ret
      exact ⟨rfl, rfl⟩
  · cases hb : kn b
    · rw [my_out (.inr hb)]
      have h1 := kn_iff.1 ha
      have h2 : ¬ a < 0 := by omega
      have h3 : ¬ 5 < a := by omega
      have := kn_no.1 hb
      by_cases h0 : b < 0
      · clear ha hb this h1
        go_enter Tryd.func33, Tryd.ntmps33
        go_wp2
        go_ret
        exact ⟨rfl, rfl⟩
      · have h4 : 5 < b := by omega
        clear ha hb this h1
        go_enter Tryd.func33, Tryd.ntmps33
        go_wp2
        go_ret
        exact ⟨rfl, rfl⟩
    · rcases kn_six ha with rfl | rfl | rfl | rfl | rfl | rfl
      all_goals
        rcases kn_six hb with rfl | rfl | rfl | rfl | rfl | rfl
        all_goals
          clear ha hb
          go_enter Tryd.func33, Tryd.ntmps33
          go_wp2
          go_ret
          exact ⟨ret_bool (by decide), rfl⟩
end Go.Proofs.YthgfjikhbgippaaDoor.Pha
