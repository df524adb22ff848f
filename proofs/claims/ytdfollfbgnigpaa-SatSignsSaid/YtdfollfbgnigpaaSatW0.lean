/- awake of layer 3. -/
import Derived.Test.YtdfollfbgnigpaaSatE
import Derived.Test.YtdfollfbgnigpaaSatS
namespace Go.Proofs.Ytdfollfbgnigpaa.Sat
open Go.RowKit Go.Proofs.Ytdfollfbgnigpaa.SatP Go.Proofs.Ytdfollfbgnigpaa.Sees
set_option linter.unusedVariables false

theorem ex1 : addV 1099511627776 1 = 1099511627776 := by simp [addV, bnd]
theorem ex2 : addM 1099511627776 1 = true := by simp [addM, bnd, metB]
theorem ex3 : mulV (-4) 5 = -20 := by simp [mulV, bnd]
theorem ex4 : mulM (-4) 5 = false := by simp [mulM, bnd, metB]
theorem ex5 : sumV [2, 3] = 5 := by simp [sumV, bnd]
theorem ex6 : sumM [2, 3] = false := by simp [sumM, bnd, metB]

set_option maxHeartbeats 800000 in
theorem awake_any (w : World) : Calls Try.prog 9 #[] w fun e w' => e = .returned (.bool true) ∧ Below w.heap.size w w' := by
  have hs : ∀ W : World, Calls Try.prog 14 #[.slice (some ⟨W.heap.size, 0, none⟩) 2 2] (W.alloc (.cells #[.int .i64 2, .int .i64 3] 2)) (Pair (W.alloc (.cells #[.int .i64 2, .int .i64 3] 2)) 5 false) := fun W => by
    have := Sum_any [2, 3] (some ⟨W.heap.size, 0, none⟩) 2 2 (W.alloc (.cells #[.int .i64 2, .int .i64 3] 2)) rfl (by decide) (.inr ⟨W.heap.size, 0, rfl, by simp, fun j u hu => by
      match j, hu with
      | 0, hu => rw [World.cell?_alloc_at _ _ _ _ rfl]; simpa [nums] using hu
      | 1, hu => rw [World.cell?_alloc_at _ _ _ _ rfl]; simpa [nums] using hu⟩)
    rwa [ex5, ex6] at this
  have HS := Lib.hid hs
  have ha : ∀ W : World, Calls Try.prog 10 #[.int .i64 1099511627776, .int .i64 1] W (Pair W 1099511627776 true) := fun W => by
    have := Add_any 1099511627776 1 W
    rwa [ex1, ex2] at this
  have HA := Lib.hid ha
  have hm : ∀ W : World, Calls Try.prog 12 #[.int .i64 (-4), .int .i64 5] W (Pair W (-20) false) := fun W => by
    have := Mul_any (-4) 5 W
    rwa [ex3, ex4] at this
  have HM := Lib.hid hm
  clear hs ha hm
  go_enter Try.func9, Try.ntmps9
  go_wp2_with (first
    | (go_at_call 10; refine (HA.out _).mono ?_; rintro e w1 ⟨rfl, hd1⟩)
    | (go_at_call 12; refine (HM.out _).mono ?_; rintro e w3 ⟨rfl, hd3⟩)
    | (go_at_call 14; refine (HS.out _).mono ?_; rintro e w2 ⟨rfl, hd2⟩))
  go_ret
  have hb := (Below.refl w1.heap.size w1).alloc (Nat.le_refl _) (.cells #[.int .i64 2, .int .i64 3] 2)
  have h2 := hb.trans (hd2.mono hb.size)
  exact ⟨rfl, hd1.trans ((h2.trans (hd3.mono h2.size)).mono hd1.size)⟩

end Go.Proofs.Ytdfollfbgnigpaa.Sat
