/- The walk of PlanStops. -/
import Derived.Test.YtfmefjpojnbdeaaPlaE
import Derived.OpenShut
namespace Go.Proofs.Ytfmefjpojnbdeaa.Walk
open Go.RowKit Go.ChangeShapes Go.Proofs.Ytfmefjpojnbdeaa.PlaP Go.Proofs.Ytfmefjpojnbdeaa.Pla
set_option linter.unusedVariables false

set_option maxRecDepth 100000 in
set_option maxHeartbeats 3200000 in
theorem planStops_walk (w : World) (a b : Int) (w0 : (Lit.int .u16 a).wf = true) (w1 : (Lit.int .u8 b).wf = true) : Calls Try.prog 4 #[.int .u16 a, .int .u8 b] w fun e w' => e = .returned (.bool true) ∧ Below w.heap.size w w' := by
  have ha := bounds_u16 w0
  have hb := bounds_u8 w1
  clear w0 w1
  have l0 : 0 ≤ a % 1001 := by omega
  have l1 : a % 1001 ≤ 1000 := by omega
  have m0 : 0 ≤ b % 8 := by omega
  have m7 : b % 8 ≤ 7 := by omega
  have m1 : 1 ≤ b % 8 + 1 := by omega
  have m8 : b % 8 + 1 ≤ 8 := by omega
  obtain ⟨c, hc⟩ : ∃ c, a % 1001 = c := ⟨_, rfl⟩
  obtain ⟨m, hm⟩ : ∃ m, b % 8 + 1 = m := ⟨_, rfl⟩
  rw [hc] at l0 l1
  rw [hm] at m1 m8
  have hs0 : PlaP.Safe m 0 c := Safe.new m1 m8 l0
  have HS0 := Lib.hid hs0
  have hle := (S_le c.toNat hs0 (by omega)).1
  have HT := Lib.hid (fun W => Ticks_any c m W)
  rw [Tk_S l0 l1 m1 m8] at HT
  obtain ⟨t, ht⟩ : ∃ t, S m 0 c = t := ⟨_, rfl⟩
  have HT0 := Lib.hid ht
  rw [ht] at hle HT
  clear hs0 ht
  go_enter Try.func4, Try.ntmps4
  go_wp2_with (go_at_call 9; refine (awake_any _).mono ?_; rintro e w1 ⟨rfl, h1⟩)
  clear hc hm
  go_loopw [8, 9, 10] (fun x y z wr => ∃ (v g : Int) (n : Nat), x = .int .i64 n ∧ y = .int .i64 v ∧ z = .int .i64 g ∧ Hid (PlaP.Safe m v (c - g)) ∧ 0 ≤ v ∧ v ≤ m ∧ 0 ≤ g ∧ g ≤ c ∧ Hid (n + S m v (c - g) = t) ∧ Below w.heap.size w wr) (fun _ _ z _ => (c - intOf z).toNat)
  case atStart => exact ⟨0, 0, 0, rfl, rfl, rfl, Lib.hid (by rw [Int.sub_zero]; exact HS0.out), Int.le_refl _, by omega, Int.le_refl _, l0, Lib.hid (by rw [Int.sub_zero, Nat.zero_add]; exact HT0.out), h1⟩
  case round =>
    obtain ⟨v, g, n, rfl, rfl, rfl, hs, v0, vm, g0, gc, hn, hbl⟩ := hrel
    by_cases hlt : g < c
    · obtain ⟨n1, n2, n3, n4⟩ := hs.out.next
      have hx0 := n1.v0
      have hxm := n1.vm
      have hxl := n1.l0
      have hst := S_step hs.out (show 0 < c - g by omega)
      have HC := Lib.hid (fun W => Next_any v (c - g) m W)
      rw [Nx_id v0 (by omega) (by omega) (by omega) m1 m8] at HC
      have HX := Lib.hid n1
      have HN2 := Lib.hid hst
      clear n1 hst
      generalize nx v (c - g) m = x at *
      have hxp : 0 < x := by omega
      have hn1 : n + 1 ≤ t := by have := hn.out; have := HN2.out; omega
      have e1 : IntKind.i64.wrap (c - g) = c - g := IntWalk.i64_in _ (by omega)
      have e2 : IntKind.i64.wrap (g + x) = g + x := IntWalk.i64_in _ (by omega)
      have e3 : IntKind.i64.wrap ((n : Int) + 1) = ((n + 1 : Nat) : Int) := by rw [IntWalk.i64_in _ (by omega)]; rfl
      have e4 : IntKind.i64.wrap (v + 1) = v + 1 := IntWalk.i64_in _ (by omega)
      have e5 : IntKind.i64.wrap (v - 1) = v - 1 := IntWalk.i64_in _ (by omega)
      have hnc : (n : Int) ≤ c := by omega
      have hx9 : (x == 0) = false := beq_eq_false_iff_ne.2 (by omega)
      clear n4
      go_wp2_with (go_at_call 12; refine (HC.out _).mono ?_; rintro e w2 ⟨rfl, hb2⟩)
      go_roundw
      case rel => exact ⟨x, g + x, n + 1, rfl, rfl, rfl, Lib.hid (by rw [show c - (g + x) = c - g - x by omega]; exact HX.out), hx0, hxm, by omega, by omega, Lib.hid (by rw [show c - (g + x) = c - g - x by omega]; have := hn.out; have := HN2.out; omega), below_says hbl hb2⟩
      case measure => simp [intOf]; omega
    · obtain rfl : g = c := by omega
      have hv1 : v ≤ 1 := by have := hs.out; rw [Int.sub_self] at this; exact this.stop
      have hnt : n = t := by have := hn.out; rw [Int.sub_self, S_nil (Int.le_refl _)] at this; omega
      subst hnt
      have HC := Lib.hid (fun W => Next_any v 0 m W)
      rw [Nx_id v0 (by omega) (by omega) (by omega) m1 m8, nx_end v0 hv1 m1 m8] at HC
      have hnc : (n : Int) ≤ g := hle
      clear hn hs HS0 HT0
      go_wp2_with (first
        | (go_at_call 12; refine (HC.out _).mono ?_; rintro e w2 ⟨rfl, hb2⟩)
        | (go_at_call 14; refine (HT.out _).mono ?_; rintro e w3 ⟨rfl, hb3⟩))
      go_ret
      exact ⟨rfl, below_says (below_says hbl hb2) hb3⟩

end Go.Proofs.Ytfmefjpojnbdeaa.Walk
