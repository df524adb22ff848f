/- Contract of plan.Ticks. -/
import Derived.Test.YtmdljmlnfihmcaaPlaC
namespace Go.Proofs.Ytmdljmlnfihmcaa.Pla
open Go.RowKit Go.Shelf Go.Proofs.Ytmdljmlnfihmcaa.PlaP
set_option linter.unusedVariables false

theorem below_says {a b c : World} (h : Below a.heap.size a b) (k : Below b.heap.size b c) : Below a.heap.size a c := h.trans (k.mono h.size)
theorem Nx_safe {v l m : Int} (h : PlaP.Safe (cl m 1 8) v l) (hl : l ≤ 1000) : Nx v l m = nx v l (cl m 1 8) := by
  have := h.m8; have := h.vm
  unfold Nx; rw [cl_id h.v0 (by omega), cl_id h.l0 hl]

set_option maxHeartbeats 1000000 in
theorem Ticks_any (l m : Int) (w : World) : Calls Try.prog 19 #[.int .i64 l, .int .i64 m] w (Says w (.int .i64 (Tk l m))) := by
  have HB := Lib.hid (fun W => bounded_any l 0 1000 W)
  have hc0 : 0 ≤ cl l 0 1000 := cl_ge
  have hc1 : cl l 0 1000 ≤ 1000 := cl_le (by omega)
  have HNX : Hid (∀ v l', PlaP.Safe (cl m 1 8) v l' → l' ≤ 1000 → ∀ W, Calls Try.prog 22 #[.int .i64 v, .int .i64 l', .int .i64 m] W (Says W (.int .i64 (nx v l' (cl m 1 8))))) :=
    Lib.hid fun v l' h1 h2 W => by rw [← Nx_safe h1 h2]; exact Next_any v l' m W
  have hs0 : PlaP.Safe (cl m 1 8) 0 (cl l 0 1000) := PlaP.Safe.new cl_ge (cl_le (by omega)) hc0
  have HS0 := Lib.hid hs0
  have hle := S_le (cl l 0 1000).toNat hs0 (by omega)
  unfold Tk
  clear hs0
  generalize cl m 1 8 = q at *
  generalize cl l 0 1000 = c at *
  obtain ⟨t, ht⟩ : ∃ t, S q 0 c = t := ⟨_, rfl⟩
  have HT := Lib.hid ht
  have ht1 : (t : Int) ≤ 1000 := by rw [← ht]; omega
  rw [ht]
  clear hle ht
  go_enter Try.func19, Try.ntmps19
  go_wp2_with (go_at_call 28; refine (HB.out _).mono ?_; rintro e w' ⟨rfl, rfl⟩)
  go_loopw [0, 5, 6] (fun a b d wr => ∃ (v l' : Int) (n : Nat), a = .int .i64 l' ∧ b = .int .i64 n ∧ d = .int .i64 v ∧ Hid (PlaP.Safe q v l') ∧ l' ≤ 1000 ∧ 0 ≤ l' ∧ Hid (n + S q v l' = t) ∧ Below w.heap.size w wr) (fun a _ _ _ => (intOf a).toNat)
  case atStart => exact ⟨0, c, 0, rfl, rfl, rfl, HS0, hc1, hc0, Lib.hid (by rw [Nat.zero_add]; exact HT.out), Below.refl _ _⟩
  case round =>
    obtain ⟨v, l', n, rfl, rfl, rfl, hs, hl1, hl0, hn, hbl⟩ := hrel
    by_cases hlt : 0 < l'
    · have hx := hs.out.next
      have HX := Lib.hid hx.1
      have hx1 := hx.1.l0
      have hx3 : 0 < nx v l' q := by have := hx.2.2.2; omega
      have HN2 := Lib.hid (S_step hs.out hlt)
      have HC := Lib.hid (HNX.out v l' hs.out hl1)
      clear hx
      generalize nx v l' q = x at *
      have e1 : IntKind.i64.wrap (l' - x) = l' - x := IntWalk.i64_in _ (by omega)
      have hn1 : n + 1 ≤ t := by have := hn.out; have := HN2.out; omega
      have e2 : IntKind.i64.wrap ((n : Int) + 1) = ((n + 1 : Nat) : Int) := by rw [IntWalk.i64_in _ (by omega)]; rfl
      go_wp2_with (go_at_call 22; refine (HC.out _).mono ?_; rintro e w2 ⟨rfl, hb2⟩)
      go_roundw
      case rel => exact ⟨x, l' - x, n + 1, rfl, rfl, rfl, HX, by omega, hx1, Lib.hid (by have := hn.out; have := HN2.out; omega), below_says hbl hb2⟩
      case measure => simp [intOf]; omega
    · have hz : S q v l' = 0 := S_nil (by omega)
      have hn' : n = t := by have := hn.out; omega
      subst hn'
      clear hz
      go_wp2
      go_ret
      exact ⟨rfl, hbl⟩

end Go.Proofs.Ytmdljmlnfihmcaa.Pla
