/- Contracts of calls' Hall, Car, Done. -/
import Derived.Test.YtojioadonbiiaaaCalF
namespace Go.Proofs.Ytojioadonbiiaaa.Cal
open Go.RowKit Go.Proofs.Ytojioadonbiiaaa.Sees Go.Proofs.Ytojioadonbiiaaa.CalP Go.Proofs.Ytojioadonbiiaaa.Box Go.Proofs.Ytojioadonbiiaaa.Held
set_option linter.unusedVariables false

/-- copied, while a call runs whose own blocks are these -/
theorem copied_at {w W : World} {bs : List (Nat × Array Value)} (hj : J w W bs) (h : Nat) (l : List Nat) (A : Option Addr) (n cap R : Nat) (hn : l.length = n) (hN : n ≤ 65536) (hR : W.heap.size + 2 = R) (hsee : Sees w w.heap.size A (un l)) :
    Calls Try.prog 21 #[.agg #[.int .u32 h, .slice A n cap]] W fun e w1 => e = .returned (.agg #[.int .u32 h, .slice (some ⟨R, 0, none⟩) n n]) ∧ Hid (JS w ((R, (un l).toArray) :: bs) w1) := by
  refine (copied_any h l A n cap hn hN W ((hsee.below hj.below (Nat.le_refl _)).more hj.below.size)).mono ?_
  rintro e w1 ⟨rfl, h1, h2⟩
  rw [hR] at h2
  exact ⟨by unfold val; rw [hR], Lib.hid ((hj.next h1).more h2)⟩

theorem hall_yes {c : C} {f n : Int} (h : isF f n = true) : hall c f n = ⟨wi c.h f, c.l⟩ := by unfold hall; rw [if_pos h]
theorem hall_no {c : C} {f n : Int} (h : isF f n = false) : hall c f n = c := by unfold hall; rw [if_neg (by rw [h]; decide)]

set_option maxRecDepth 100000 in
set_option maxHeartbeats 3200000 in
theorem Hall_any (c : C) (hc : c.Ok) (A : Option Addr) (n cap : Nat) (hn : c.l.length = n) (hN : n ≤ 65536) (f m : Int) (w : World) (hsee : Sees w w.heap.size A (un c.l)) :
    Calls Try.prog 11 #[val c.h A n cap, .int .i64 f, .int .i64 m] w (Told w 4 c.l (.tuple #[val (hall c f m).h (some ⟨w.heap.size + 4, 0, none⟩) n n, .bool (isF f m)])) := by
  have hj0 := J.two w #[.int .u32 c.h, .slice A n cap] #[.int .u32 0, .slice none 0 0] 27 27
  have HC := Lib.hid (copied_at hj0 c.h c.l A n cap (w.heap.size + 4) hn hN (by simp) hsee)
  have HI := Lib.hid (fun W => isFloor_any f m W)
  have HB := Lib.hid (fun W => bit_any f W)
  have hor : bits .or .u32 c.h (bt f : Nat) = ((wi c.h f : Nat) : Int) := u32_or_nat _ _ hc.1 (bt_lt _)
  have hend : ∀ (q : Nat) (b : Bool) W bs, J w W ((w.heap.size + 4, (un c.l).toArray) :: bs) → Told w 4 c.l (.tuple #[.agg #[.int .u32 q, .slice (some ⟨w.heap.size + 4, 0, none⟩) n n], .bool b]) (.returned (.tuple #[.agg #[.int .u32 q, .slice (some ⟨w.heap.size + 4, 0, none⟩) n n], .bool b])) W := fun q b W bs h => ⟨rfl, h.below, h.bx 0 rfl⟩
  have HE := Lib.hid hend
  clear hend hj0 hsee
  unfold val
  cases hf : isF f m
  · rw [hall_no hf]
    rw [hf] at HI
    clear hor
    generalize c.h = h at *
    generalize c.l = l at *
    generalize (un l).toArray = cur at *
    go_enter Try.func11, Try.ntmps11
    go_wp2_with (first
      | (go_at_call 21; refine HC.out.mono ?_; rintro e w1 ⟨rfl, hj1⟩; obtain ⟨b0, b1⟩ := (JS.bx hj1.out 2 rfl).c2; obtain ⟨g0, g1⟩ := (JS.bx hj1.out 2 rfl).f2; obtain ⟨r0, r1⟩ := (JS.bx hj1.out 1 rfl).c2; obtain ⟨q0, q1⟩ := (JS.bx hj1.out 1 rfl).f2; clear HC)
      | (go_at_call 22; refine (HI.out _).mono ?_; rintro e w2 ⟨rfl, rfl⟩))
    have hj2 := (((J.set hj1.out 0 (.int .u32 h) (X := w.heap.size) (Nat.le_refl _)).set 1 (.slice (some ⟨w.heap.size + 4, 0, none⟩) n n) (X := w.heap.size) (Nat.le_refl _)).set 0 (.int .u32 h) (X := w.heap.size + 1) (by omega)).set 1 (.slice (some ⟨w.heap.size + 4, 0, none⟩) n n) (X := w.heap.size + 1) (by omega)
    simp at hj2
    refine bodyPost_ret (v := .tuple #[.agg #[.int .u32 h, .slice (some ⟨w.heap.size + 4, 0, none⟩) n n], .bool false]) (by simp [results, Try.results11, go_sem, *]) rfl (HE.out _ _ _ _ hj2)
  · rw [hall_yes hf]
    rw [hf] at HI
    simp only
    generalize wi c.h f = v at *
    generalize bt f = d at *
    generalize c.h = h at *
    generalize c.l = l at *
    generalize (un l).toArray = cur at *
    go_enter Try.func11, Try.ntmps11
    go_wp2_with (first
      | (go_at_call 21; refine HC.out.mono ?_; rintro e w1 ⟨rfl, hj1⟩; obtain ⟨b0, b1⟩ := (JS.bx hj1.out 2 rfl).c2; obtain ⟨g0, g1⟩ := (JS.bx hj1.out 2 rfl).f2; obtain ⟨r0, r1⟩ := (JS.bx hj1.out 1 rfl).c2; obtain ⟨q0, q1⟩ := (JS.bx hj1.out 1 rfl).f2; clear HC)
      | (go_at_call 22; refine (HI.out _).mono ?_; rintro e w2 ⟨rfl, rfl⟩))
    have hj2 := (J.set hj1.out 0 (.int .u32 h) (X := w.heap.size) (Nat.le_refl _)).set 1 (.slice (some ⟨w.heap.size + 4, 0, none⟩) n n) (X := w.heap.size) (Nat.le_refl _)
    simp at hj2
    have hj2' : JS w _ _ := hj2
    have HJ2 := Lib.hid hj2'
    clear hj2 hj2'
    refine wp_region_tail 6 _ JS.closed HJ2.out (by kernel_rfl) (by kernel_rfl) ?_
    simp only [List.take_succ_cons, List.take_zero, List.drop_succ_cons, List.drop_zero]
    apply Exists.intro
    refine ⟨fun w3 h3 => ?_, fun W3 hJ3 hb3 => ?_⟩
    · haveI := Ext.some h3
      have q0 := ext_at h3 2 0 (v := .int .u32 h) rfl rfl
      have cB := Lib.hid (Ext.calls h3 JS.closed (fun W _ => says_of_same (HB.out W)))
      repeat go_big_quiet_step (first | (go_at_call 23; with_reducible exact cB.out _))
      exact wpQuiet_nil rfl
    · obtain ⟨b0, b1⟩ := (JS.bx hJ3 2 rfl).c2
      obtain ⟨g0, g1⟩ := (JS.bx hJ3 2 rfl).f2
      obtain ⟨r0, r1⟩ := (JS.bx hJ3 1 rfl).c2
      obtain ⟨q0, q1⟩ := (JS.bx hJ3 1 rfl).f2
      have hj4 := ((J.set hJ3 0 (.int .u32 v) (X := w.heap.size) (Nat.le_refl _)).set 0 (.int .u32 v) (X := w.heap.size + 1) (by omega)).set 1 (.slice (some ⟨w.heap.size + 4, 0, none⟩) n n) (X := w.heap.size + 1) (by omega)
      simp at hj4
      have HJ4 := Lib.hid hj4
      clear hj4
      have HJ3 := Lib.hid hJ3
      clear hJ3
      change wpList _ _ _ _ _ _
      go_wp2
      refine bodyPost_ret (v := .tuple #[.agg #[.int .u32 v, .slice (some ⟨w.heap.size + 4, 0, none⟩) n n], .bool true]) (by simp [results, Try.results11, go_sem, *]) rfl (HE.out _ _ _ _ HJ4.out)
end Go.Proofs.Ytojioadonbiiaaa.Cal
