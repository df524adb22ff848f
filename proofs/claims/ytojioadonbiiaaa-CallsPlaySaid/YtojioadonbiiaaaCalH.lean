/- Contract of calls' Car. -/
import Derived.Test.YtojioadonbiiaaaCalG
namespace Go.Proofs.Ytojioadonbiiaaa.Cal
open Go.RowKit Go.Proofs.Ytojioadonbiiaaa.Sees Go.Proofs.Ytojioadonbiiaaa.CalP Go.Proofs.Ytojioadonbiiaaa.Box Go.Proofs.Ytojioadonbiiaaa.Held
set_option linter.unusedVariables false

theorem car_no {c : C} {k f n : Int} (h : carOk c k f n = false) : car c k f n = c := by unfold car; rw [if_neg (by rw [h]; decide)]
theorem car_yes {c : C} {k f n : Int} (h : carOk c k f n = true) : car c k f n = ⟨c.h, c.l.set k.toNat (wi (row c k) f)⟩ := by unfold car; rw [if_pos h]
theorem un_cell {l : List Nat} {m x : Nat} (h : l[m]? = some x) : (un l).toArray[m]? = some (.int .u32 x) := by simpa using un_at h

set_option maxRecDepth 100000 in
set_option maxHeartbeats 3200000 in
theorem Car_any (c : C) (hc : c.Ok) (A : Option Addr) (n cap : Nat) (hn : c.l.length = n) (hN : n ≤ 65536) (k f m : Int) (w : World) (hsee : Sees w w.heap.size A (un c.l)) :
    Calls Try.prog 12 #[val c.h A n cap, .int .i64 k, .int .i64 f, .int .i64 m] w (Told w 4 (car c k f m).l (.tuple #[val (car c k f m).h (some ⟨w.heap.size + 4, 0, none⟩) n n, .bool (carOk c k f m)])) := by
  have hj0 := J.two w #[.int .u32 c.h, .slice A n cap] #[.int .u32 0, .slice none 0 0] 27 27
  have HC := Lib.hid (copied_at hj0 c.h c.l A n cap (w.heap.size + 4) hn hN (by simp) hsee)
  have HI := Lib.hid (fun W => isFloor_any f m W)
  have HB := Lib.hid (fun W => bit_any f W)
  have HH := Lib.hid (fun W => has_any c.h (some ⟨w.heap.size + 4, 0, none⟩) n n k W)
  have hend : ∀ (l : List Nat) (b : Bool) W bs, J w W ((w.heap.size + 4, (un l).toArray) :: bs) → Told w 4 l (.tuple #[.agg #[.int .u32 c.h, .slice (some ⟨w.heap.size + 4, 0, none⟩) n n], .bool b]) (.returned (.tuple #[.agg #[.int .u32 c.h, .slice (some ⟨w.heap.size + 4, 0, none⟩) n n], .bool b])) W := fun l b W bs h => ⟨rfl, h.below, h.bx 0 rfl⟩
  have HE := Lib.hid hend
  clear hend hj0 hsee
  rw [car_h]
  unfold val at *
  cases hk : hasC n k
  · have hno : carOk c k f m = false := by unfold carOk; rw [hn, hk]; rfl
    rw [hno, car_no hno]
    rw [hk] at HH
    have HE' := Lib.hid (HE.out c.l false)
    clear HE hno hk
    generalize c.h = h at *
    generalize hl : c.l = l at HE' HC ⊢
    generalize (un l).toArray = cur at *
    go_enter Try.func12, Try.ntmps12
    go_wp2_with (first
      | (go_at_call 21; refine HC.out.mono ?_; rintro e w1 ⟨rfl, hj1⟩; have hjB := (J.set hj1.out 0 (.int .u32 h) (X := w.heap.size) (Nat.le_refl _)).set 1 (.slice (some ⟨w.heap.size + 4, 0, none⟩) n n) (X := w.heap.size) (Nat.le_refl _); simp at hjB; have hj2 := Lib.hid hjB; clear hjB; obtain ⟨b0, b1⟩ := (JS.bx hj1.out 2 rfl).c2; obtain ⟨g0, g1⟩ := (JS.bx hj1.out 2 rfl).f2; clear HC)
      | (go_at_call 24; refine (HH.out _).mono ?_; rintro e w2 ⟨rfl, h2⟩; have hj3 := Lib.hid (hj2.out.next h2); obtain ⟨d0, d1⟩ := (hj3.out.bx 2 rfl).c2; obtain ⟨r0, r1⟩ := (hj3.out.bx 1 rfl).c2; obtain ⟨q0, q1⟩ := (hj3.out.bx 1 rfl).f2; clear h2 HH))
    have hj4 := (hj3.out.set 0 (.int .u32 h) (X := w.heap.size + 1) (by omega)).set 1 (.slice (some ⟨w.heap.size + 4, 0, none⟩) n n) (X := w.heap.size + 1) (by omega)
    simp at hj4
    refine bodyPost_ret (v := .tuple #[.agg #[.int .u32 h, .slice (some ⟨w.heap.size + 4, 0, none⟩) n n], .bool false]) (by simp [results, Try.results12, go_sem, *]) rfl (HE'.out _ _ hj4)
  · cases hf : isF f m
    · have hno : carOk c k f m = false := by unfold carOk; rw [hn, hk, hf]; rfl
      rw [hno, car_no hno]
      rw [hk] at HH
      rw [hf] at HI
      have HE' := Lib.hid (HE.out c.l false)
      clear HE hno hk
      generalize c.h = h at *
      generalize hl : c.l = l at HE' HC ⊢
      generalize (un l).toArray = cur at *
      go_enter Try.func12, Try.ntmps12
      go_wp2_with (first
        | (go_at_call 21; refine HC.out.mono ?_; rintro e w1 ⟨rfl, hj1⟩; have hjB := (J.set hj1.out 0 (.int .u32 h) (X := w.heap.size) (Nat.le_refl _)).set 1 (.slice (some ⟨w.heap.size + 4, 0, none⟩) n n) (X := w.heap.size) (Nat.le_refl _); simp at hjB; have hj2 := Lib.hid hjB; clear hjB; obtain ⟨b0, b1⟩ := (JS.bx hj1.out 2 rfl).c2; obtain ⟨g0, g1⟩ := (JS.bx hj1.out 2 rfl).f2; clear HC)
        | (go_at_call 24; refine (HH.out _).mono ?_; rintro e w2 ⟨rfl, h2⟩; have hj3 := Lib.hid (hj2.out.next h2); obtain ⟨d0, d1⟩ := (hj3.out.bx 2 rfl).c2; obtain ⟨r0, r1⟩ := (hj3.out.bx 1 rfl).c2; obtain ⟨q0, q1⟩ := (hj3.out.bx 1 rfl).f2; clear h2 HH)
        | (go_at_call 22; refine (HI.out _).mono ?_; rintro e w3 ⟨rfl, rfl⟩))
      have hj4 := (hj3.out.set 0 (.int .u32 h) (X := w.heap.size + 1) (by omega)).set 1 (.slice (some ⟨w.heap.size + 4, 0, none⟩) n n) (X := w.heap.size + 1) (by omega)
      simp at hj4
      refine bodyPost_ret (v := .tuple #[.agg #[.int .u32 h, .slice (some ⟨w.heap.size + 4, 0, none⟩) n n], .bool false]) (by simp [results, Try.results12, go_sem, *]) rfl (HE'.out _ _ hj4)
    · have hyes : carOk c k f m = true := by unfold carOk; rw [hn, hk, hf]; rfl
      rw [hyes, car_yes hyes]
      rw [hk] at HH
      rw [hf] at HI
      obtain ⟨k0, k1⟩ := hasC_iff.1 hk
      clear hk hyes
      obtain ⟨i, rfl⟩ : ∃ i : Nat, k = i := ⟨k.toNat, by omega⟩
      rw [Int.toNat_natCast]
      have hat := un_cell (row_at (c := c) (k := i) (by omega))
      have hset := un_set c.l i (wi (row c i) f)
      have hor : bits .or .u32 (row c i : Nat) (bt f : Nat) = ((wi (row c i) f : Nat) : Int) := u32_or_nat _ _ (row_lt hc i) (bt_lt _)
      have HE' := Lib.hid (HE.out (c.l.set i (wi (row c i) f)) true)
      clear HE
      simp only
      generalize hx : row c i = x at hat hset hor HE' ⊢
      generalize hv : wi x f = v at hset hor HE' ⊢
      generalize hd : bt f = d at hor HB
      generalize hl2 : c.l.set i v = l2 at hset HE' ⊢
      generalize hc2 : (un l2).toArray = cur2 at hset HE' ⊢
      generalize hh : c.h = h at HC HH HE' ⊢
      generalize hcu : (un c.l).toArray = cur at hat hset HC
      have HSET := Lib.hid hset
      have HAT := Lib.hid hat
      clear hx hv hd hl2 hc2 hh hcu hset hat
      go_enter Try.func12, Try.ntmps12
      go_wp2_with (first
        | (go_at_call 21; refine HC.out.mono ?_; rintro e w1 ⟨rfl, hj1⟩; have hjB := (J.set hj1.out 0 (.int .u32 h) (X := w.heap.size) (Nat.le_refl _)).set 1 (.slice (some ⟨w.heap.size + 4, 0, none⟩) n n) (X := w.heap.size) (Nat.le_refl _); simp at hjB; have hj2 := Lib.hid hjB; clear hjB; obtain ⟨b0, b1⟩ := (JS.bx hj1.out 2 rfl).c2; obtain ⟨g0, g1⟩ := (JS.bx hj1.out 2 rfl).f2; clear HC)
        | (go_at_call 24; refine (HH.out _).mono ?_; rintro e w2 ⟨rfl, h2⟩; have hj3 := Lib.hid (hj2.out.next h2); obtain ⟨d0, d1⟩ := (hj3.out.bx 2 rfl).c2; obtain ⟨r0, r1⟩ := (hj3.out.bx 1 rfl).c2; obtain ⟨q0, q1⟩ := (hj3.out.bx 1 rfl).f2; clear h2 HH)
        | (go_at_call 22; refine (HI.out _).mono ?_; rintro e w3 ⟨rfl, rfl⟩))
      have hj4 : Hid (JS w _ _) := hj3
      refine wp_region_tail 9 _ JS.closed hj4.out (by kernel_rfl) (by kernel_rfl) ?_
      simp only [List.take_succ_cons, List.take_zero, List.drop_succ_cons, List.drop_zero]
      apply Exists.intro
      refine ⟨fun w3 h3 => ?_, fun W3 hJ3 hb3 => ?_⟩
      · haveI := Ext.some h3
        have t0 := ext_at h3 2 1 (v := .slice (some ⟨w.heap.size + 4, 0, none⟩) n n) rfl rfl
        have t1 := ext_at h3 0 i rfl HAT.out
        have cB := Lib.hid (Ext.calls h3 JS.closed (fun W _ => says_of_same (HB.out W)))
        repeat go_big_quiet_step (first | (go_at_call 23; with_reducible exact cB.out _))
        exact wpQuiet_nil rfl
      · obtain ⟨b0', b1'⟩ := (JS.bx hJ3 2 rfl).c2
        obtain ⟨r0', r1'⟩ := (JS.bx hJ3 1 rfl).c2
        obtain ⟨q0', q1'⟩ := (JS.bx hJ3 1 rfl).f2
        have x0 := (JS.bx hJ3 0 rfl).cell HAT.out
        have x1 := (JS.bx hJ3 0 rfl).fr i
        have hj5 := ((J.set hJ3 i (.int .u32 v) (X := w.heap.size + 4) (by omega)).set 0 (.int .u32 h) (X := w.heap.size + 1) (by omega)).set 1 (.slice (some ⟨w.heap.size + 4, 0, none⟩) n n) (X := w.heap.size + 1) (by omega)
        simp at hj5
        rw [HSET.out] at hj5
        have HJ5 := Lib.hid hj5
        clear hj5 hJ3
        change wpList _ _ _ _ _ _
        go_wp2
        refine bodyPost_ret (v := .tuple #[.agg #[.int .u32 h, .slice (some ⟨w.heap.size + 4, 0, none⟩) n n], .bool true]) (by simp [results, Try.results12, go_sem, *]) rfl (HE'.out _ _ HJ5.out)
end Go.Proofs.Ytojioadonbiiaaa.Cal
