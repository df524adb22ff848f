/- Contract of calls' Done. -/
import Derived.Test.YtojioadonbiiaaaCalH
namespace Go.Proofs.Ytojioadonbiiaaa.Cal
open Go.RowKit Go.Proofs.Ytojioadonbiiaaa.Sees Go.Proofs.Ytojioadonbiiaaa.CalP Go.Proofs.Ytojioadonbiiaaa.Box Go.Proofs.Ytojioadonbiiaaa.Held
set_option linter.unusedVariables false

set_option maxRecDepth 100000 in
set_option maxHeartbeats 3200000 in
theorem done_nf (h : Nat) (cur cur2 : Array Value) (A : Option Addr) (n cap i x v d u : Nat) (k f : Int) (w : World)
    (HC : Hid (Calls Try.prog 21 #[.agg #[.int .u32 h, .slice A n cap]] ((w.alloc (.cells #[.int .u32 h, .slice A n cap] 27)).alloc (.cells #[.int .u32 0, .slice none 0 0] 27)) fun e w1 => e = .returned (.agg #[.int .u32 h, .slice (some ⟨w.heap.size + 4, 0, none⟩) n n]) ∧ Hid (JS w [(w.heap.size + 4, cur), (w.heap.size + 1, #[.int .u32 0, .slice none 0 0]), (w.heap.size, #[.int .u32 h, .slice A n cap])] w1)))
    (HH : Hid (∀ W, Calls Try.prog 24 #[.agg #[.int .u32 h, .slice (some ⟨w.heap.size + 4, 0, none⟩) n n], .int .i64 k] W (Says W (.bool false))))
    (HB : Hid (∀ W, Calls Try.prog 23 #[.int .i64 f] W fun e w' => e = .returned (.int .u32 d) ∧ W = w')) :
    Calls Try.prog 14 #[.agg #[.int .u32 h, .slice A n cap], .int .i64 k, .int .i64 f, .bool false] w fun e w' => e = .returned (.agg #[.int .u32 h, .slice (some ⟨w.heap.size + 4, 0, none⟩) n n]) ∧ ∃ bs, J w w' ((w.heap.size + 4, cur) :: bs) := by
  go_enter Try.func14, Try.ntmps14
  go_wp2_with (first
    | (go_at_call 21; refine HC.out.mono ?_; rintro e w1 ⟨rfl, hj1⟩; have hjB := (J.set hj1.out 0 (.int .u32 h) (X := w.heap.size) (Nat.le_refl _)).set 1 (.slice (some ⟨w.heap.size + 4, 0, none⟩) n n) (X := w.heap.size) (Nat.le_refl _); simp at hjB; have hj2 := Lib.hid hjB; clear hjB; obtain ⟨b0, b1⟩ := (JS.bx hj1.out 2 rfl).c2; obtain ⟨g0, g1⟩ := (JS.bx hj1.out 2 rfl).f2; clear HC)
    | (go_at_call 24; refine (HH.out _).mono ?_; rintro e w2 ⟨rfl, h2⟩; have hj3 := Lib.hid (hj2.out.next h2); obtain ⟨d0, d1⟩ := (hj3.out.bx 2 rfl).c2; obtain ⟨r0, r1⟩ := (hj3.out.bx 1 rfl).c2; obtain ⟨q0, q1⟩ := (hj3.out.bx 1 rfl).f2; clear h2 HH))
  have hj7 := (hj3.out.set 0 (.int .u32 h) (X := w.heap.size + 1) (by omega)).set 1 (.slice (some ⟨w.heap.size + 4, 0, none⟩) n n) (X := w.heap.size + 1) (by omega)
  simp at hj7
  have HJ7 := Lib.hid hj7
  clear hj7
  refine bodyPost_ret (v := .agg #[.int .u32 h, .slice (some ⟨w.heap.size + 4, 0, none⟩) n n]) (by simp [results, Try.results14, go_sem, *]) rfl ⟨rfl, _, HJ7.out⟩

set_option maxRecDepth 100000 in
set_option maxHeartbeats 3200000 in
theorem done_nt (h : Nat) (cur cur2 : Array Value) (A : Option Addr) (n cap i x v d u : Nat) (k f : Int) (w : World)
    (HC : Hid (Calls Try.prog 21 #[.agg #[.int .u32 h, .slice A n cap]] ((w.alloc (.cells #[.int .u32 h, .slice A n cap] 27)).alloc (.cells #[.int .u32 0, .slice none 0 0] 27)) fun e w1 => e = .returned (.agg #[.int .u32 h, .slice (some ⟨w.heap.size + 4, 0, none⟩) n n]) ∧ Hid (JS w [(w.heap.size + 4, cur), (w.heap.size + 1, #[.int .u32 0, .slice none 0 0]), (w.heap.size, #[.int .u32 h, .slice A n cap])] w1)))
    (HH : Hid (∀ W, Calls Try.prog 24 #[.agg #[.int .u32 h, .slice (some ⟨w.heap.size + 4, 0, none⟩) n n], .int .i64 k] W (Says W (.bool false))))
    (HB : Hid (∀ W, Calls Try.prog 23 #[.int .i64 f] W fun e w' => e = .returned (.int .u32 d) ∧ W = w'))
    (hou : bits .andNot .u32 h d = (u : Int)) :
    Calls Try.prog 14 #[.agg #[.int .u32 h, .slice A n cap], .int .i64 k, .int .i64 f, .bool true] w fun e w' => e = .returned (.agg #[.int .u32 u, .slice (some ⟨w.heap.size + 4, 0, none⟩) n n]) ∧ ∃ bs, J w w' ((w.heap.size + 4, cur) :: bs) := by
  go_enter Try.func14, Try.ntmps14
  go_wp2_with (first
    | (go_at_call 21; refine HC.out.mono ?_; rintro e w1 ⟨rfl, hj1⟩; have hjB := (J.set hj1.out 0 (.int .u32 h) (X := w.heap.size) (Nat.le_refl _)).set 1 (.slice (some ⟨w.heap.size + 4, 0, none⟩) n n) (X := w.heap.size) (Nat.le_refl _); simp at hjB; have hj2 := Lib.hid hjB; clear hjB; obtain ⟨b0, b1⟩ := (JS.bx hj1.out 2 rfl).c2; obtain ⟨g0, g1⟩ := (JS.bx hj1.out 2 rfl).f2; clear HC)
    | (go_at_call 24; refine (HH.out _).mono ?_; rintro e w2 ⟨rfl, h2⟩; have hj3 := Lib.hid (hj2.out.next h2); obtain ⟨d0, d1⟩ := (hj3.out.bx 2 rfl).c2; obtain ⟨r0, r1⟩ := (hj3.out.bx 1 rfl).c2; obtain ⟨q0, q1⟩ := (hj3.out.bx 1 rfl).f2; clear h2 HH))
  have hj6 : Hid (JS w _ _) := hj3
  refine wp_region_tail 6 _ JS.closed hj6.out (by kernel_rfl) (by kernel_rfl) ?_
  simp only [List.take_succ_cons, List.take_zero, List.drop_succ_cons, List.drop_zero]
  apply Exists.intro
  refine ⟨fun w3 h3 => ?_, fun W4 hJ4 hb4 => ?_⟩
  · haveI := Ext.some h3
    have t0 := ext_at h3 2 0 (v := .int .u32 h) rfl rfl
    have cB := Lib.hid (Ext.calls h3 JS.closed (fun W _ => says_of_same (HB.out W)))
    repeat go_big_quiet_step (first | (go_at_call 23; with_reducible exact cB.out _))
    exact wpQuiet_nil rfl
  clear hj6 d0 d1 r0 r1 q0 q1
  obtain ⟨d0, d1⟩ := (JS.bx hJ4 2 rfl).c2
  obtain ⟨g0, g1⟩ := (JS.bx hJ4 2 rfl).f2
  obtain ⟨r0, r1⟩ := (JS.bx hJ4 1 rfl).c2
  obtain ⟨q0, q1⟩ := (JS.bx hJ4 1 rfl).f2
  have hj7 := ((J.set hJ4 0 (.int .u32 u) (X := w.heap.size) (Nat.le_refl _)).set 0 (.int .u32 u) (X := w.heap.size + 1) (by omega)).set 1 (.slice (some ⟨w.heap.size + 4, 0, none⟩) n n) (X := w.heap.size + 1) (by omega)
  simp at hj7
  have HJ7 := Lib.hid hj7
  clear hj7 hJ4
  change wpList _ _ _ _ _ _
  go_wp2
  refine bodyPost_ret (v := .agg #[.int .u32 u, .slice (some ⟨w.heap.size + 4, 0, none⟩) n n]) (by simp [results, Try.results14, go_sem, *]) rfl ⟨rfl, _, HJ7.out⟩

set_option maxRecDepth 100000 in
set_option maxHeartbeats 3200000 in
theorem done_yf (h : Nat) (cur cur2 : Array Value) (A : Option Addr) (n cap i x v d u : Nat) (k f : Int) (w : World)
    (HC : Hid (Calls Try.prog 21 #[.agg #[.int .u32 h, .slice A n cap]] ((w.alloc (.cells #[.int .u32 h, .slice A n cap] 27)).alloc (.cells #[.int .u32 0, .slice none 0 0] 27)) fun e w1 => e = .returned (.agg #[.int .u32 h, .slice (some ⟨w.heap.size + 4, 0, none⟩) n n]) ∧ Hid (JS w [(w.heap.size + 4, cur), (w.heap.size + 1, #[.int .u32 0, .slice none 0 0]), (w.heap.size, #[.int .u32 h, .slice A n cap])] w1)))
    (HH : Hid (∀ W, Calls Try.prog 24 #[.agg #[.int .u32 h, .slice (some ⟨w.heap.size + 4, 0, none⟩) n n], .int .i64 k] W (Says W (.bool true))))
    (HB : Hid (∀ W, Calls Try.prog 23 #[.int .i64 f] W fun e w' => e = .returned (.int .u32 d) ∧ W = w'))
    (k0 : 0 ≤ k) (k1 : k < n) (hki : k = i) (HAT : Hid (cur[i]? = some (.int .u32 x))) (HSET : Hid (cur.setIfInBounds i (.int .u32 v) = cur2)) (hor : bits .andNot .u32 x d = (v : Int)) :
    Calls Try.prog 14 #[.agg #[.int .u32 h, .slice A n cap], .int .i64 k, .int .i64 f, .bool false] w fun e w' => e = .returned (.agg #[.int .u32 h, .slice (some ⟨w.heap.size + 4, 0, none⟩) n n]) ∧ ∃ bs, J w w' ((w.heap.size + 4, cur2) :: bs) := by
  subst hki
  go_enter Try.func14, Try.ntmps14
  go_wp2_with (first
    | (go_at_call 21; refine HC.out.mono ?_; rintro e w1 ⟨rfl, hj1⟩; have hjB := (J.set hj1.out 0 (.int .u32 h) (X := w.heap.size) (Nat.le_refl _)).set 1 (.slice (some ⟨w.heap.size + 4, 0, none⟩) n n) (X := w.heap.size) (Nat.le_refl _); simp at hjB; have hj2 := Lib.hid hjB; clear hjB; obtain ⟨b0, b1⟩ := (JS.bx hj1.out 2 rfl).c2; obtain ⟨g0, g1⟩ := (JS.bx hj1.out 2 rfl).f2; clear HC)
    | (go_at_call 24; refine (HH.out _).mono ?_; rintro e w2 ⟨rfl, h2⟩; have hj3 := Lib.hid (hj2.out.next h2); obtain ⟨d0, d1⟩ := (hj3.out.bx 2 rfl).c2; obtain ⟨r0, r1⟩ := (hj3.out.bx 1 rfl).c2; obtain ⟨q0, q1⟩ := (hj3.out.bx 1 rfl).f2; clear h2 HH))
  have hj4 : Hid (JS w _ _) := hj3
  refine wp_region_tail 9 _ JS.closed hj4.out (by kernel_rfl) (by kernel_rfl) ?_
  simp only [List.take_succ_cons, List.take_zero, List.drop_succ_cons, List.drop_zero]
  apply Exists.intro
  refine ⟨fun w3 h3 => ?_, fun W3 hJ3 hb3 => ?_⟩
  · haveI := Ext.some h3
    have t0 := ext_at h3 2 1 (v := .slice (some ⟨w.heap.size + 4, 0, none⟩) n n) rfl rfl
    have t1 := ext_at h3 0 i rfl HAT.out
    have cB := Lib.hid (Ext.calls h3 JS.closed (fun W _ => says_of_same (HB.out W)))
    repeat go_big_quiet_step (first | (go_at_call 23; with_reducible exact cB.out _))
    exact wpQuiet_nil rfl
  clear hj1 hj2 hj3 hj4 b0 b1 g0 g1 d0 d1 r0 r1 q0 q1
  obtain ⟨d0, d1⟩ := (JS.bx hJ3 2 rfl).c2
  obtain ⟨r0, r1⟩ := (JS.bx hJ3 1 rfl).c2
  obtain ⟨q0, q1⟩ := (JS.bx hJ3 1 rfl).f2
  have x0 := (JS.bx hJ3 0 rfl).cell HAT.out
  have x1 := (JS.bx hJ3 0 rfl).fr i
  have hj5 := J.set hJ3 i (.int .u32 v) (X := w.heap.size + 4) (by omega)
  simp at hj5
  rw [HSET.out] at hj5
  have HJ5 := Lib.hid hj5
  clear hj5 hJ3
  change wpList _ _ _ _ _ _
  go_wp2
  have hj7 := (HJ5.out.set 0 (.int .u32 h) (X := w.heap.size + 1) (by omega)).set 1 (.slice (some ⟨w.heap.size + 4, 0, none⟩) n n) (X := w.heap.size + 1) (by omega)
  simp at hj7
  have HJ7 := Lib.hid hj7
  clear hj7
  refine bodyPost_ret (v := .agg #[.int .u32 h, .slice (some ⟨w.heap.size + 4, 0, none⟩) n n]) (by simp [results, Try.results14, go_sem, *]) rfl ⟨rfl, _, HJ7.out⟩

set_option maxRecDepth 100000 in
set_option maxHeartbeats 3200000 in
theorem done_yt (h : Nat) (cur cur2 : Array Value) (A : Option Addr) (n cap i x v d u : Nat) (k f : Int) (w : World)
    (HC : Hid (Calls Try.prog 21 #[.agg #[.int .u32 h, .slice A n cap]] ((w.alloc (.cells #[.int .u32 h, .slice A n cap] 27)).alloc (.cells #[.int .u32 0, .slice none 0 0] 27)) fun e w1 => e = .returned (.agg #[.int .u32 h, .slice (some ⟨w.heap.size + 4, 0, none⟩) n n]) ∧ Hid (JS w [(w.heap.size + 4, cur), (w.heap.size + 1, #[.int .u32 0, .slice none 0 0]), (w.heap.size, #[.int .u32 h, .slice A n cap])] w1)))
    (HH : Hid (∀ W, Calls Try.prog 24 #[.agg #[.int .u32 h, .slice (some ⟨w.heap.size + 4, 0, none⟩) n n], .int .i64 k] W (Says W (.bool true))))
    (HB : Hid (∀ W, Calls Try.prog 23 #[.int .i64 f] W fun e w' => e = .returned (.int .u32 d) ∧ W = w'))
    (k0 : 0 ≤ k) (k1 : k < n) (hki : k = i) (HAT : Hid (cur[i]? = some (.int .u32 x))) (HSET : Hid (cur.setIfInBounds i (.int .u32 v) = cur2)) (hor : bits .andNot .u32 x d = (v : Int))
    (hou : bits .andNot .u32 h d = (u : Int)) :
    Calls Try.prog 14 #[.agg #[.int .u32 h, .slice A n cap], .int .i64 k, .int .i64 f, .bool true] w fun e w' => e = .returned (.agg #[.int .u32 u, .slice (some ⟨w.heap.size + 4, 0, none⟩) n n]) ∧ ∃ bs, J w w' ((w.heap.size + 4, cur2) :: bs) := by
  subst hki
  go_enter Try.func14, Try.ntmps14
  go_wp2_with (first
    | (go_at_call 21; refine HC.out.mono ?_; rintro e w1 ⟨rfl, hj1⟩; have hjB := (J.set hj1.out 0 (.int .u32 h) (X := w.heap.size) (Nat.le_refl _)).set 1 (.slice (some ⟨w.heap.size + 4, 0, none⟩) n n) (X := w.heap.size) (Nat.le_refl _); simp at hjB; have hj2 := Lib.hid hjB; clear hjB; obtain ⟨b0, b1⟩ := (JS.bx hj1.out 2 rfl).c2; obtain ⟨g0, g1⟩ := (JS.bx hj1.out 2 rfl).f2; clear HC)
    | (go_at_call 24; refine (HH.out _).mono ?_; rintro e w2 ⟨rfl, h2⟩; have hj3 := Lib.hid (hj2.out.next h2); obtain ⟨d0, d1⟩ := (hj3.out.bx 2 rfl).c2; obtain ⟨r0, r1⟩ := (hj3.out.bx 1 rfl).c2; obtain ⟨q0, q1⟩ := (hj3.out.bx 1 rfl).f2; clear h2 HH))
  have hj4 : Hid (JS w _ _) := hj3
  refine wp_region_tail 9 _ JS.closed hj4.out (by kernel_rfl) (by kernel_rfl) ?_
  simp only [List.take_succ_cons, List.take_zero, List.drop_succ_cons, List.drop_zero]
  apply Exists.intro
  refine ⟨fun w3 h3 => ?_, fun W3 hJ3 hb3 => ?_⟩
  · haveI := Ext.some h3
    have t0 := ext_at h3 2 1 (v := .slice (some ⟨w.heap.size + 4, 0, none⟩) n n) rfl rfl
    have t1 := ext_at h3 0 i rfl HAT.out
    have cB := Lib.hid (Ext.calls h3 JS.closed (fun W _ => says_of_same (HB.out W)))
    repeat go_big_quiet_step (first | (go_at_call 23; with_reducible exact cB.out _))
    exact wpQuiet_nil rfl
  clear hj1 hj2 hj3 hj4 b0 b1 g0 g1 d0 d1 r0 r1 q0 q1
  obtain ⟨d0, d1⟩ := (JS.bx hJ3 2 rfl).c2
  obtain ⟨r0, r1⟩ := (JS.bx hJ3 1 rfl).c2
  obtain ⟨q0, q1⟩ := (JS.bx hJ3 1 rfl).f2
  have x0 := (JS.bx hJ3 0 rfl).cell HAT.out
  have x1 := (JS.bx hJ3 0 rfl).fr i
  have hj5 := J.set hJ3 i (.int .u32 v) (X := w.heap.size + 4) (by omega)
  simp at hj5
  rw [HSET.out] at hj5
  have HJ5 := Lib.hid hj5
  clear hj5 hJ3
  change wpList _ _ _ _ _ _
  go_wp2
  have hj6 : Hid (JS w _ _) := HJ5
  refine wp_region_tail 6 _ JS.closed hj6.out (by kernel_rfl) (by kernel_rfl) ?_
  simp only [List.take_succ_cons, List.take_zero, List.drop_succ_cons, List.drop_zero]
  apply Exists.intro
  refine ⟨fun w3 h3 => ?_, fun W4 hJ4 hb4 => ?_⟩
  · haveI := Ext.some h3
    have t0 := ext_at h3 2 0 (v := .int .u32 h) rfl rfl
    have cB := Lib.hid (Ext.calls h3 JS.closed (fun W _ => says_of_same (HB.out W)))
    repeat go_big_quiet_step (first | (go_at_call 23; with_reducible exact cB.out _))
    exact wpQuiet_nil rfl
  clear hj6 d0 d1 r0 r1 q0 q1
  obtain ⟨d0, d1⟩ := (JS.bx hJ4 2 rfl).c2
  obtain ⟨g0, g1⟩ := (JS.bx hJ4 2 rfl).f2
  obtain ⟨r0, r1⟩ := (JS.bx hJ4 1 rfl).c2
  obtain ⟨q0, q1⟩ := (JS.bx hJ4 1 rfl).f2
  have hj7 := ((J.set hJ4 0 (.int .u32 u) (X := w.heap.size) (Nat.le_refl _)).set 0 (.int .u32 u) (X := w.heap.size + 1) (by omega)).set 1 (.slice (some ⟨w.heap.size + 4, 0, none⟩) n n) (X := w.heap.size + 1) (by omega)
  simp at hj7
  have HJ7 := Lib.hid hj7
  clear hj7 hJ4
  change wpList _ _ _ _ _ _
  go_wp2
  refine bodyPost_ret (v := .agg #[.int .u32 u, .slice (some ⟨w.heap.size + 4, 0, none⟩) n n]) (by simp [results, Try.results14, go_sem, *]) rfl ⟨rfl, _, HJ7.out⟩

theorem Done_any (c : C) (hc : c.Ok) (A : Option Addr) (n cap : Nat) (hn : c.l.length = n) (hN : n ≤ 65536) (k f : Int) (b : Bool) (w : World) (hsee : Sees w w.heap.size A (un c.l)) :
    Calls Try.prog 14 #[val c.h A n cap, .int .i64 k, .int .i64 f, .bool b] w (Told w 4 (dn c k f b).l (val (dn c k f b).h (some ⟨w.heap.size + 4, 0, none⟩) n n)) := by
  have hj0 := J.two w #[.int .u32 c.h, .slice A n cap] #[.int .u32 0, .slice none 0 0] 27 27
  have HC := Lib.hid (copied_at hj0 c.h c.l A n cap (w.heap.size + 4) hn hN (by simp) hsee)
  have HB := Lib.hid (fun W => bit_any f W)
  have HH := Lib.hid (fun W => has_any c.h (some ⟨w.heap.size + 4, 0, none⟩) n n k W)
  have hou : bits .andNot .u32 c.h (bt f : Nat) = ((wo c.h f : Nat) : Int) := u32_andNot_nat _ _ hc.1 (bt_lt _)
  have hend : ∀ (h : Nat) (l : List Nat) e W, (e = .returned (.agg #[.int .u32 h, .slice (some ⟨w.heap.size + 4, 0, none⟩) n n]) ∧ ∃ bs, J w W ((w.heap.size + 4, (un l).toArray) :: bs)) → Told w 4 l (.agg #[.int .u32 h, .slice (some ⟨w.heap.size + 4, 0, none⟩) n n]) e W := fun h l e W ⟨h1, bs, h2⟩ => ⟨h1, h2.below, h2.bx 0 rfl⟩
  unfold val dn at *
  rw [hn]
  cases hk : hasC n k
  · rw [hk] at HH
    cases b
    · exact (done_nf c.h _ #[] A n cap 0 0 0 _ 0 k f w HC HH HB).mono fun e W h => hend _ _ _ _ h
    · exact (done_nt c.h _ #[] A n cap 0 0 0 _ _ k f w HC HH HB hou).mono fun e W h => hend _ _ _ _ h
  · rw [hk] at HH
    obtain ⟨k0, k1⟩ := hasC_iff.1 hk
    obtain ⟨i, hi⟩ : ∃ i : Nat, k = i := ⟨k.toNat, by omega⟩
    have hti : k.toNat = i := by omega
    have hat := Lib.hid (un_cell (row_at (c := c) (k := i) (by omega)))
    have hset := Lib.hid (un_set c.l i (wo (row c k) f))
    have hor : bits .andNot .u32 (row c k : Nat) (bt f : Nat) = ((wo (row c k) f : Nat) : Int) := u32_andNot_nat _ _ (row_lt hc k) (bt_lt _)
    rw [hti]
    rw [← hi] at hat
    cases b
    · exact (done_yf c.h _ _ A n cap i _ _ _ 0 k f w HC HH HB k0 k1 hi hat hset hor).mono fun e W h => hend _ _ _ _ h
    · exact (done_yt c.h _ _ A n cap i _ _ _ _ k f w HC HH HB k0 k1 hi hat hset hor hou).mono fun e W h => hend _ _ _ _ h
end Go.Proofs.Ytojioadonbiiaaa.Cal
