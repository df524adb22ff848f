/- The walk of FeedKnows. -/
import Derived.Test.YtfcdfkodafikdaaFedQ
import Derived.Test.YtfcdfkodafikdaaLate
import Derived.Test.YtfcdfkodafikdaaOpen
import Derived.OpenShut
import Derived.LoopN
namespace Go.Proofs.Ytfcdfkodafikdaa.Walk
open Go.RowKit Go.ChangeShapes Go.Proofs.Ytfcdfkodafikdaa.FedP Go.Proofs.Ytfcdfkodafikdaa.Fed Go.Proofs.Ytfcdfkodafikdaa.Box Go.Proofs.Ytfcdfkodafikdaa.Held Go.Proofs.Ytfcdfkodafikdaa.Sees Go.Proofs.Ytfcdfkodafikdaa.Open
set_option linter.unusedVariables false

set_option maxRecDepth 100000 in
set_option maxHeartbeats 6400000 in
theorem feedKnows_walk (w : World) (lag : Int) (a1 : Option Addr) (len1 cap1 : Nat) (z1 : List Int) (w0 : (Lit.int .i64 lag).wf = true)
    (hl1 : z1.length = len1) (hc1 : len1 ≤ cap1) (hx1 : cap1 ≤ maxLen) (hs1 : Sees w w.heap.size a1 (nums .i64 z1)) (hw1 : ∀ n ∈ z1, (Lit.int .i64 n).wf = true) :
    Calls Try.prog 4 #[.int .i64 lag, .slice a1 len1 cap1] w fun e w' => e = .returned (.bool true) ∧ Below w.heap.size w w' := by
  unfold maxLen at hx1
  have HL1 := Lib.hid hl1
  have HS1 := Lib.hid hs1
  clear w0 hl1 hs1 hw1
  have HA : Hid (∀ W, Calls Try.prog 9 #[] W (Says W (.bool true))) := Lib.hid fun W => awake_any W
  by_cases hbig : 200 < len1
  · go_enter Try.func4, Try.ntmps4
    go_wp2_with (go_at_call 9; refine (HA.out _).mono ?_; rintro e w1 ⟨rfl, h1⟩)
    go_ret
    exact ⟨rfl, h1⟩
  · have g1 : ¬ (200 : Int) < (len1 : Int) := by omega
    obtain ⟨n, hn8, hn⟩ : ∃ n : Nat, n ≤ 8 ∧ bo lag 0 8 = n := ⟨(bo lag 0 8).toNat, by unfold bo; omega, by unfold bo; omega⟩
    have HN := Lib.hid (fun W => New_any lag n hn W)
    have HK : Hid (∀ (i : Nat), i < len1 → ∀ W, Below w.heap.size w W → Calls Try.prog 17 #[.int .i64 lag, .slice a1 (i + 1) cap1] W (Says W (.int .i64 (kn n (i + 1) z1)))) := Lib.hid fun i hi W hb =>
      says_of_same (refKnown_any lag n hn z1 a1 (i + 1) cap1 (by rw [HL1.out]; omega) (by omega) W ((HS1.out.below hb (Nat.le_refl _)).more hb.size))
    clear hn
    unfold kval karr at HN
    simp only [List.map_cons, List.map_nil] at HN
    go_enter Try.func4, Try.ntmps4
    go_wp2_with (first
      | (go_at_call 9; (with_reducible refine (HA.out _).mono ?_); clear HA; rintro e w1 ⟨rfl, h1⟩)
      | (go_at_call 15; (with_reducible refine (HN.out _).mono ?_); clear HN; rintro e w2 ⟨rfl, h2⟩; have hj0 := Lib.hid ((((J.start w).next h1).next h2).push #[.int .i64 n, .int .i64 0, .int .i64 0, .int .i64 0, .int .i64 0, .int .i64 0, .int .i64 0, .int .i64 0, .int .i64 0] 37); have hX : w.heap.size ≤ w2.heap.size := Nat.le_trans h1.size h2.size))
    clear h1 h2
    have hj0' : Hid (J w (w2.alloc (.cells #[.int .i64 n, .int .i64 0, .int .i64 0, .int .i64 0, .int .i64 0, .int .i64 0, .int .i64 0, .int .i64 0, .int .i64 0] 37)) [(w2.heap.size, karr n (kt n (hs z1 0)))]) := by
      have e : kt n (hs z1 0) = [0, 0, 0, 0, 0, 0, 0, 0] := kt_nil n hn8
      rw [e]; exact hj0
    clear hj0
    go_loopw [7] (fun a wr => ∃ (i : Nat), a = .int .i64 i ∧ i ≤ len1 ∧ Hid (J w wr [(w2.heap.size, karr n (kt n (hs z1 i)))])) (fun a _ => len1 - (intOf a).toNat)
    case atStart => exact ⟨0, rfl, by omega, hj0'⟩
    case round =>
      obtain ⟨i, rfl, hi, hj⟩ := hrel
      by_cases hlt : i < len1
      · have hiz : i < z1.length := by rw [HL1.out]; exact hlt
        obtain ⟨b1, p1, rfl, hb1, hcell1⟩ := HS1.out.at_ (nums_at .i64 z1 i hiz)
        have hsu := hs_succ z1 i (v := z1[i]?.getD 0) (by rw [List.getElem?_eq_getElem hiz]; rfl)
        have hT := Lib.hid (fun W => Tell_any n hn8 (hs z1 i) (z1[i]?.getD 0) W)
        have hA := an_hs n (i + 1) z1 (by omega)
        have HK' := Lib.hid (HK.out i hlt)
        unfold cl at hsu
        rw [← hsu, hA] at hT
        have hl8 := kt_len n (hs z1 i) hn8
        have hu8 := kt_len n (hs z1 (i + 1)) hn8
        clear hsu hA
        generalize z1[i]?.getD 0 = v at *
        generalize kn n (i + 1) z1 = y at *
        obtain ⟨t0, t1, t2, t3, t4, t5, t6, t7, ht⟩ := eight hl8
        obtain ⟨u0, u1, u2, u3, u4, u5, u6, u7, hu⟩ := eight hu8
        rw [ht] at hj hT
        rw [hu] at hT
        have HU := Lib.hid hu
        clear ht hu hl8 hu8 hiz HK
        unfold kval karr at hT
        simp only [List.map_cons, List.map_nil] at hT
        have hjl : Hid (JS w [(w2.heap.size, #[.int .i64 n, .int .i64 t0, .int .i64 t1, .int .i64 t2, .int .i64 t3, .int .i64 t4, .int .i64 t5, .int .i64 t6, .int .i64 t7])] wr) := hj
        have HC1 := Lib.hid hcell1
        clear hj hcell1
        have i1 : (i : Int) < (len1 : Int) := by omega
        have e3 : IntKind.i64.wrap ((i : Int) + 1) = ((i + 1 : Nat) : Int) := by rw [IntWalk.i64_in _ (by omega)]; rfl
        have ky : (y == y) = true := by simp
        go_wp2
        refine wp_region_lay_late 9 [8] _ #[.int .i64 0, .int .i64 0, .int .i64 0, .int .i64 0, .int .i64 0, .int .i64 0, .int .i64 0, .int .i64 0, .int .i64 0] 37 _ 8 JS.closed hjl.out (by kernel_rfl) (by kernel_rfl) rfl rfl rfl (fun ρ w' => by simp [execOp, go_sem]) ?_
        simp only [List.take_succ_cons, List.take_zero, List.drop_succ_cons, List.drop_zero]
        apply Exists.intro
        refine ⟨fun w3 h3 => ?_, fun B W3 hJ3 hz3 hB hbx aF haF => ?_⟩
        · haveI := Ext.some h3
          have q0 := ext_at h3 0 0 (v := .int .i64 n) rfl rfl
          have q1 := ext_at h3 0 1 (v := .int .i64 t0) rfl rfl
          have q2 := ext_at h3 0 2 (v := .int .i64 t1) rfl rfl
          have q3 := ext_at h3 0 3 (v := .int .i64 t2) rfl rfl
          have q4 := ext_at h3 0 4 (v := .int .i64 t3) rfl rfl
          have q5 := ext_at h3 0 5 (v := .int .i64 t4) rfl rfl
          have q6 := ext_at h3 0 6 (v := .int .i64 t5) rfl rfl
          have q7 := ext_at h3 0 7 (v := .int .i64 t6) rfl rfl
          have q8 := ext_at h3 0 8 (v := .int .i64 t7) rfl rfl
          have m1 := ext_old h3 (a := ⟨b1, p1 + i, none⟩) hb1 HC1.out
          have c1 := Lib.hid (Ext.calls h3 JS.closed (fun W _ => hT.out W))
          repeat go_big_quiet_step (first | (go_at_call 16; with_reducible exact c1.out _))
          exact wpQuiet_nil rfl
        · have hXB : w.heap.size ≤ B := Nat.le_trans hjl.out.below.size hB
          have hlt1 := (hjl.out.bx 0 rfl).lt
          have hne : ∀ x ∈ [(w2.heap.size, (#[.int .i64 n, .int .i64 t0, .int .i64 t1, .int .i64 t2, .int .i64 t3, .int .i64 t4, .int .i64 t5, .int .i64 t6, .int .i64 t7] : Array Value))], x.1 ≠ B := fun x hx => by
            simp at hx; subst hx; simp only; omega
          have hne2 : ∀ y ∈ [(B, (#[.int .i64 n, .int .i64 u0, .int .i64 u1, .int .i64 u2, .int .i64 u3, .int .i64 u4, .int .i64 u5, .int .i64 u6, .int .i64 u7] : Array Value))], y.1 ≠ w2.heap.size := fun y hy => by
            simp at hy; subst hy; simp only; omega
          obtain ⟨f0, f1, f2, f3, f4, f5, f6, f7, f8⟩ := hbx.f9
          obtain ⟨b0, b1, b2, b3, b4, b5, b6, b7, b8⟩ := hbx.c9
          simp [Act.put] at haF
          subst haF
          change wpList _ _ _ _ _ _
          go_wp2
          refine ⟨rfl, rfl, ⟨fun o d ho hd => by obtain rfl := Option.some.inj ho; obtain rfl := Option.some.inj hd; simp [execOp, Act.eval, go_sem], trivial⟩, ?_⟩
          have hj6 := jfill9x (x0 := .int .i64 n) (x1 := .int .i64 u0) (x2 := .int .i64 u1) (x3 := .int .i64 u2) (x4 := .int .i64 u3) (x5 := .int .i64 u4) (x6 := .int .i64 u5) (x7 := .int .i64 u6) (x8 := .int .i64 u7) (J.more hJ3 hbx) hXB hne
          clear f0 f1 f2 f3 f4 f5 f6 f7 f8 b0 b1 b2 b3 b4 b5 b6 b7 b8
          generalize World.setCell _ ⟨B, 8, none⟩ (.int .i64 u7) = W4 at hj6 ⊢
          have hj7 := Lib.hid hj6
          clear hj6
          obtain ⟨f0, f1, f2, f3, f4, f5, f6, f7, f8⟩ := (hj7.out.bx 1 rfl).f9
          obtain ⟨c0, c1, c2, c3, c4, c5, c6, c7, c8⟩ := (hj7.out.bx 1 rfl).c9
          obtain ⟨b0, b1, b2, b3, b4, b5, b6, b7, b8⟩ := (hj7.out.bx 0 rfl).c9
          have hj8 := Lib.hid (jfill9x (x0 := .int .i64 n) (x1 := .int .i64 u0) (x2 := .int .i64 u1) (x3 := .int .i64 u2) (x4 := .int .i64 u3) (x5 := .int .i64 u4) (x6 := .int .i64 u5) (x7 := .int .i64 u6) (x8 := .int .i64 u7) (jswap hj7.out) hX hne2)
          change wpList _ _ _ _ _ _
          go_wp2_with (go_at_call 17; (with_reducible refine (HK'.out _ hj8.out.below).mono ?_); clear HK'; rintro e5 w5 ⟨rfl, h5⟩; have hj9 := Lib.hid (hj8.out.next h5))
          go_roundw
          case rel => exact ⟨i + 1, rfl, by omega, Lib.hid (by rw [HU.out]; exact jhead hj9.out)⟩
          case measure => simp [intOf]; omega
      · obtain rfl : i = len1 := by omega
        go_wp2
        go_ret
        exact ⟨rfl, hj.out.below⟩

end Go.Proofs.Ytfcdfkodafikdaa.Walk
