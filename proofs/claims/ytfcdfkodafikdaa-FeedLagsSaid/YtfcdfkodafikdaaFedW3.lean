/- The walk of FeedLags. -/
import Derived.Test.YtfcdfkodafikdaaFedQ
import Derived.Test.YtfcdfkodafikdaaLate
import Derived.Test.YtfcdfkodafikdaaOpen
import Derived.OpenShut
import Derived.LoopN
namespace Go.Proofs.Ytfcdfkodafikdaa.Walk
open Go.RowKit Go.ChangeShapes Go.Proofs.Ytfcdfkodafikdaa.FedP Go.Proofs.Ytfcdfkodafikdaa.Fed Go.Proofs.Ytfcdfkodafikdaa.Box Go.Proofs.Ytfcdfkodafikdaa.Held Go.Proofs.Ytfcdfkodafikdaa.Sees Go.Proofs.Ytfcdfkodafikdaa.Open
set_option linter.unusedVariables false

/-- all that is told -/
def lagRow (z : List Int) (c : Int) : List Int := z ++ List.replicate 20 c
theorem lagRow_len (z : List Int) (c : Int) : (lagRow z c).length = z.length + 20 := by unfold lagRow; simp
theorem lagRow_a (z : List Int) (c : Int) (i : Nat) (h : i < z.length) : (lagRow z c)[i]? = some (z[i]?.getD 0) := by
  unfold lagRow; rw [List.getElem?_append_left h, List.getElem?_eq_getElem h]; rfl
theorem lagRow_b (z : List Int) (c : Int) (i : Nat) (h : i < 20) : (lagRow z c)[z.length + i]? = some c := by
  unfold lagRow; rw [List.getElem?_append_right (by omega), Nat.add_sub_cancel_left, List.getElem?_replicate, if_pos h]
theorem cl_u16 {v : Int} (h0 : 0 ≤ v) (h1 : v ≤ 65535) : cl v = v := by unfold cl bo; omega

set_option maxRecDepth 100000 in
set_option maxHeartbeats 2000000 in
theorem feedLags_walk (w : World) (lg : Int) (a1 : Option Addr) (len1 cap1 : Nat) (z1 : List Int) (c : Int) (w0 : (Lit.int .u8 lg).wf = true)
    (hl1 : z1.length = len1) (hc1 : len1 ≤ cap1) (hx1 : cap1 ≤ maxLen) (hs1 : Sees w w.heap.size a1 (nums .u16 z1)) (hw1 : ∀ n ∈ z1, (Lit.int .u16 n).wf = true) (w2 : (Lit.int .u16 c).wf = true) :
    Calls Try.prog 6 #[.int .u8 lg, .slice a1 len1 cap1, .int .u16 c] w fun e w' => e = .returned (.bool true) ∧ Below w.heap.size w w' := by
  unfold maxLen at hx1
  have hlg := bounds_u8 w0
  have hcb := bounds_u16 w2
  have HL1 := Lib.hid hl1
  have HS1 := Lib.hid hs1
  have HW1 := Lib.hid hw1
  clear w0 w2 hl1 hs1 hw1
  have HA : Hid (∀ W, Calls Try.prog 9 #[] W (Says W (.bool true))) := Lib.hid fun W => awake_any W
  by_cases hbig : 60 < len1
  · go_enter Try.func6, Try.ntmps6
    go_wp2_with (go_at_call 9; refine (HA.out _).mono ?_; rintro e w1 ⟨rfl, h1⟩)
    go_ret
    exact ⟨rfl, h1⟩
  · have g1 : ¬ (60 : Int) < (len1 : Int) := by omega
    obtain ⟨n, hn8, hn⟩ : ∃ n : Nat, n ≤ 8 ∧ lg % 9 = n := ⟨(lg % 9).toNat, by omega, by omega⟩
    have t1 : lg.tmod 9 = n := by rw [Int.tmod_eq_emod_of_nonneg (by omega)]; exact hn
    have t2 : IntKind.u8.wrap n = n := IntWalk.u8_in _ (by omega)
    have t3 : IntKind.i64.wrap n = n := IntWalk.i64_in _ (by omega)
    have HN := Lib.hid (fun W => New_any n n (by unfold bo; omega) W)
    clear hn hlg
    unfold kval karr at HN
    simp only [List.map_cons, List.map_nil] at HN
    go_enter Try.func6, Try.ntmps6
    go_wp2_with (first
      | (go_at_call 9; (with_reducible refine (HA.out _).mono ?_); clear HA; rintro e w1 ⟨rfl, h1⟩)
      | (go_at_call 15; (with_reducible refine (HN.out _).mono ?_); clear HN; rintro e w2 ⟨rfl, h2⟩; have hj0 := Lib.hid ((((J.start w).next h1).next h2).push #[.int .i64 n, .int .i64 0, .int .i64 0, .int .i64 0, .int .i64 0, .int .i64 0, .int .i64 0, .int .i64 0, .int .i64 0] 37); have hX : w.heap.size ≤ w2.heap.size := Nat.le_trans h1.size h2.size))
    clear h1 h2
    have hj0' : Hid (J w (w2.alloc (.cells #[.int .i64 n, .int .i64 0, .int .i64 0, .int .i64 0, .int .i64 0, .int .i64 0, .int .i64 0, .int .i64 0, .int .i64 0] 37)) [(w2.heap.size, karr n (kt n (hs (lagRow z1 c) 0)))]) := by
      have e : kt n (hs (lagRow z1 c) 0) = [0, 0, 0, 0, 0, 0, 0, 0] := kt_nil n hn8
      rw [e]; exact hj0
    clear hj0
    go_loopw [10] (fun a wr => ∃ (i : Nat), a = .int .i64 i ∧ i ≤ len1 ∧ Hid (J w wr [(w2.heap.size, karr n (kt n (hs (lagRow z1 c) i)))])) (fun a _ => len1 - (intOf a).toNat)
    case atStart => exact ⟨0, rfl, by omega, hj0'⟩
    case round =>
      obtain ⟨i, rfl, hi, hj⟩ := hrel
      by_cases hlt : i < len1
      · have hiz : i < z1.length := by rw [HL1.out]; exact hlt
        obtain ⟨b1, p1, rfl, hb1, hcell1⟩ := HS1.out.at_ (nums_at .u16 z1 i hiz)
        have hv := bounds_u16 (HW1.out (z1[i]?.getD 0) (by simp [hiz]))
        have hsu := hs_succ (lagRow z1 c) i (lagRow_a z1 c i hiz)
        have hT := Lib.hid (fun W => Tell_any n hn8 (hs (lagRow z1 c) i) (z1[i]?.getD 0) W)
        unfold cl at hsu
        rw [← hsu] at hT
        have hl8 := kt_len n (hs (lagRow z1 c) i) hn8
        have hu8 := kt_len n (hs (lagRow z1 c) (i + 1)) hn8
        clear hsu
        generalize z1[i]?.getD 0 = v at *
        generalize an n (hs (lagRow z1 c) (i + 1)) = y at *
        obtain ⟨t0, t1', t2', t3', t4, t5, t6, t7, ht⟩ := eight hl8
        obtain ⟨u0, u1, u2, u3, u4, u5, u6, u7, hu⟩ := eight hu8
        rw [ht] at hj hT
        rw [hu] at hT
        have HU := Lib.hid hu
        clear ht hu hl8 hu8 hiz
        unfold kval karr at hT
        simp only [List.map_cons, List.map_nil] at hT
        have hjl : Hid (JS w [(w2.heap.size, #[.int .i64 n, .int .i64 t0, .int .i64 t1', .int .i64 t2', .int .i64 t3', .int .i64 t4, .int .i64 t5, .int .i64 t6, .int .i64 t7])] wr) := hj
        have HC1 := Lib.hid hcell1
        clear hj hcell1
        have i1 : (i : Int) < (len1 : Int) := by omega
        have e3 : IntKind.i64.wrap ((i : Int) + 1) = ((i + 1 : Nat) : Int) := by rw [IntWalk.i64_in _ (by omega)]; rfl
        have e4 : IntKind.i64.wrap v = v := IntWalk.i64_in _ (by omega)
        go_wp2
        refine wp_region_lay_late 10 [9] _ #[.int .i64 0, .int .i64 0, .int .i64 0, .int .i64 0, .int .i64 0, .int .i64 0, .int .i64 0, .int .i64 0, .int .i64 0] 37 _ 11 JS.closed hjl.out (by kernel_rfl) (by kernel_rfl) rfl rfl rfl (fun ρ w' => by simp [execOp, go_sem]) ?_
        simp only [List.take_succ_cons, List.take_zero, List.drop_succ_cons, List.drop_zero]
        apply Exists.intro
        refine ⟨fun w3 h3 => ?_, fun B W3 hJ3 hz3 hB hbx aF haF => ?_⟩
        · haveI := Ext.some h3
          have q0 := ext_at h3 0 0 (v := .int .i64 n) rfl rfl
          have q1 := ext_at h3 0 1 (v := .int .i64 t0) rfl rfl
          have q2 := ext_at h3 0 2 (v := .int .i64 t1') rfl rfl
          have q3 := ext_at h3 0 3 (v := .int .i64 t2') rfl rfl
          have q4 := ext_at h3 0 4 (v := .int .i64 t3') rfl rfl
          have q5 := ext_at h3 0 5 (v := .int .i64 t4) rfl rfl
          have q6 := ext_at h3 0 6 (v := .int .i64 t5) rfl rfl
          have q7 := ext_at h3 0 7 (v := .int .i64 t6) rfl rfl
          have q8 := ext_at h3 0 8 (v := .int .i64 t7) rfl rfl
          have m1 := ext_old h3 (a := ⟨b1, p1 + i, none⟩) hb1 HC1.out
          have c1 := Lib.hid (Ext.calls h3 JS.closed (fun W _ => hT.out W))
          repeat go_big_quiet_step (first | (go_at_call 16; with_reducible exact c1.out _))
          exact wpQuiet_nil rfl
        · have hXB : w.heap.size ≤ B := Nat.le_trans hjl.out.below.size hB
          have hlt1 := (hjl.out.bx 0 rfl).lt
          have hne : ∀ x ∈ [(w2.heap.size, (#[.int .i64 n, .int .i64 t0, .int .i64 t1', .int .i64 t2', .int .i64 t3', .int .i64 t4, .int .i64 t5, .int .i64 t6, .int .i64 t7] : Array Value))], x.1 ≠ B := fun x hx => by
            simp at hx; subst hx; simp only; omega
          have hne2 : ∀ y ∈ [(B, (#[.int .i64 n, .int .i64 u0, .int .i64 u1, .int .i64 u2, .int .i64 u3, .int .i64 u4, .int .i64 u5, .int .i64 u6, .int .i64 u7] : Array Value))], y.1 ≠ w2.heap.size := fun y hy => by
            simp at hy; subst hy; simp only; omega
          obtain ⟨f0, f1, f2, f3, f4, f5, f6, f7, f8⟩ := hbx.f9
          obtain ⟨b0, b1, b2, b3, b4, b5, b6, b7, b8⟩ := hbx.c9
          simp [Act.put] at haF
          subst haF
          change wpList _ _ _ _ _ _
          go_wp2
          refine ⟨rfl, rfl, ⟨fun o d ho hd => by obtain rfl := Option.some.inj ho; obtain rfl := Option.some.inj hd; simp [execOp, Act.eval, go_sem], trivial⟩, ?_⟩
          have hj6 := jfill9x (x0 := .int .i64 n) (x1 := .int .i64 u0) (x2 := .int .i64 u1) (x3 := .int .i64 u2) (x4 := .int .i64 u3) (x5 := .int .i64 u4) (x6 := .int .i64 u5) (x7 := .int .i64 u6) (x8 := .int .i64 u7) (J.more hJ3 hbx) hXB hne
          clear f0 f1 f2 f3 f4 f5 f6 f7 f8 b0 b1 b2 b3 b4 b5 b6 b7 b8
          generalize World.setCell _ ⟨B, 8, none⟩ (.int .i64 u7) = W4 at hj6 ⊢
          have hj7 := Lib.hid hj6
          clear hj6
          obtain ⟨f0, f1, f2, f3, f4, f5, f6, f7, f8⟩ := (hj7.out.bx 1 rfl).f9
          obtain ⟨c0, c1, c2, c3, c4, c5, c6, c7, c8⟩ := (hj7.out.bx 1 rfl).c9
          obtain ⟨b0, b1, b2, b3, b4, b5, b6, b7, b8⟩ := (hj7.out.bx 0 rfl).c9
          have hj8 := Lib.hid (jfill9x (x0 := .int .i64 n) (x1 := .int .i64 u0) (x2 := .int .i64 u1) (x3 := .int .i64 u2) (x4 := .int .i64 u3) (x5 := .int .i64 u4) (x6 := .int .i64 u5) (x7 := .int .i64 u6) (x8 := .int .i64 u7) (jswap hj7.out) hX hne2)
          change wpList _ _ _ _ _ _
          go_wp2
          go_roundw
          case rel => exact ⟨i + 1, rfl, by omega, Lib.hid (by rw [HU.out]; exact jhead hj8.out)⟩
          case measure => simp [intOf]; omega
      · obtain rfl : i = len1 := by omega
        clear hj0'
        go_wp2
        go_loopw [13] (fun a wr => ∃ (k : Nat), a = .int .i64 k ∧ k ≤ 20 ∧ Hid (J w wr [(w2.heap.size, karr n (kt n (hs (lagRow z1 c) (i + k))))])) (fun a _ => 20 - (intOf a).toNat)
        case atStart => exact ⟨0, rfl, by omega, hj⟩
        case round =>
          clear hj
          obtain ⟨k, rfl, hk, hj⟩ := hrel
          by_cases hlt : k < 20
          · have hlr : i + k + 1 ≤ (lagRow z1 c).length := by rw [lagRow_len, HL1.out]; omega
            have hsu := hs_succ (lagRow z1 c) (i + k) (v := c) (by have := lagRow_b z1 c k hlt; rwa [HL1.out] at this)
            have hT := Lib.hid (fun W => Tell_any n hn8 (hs (lagRow z1 c) (i + k)) c W)
            have hA := an_hs n (i + k + 1) (lagRow z1 c) hlr
            unfold cl at hsu
            rw [← hsu, hA] at hT
            have hl8 := kt_len n (hs (lagRow z1 c) (i + k)) hn8
            have hu8 := kt_len n (hs (lagRow z1 c) (i + k + 1)) hn8
            clear hsu hA hlr
            obtain ⟨y, hy⟩ : ∃ y, kn n (i + k + 1) (lagRow z1 c) = y := ⟨_, rfl⟩
            rw [hy] at hT
            have hcases : (n ≤ k ∧ y = c) ∨ (k < n ∧ n ≤ i + k ∧ y = z1[i + k - n]?.getD 0) ∨ (k < n ∧ i + k < n ∧ y = 0) := by
              unfold kn at hy
              by_cases g : i + k + 1 ≤ n
              · rw [if_pos g] at hy
                exact .inr (.inr ⟨by omega, by omega, hy.symm⟩)
              · rw [if_neg g] at hy
                have e : i + k + 1 - 1 - n = i + k - n := by omega
                rw [e] at hy
                by_cases g2 : n ≤ k
                · have := lagRow_b z1 c (k - n) (by omega)
                  rw [HL1.out, show i + (k - n) = i + k - n by omega] at this
                  rw [this] at hy
                  have h3 := cl_u16 hcb.1 hcb.2
                  unfold cl at h3
                  simp only [Option.getD_some] at hy
                  rw [h3] at hy
                  exact .inl ⟨g2, hy.symm⟩
                · have hz : i + k - n < z1.length := by rw [HL1.out]; omega
                  rw [lagRow_a z1 c _ hz] at hy
                  have hv := bounds_u16 (HW1.out (z1[i + k - n]?.getD 0) (by simp [hz]))
                  have h3 := cl_u16 hv.1 hv.2
                  unfold cl at h3
                  simp only [Option.getD_some] at hy
                  rw [h3] at hy
                  exact .inr (.inl ⟨by omega, by omega, hy.symm⟩)
            clear hy
            obtain ⟨t0, t1', t2', t3', t4, t5, t6, t7, ht⟩ := eight hl8
            obtain ⟨u0, u1, u2, u3, u4, u5, u6, u7, hu⟩ := eight hu8
            rw [ht] at hj hT
            rw [hu] at hT
            have HU := Lib.hid hu
            clear ht hu hl8 hu8
            unfold kval karr at hT
            simp only [List.map_cons, List.map_nil] at hT
            have hjl : Hid (J w wr [(w2.heap.size, #[.int .i64 n, .int .i64 t0, .int .i64 t1', .int .i64 t2', .int .i64 t3', .int .i64 t4, .int .i64 t5, .int .i64 t6, .int .i64 t7])]) := hj
            clear hj
            have k1 : decide ((k : Int) < 20) = true := by simp; omega
            have e3 : IntKind.i64.wrap ((k : Int) + 1) = ((k + 1 : Nat) : Int) := by rw [IntWalk.i64_in _ (by omega)]; rfl
            have e4 : IntKind.i64.wrap c = c := IntWalk.i64_in _ (by omega)
            obtain ⟨p, hp⟩ : ∃ p, (i : Int) + k = p := ⟨_, rfl⟩
            have e5 : IntKind.i64.wrap ((i : Int) + k) = p := by rw [IntWalk.i64_in _ (by omega)]; exact hp
            obtain ⟨r, hr⟩ : ∃ r, p - (n : Int) = r := ⟨_, rfl⟩
            have e6 : IntKind.i64.wrap (p - n) = r := by rw [IntWalk.i64_in _ (by omega)]; exact hr
            obtain ⟨c0, c1, c2, c3, c4, c5, c6, c7, c8⟩ := (hjl.out.bx 0 rfl).c9
            have hlt1 := (hjl.out.bx 0 rfl).lt
            rcases hcases with ⟨g1, rfl⟩ | ⟨g1, g2, hy⟩ | ⟨g1, g2, rfl⟩
            · have d1 : (y == y) = true := by simp
              have d2 : decide (r < 0) = false := by simp; omega
              have d2' : ¬ r < 0 := by omega
              have d3 : decide (n ≤ k) = true := by simp; omega
              have d4 : decide (k < n) = false := by simp; omega
              clear g1
              have HH := Lib.hid (And.intro hk (And.intro hlt hn8))
              clear hk hlt hn8 hp hr
              go_wp2_with (go_at_call 16; (with_reducible refine (hT.out _).mono ?_); clear hT c0 c1 c2 c3 c4 c5 c6 c7 c8; rintro e5 w5 ⟨rfl, h5⟩; obtain ⟨r0, r1, r2, r3, r4, r5, r6, r7, r8⟩ := ((hjl.out.next h5).bx 0 rfl).c9; obtain ⟨s0, s1, s2, s3, s4, s5, s6, s7, s8⟩ := ((hjl.out.next h5).bx 0 rfl).f9; have hlt5 : w2.heap.size < w5.heap.size := Nat.lt_of_lt_of_le hlt1 h5.size; have hj1 := Lib.hid (hjl.out.next h5); clear h5; have hj8 := Lib.hid ((jfill9x (x0 := .int .i64 n) (x1 := .int .i64 u0) (x2 := .int .i64 u1) (x3 := .int .i64 u2) (x4 := .int .i64 u3) (x5 := .int .i64 u4) (x6 := .int .i64 u5) (x7 := .int .i64 u6) (x8 := .int .i64 u7) hj1.out hX (fun x hx => by cases hx)).push #[.int .i64 n, .int .i64 u0, .int .i64 u1, .int .i64 u2, .int .i64 u3, .int .i64 u4, .int .i64 u5, .int .i64 u6, .int .i64 u7] 37))
              obtain ⟨hk, hlt, hn8⟩ := HH.out
              go_roundw
              case rel => exact ⟨k + 1, rfl, by omega, Lib.hid (by rw [show i + (k + 1) = i + k + 1 by omega, HU.out]; exact hj8.out.less fun x hx => by rw [List.mem_singleton.1 hx]; exact List.mem_cons_of_mem _ List.mem_cons_self)⟩
              case measure => simp [intOf]; omega
            · have hz : i + k - n < z1.length := by rw [HL1.out]; omega
              obtain ⟨b1, p1, rfl, hb1, hcell1⟩ := HS1.out.at_ (nums_at .u16 z1 (i + k - n) hz)
              have hv := bounds_u16 (HW1.out (z1[i + k - n]?.getD 0) (by simp [hz]))
              rw [← hy] at hcell1 hv
              obtain ⟨q, hq⟩ : ∃ q, i + k - n = q := ⟨_, rfl⟩
              rw [hq] at hcell1
              have hrq : r = (q : Int) := by omega
              subst hrq
              have HC1 := Lib.hid hcell1
              have HB1 := Lib.hid hb1
              clear hcell1 hb1 hz hy
              have d0 : IntKind.i64.wrap y = y := IntWalk.i64_in _ (by omega)
              have d1 : (y == y) = true := by simp
              have d2 : decide ((q : Int) < 0) = false := by simp
              have d3 : decide (n ≤ k) = false := by simp; omega
              have d4 : decide (k < n) = true := by simp; omega
              have d5 : (0 : Int) ≤ (q : Int) := by omega
              have d6 : (q : Int) < i := by omega
              clear hv hq g1 g2
              have HH := Lib.hid (And.intro hk (And.intro hlt hn8))
              clear hk hlt hn8 hp hr
              go_wp2_with (go_at_call 16; (with_reducible refine (hT.out _).mono ?_); clear hT c0 c1 c2 c3 c4 c5 c6 c7 c8; rintro e5 w5 ⟨rfl, h5⟩; obtain ⟨r0, r1, r2, r3, r4, r5, r6, r7, r8⟩ := ((hjl.out.next h5).bx 0 rfl).c9; obtain ⟨s0, s1, s2, s3, s4, s5, s6, s7, s8⟩ := ((hjl.out.next h5).bx 0 rfl).f9; have hlt5 : w2.heap.size < w5.heap.size := Nat.lt_of_lt_of_le hlt1 h5.size; have hj1 := Lib.hid (hjl.out.next h5); clear h5; have hj8 := Lib.hid ((jfill9x (x0 := .int .i64 n) (x1 := .int .i64 u0) (x2 := .int .i64 u1) (x3 := .int .i64 u2) (x4 := .int .i64 u3) (x5 := .int .i64 u4) (x6 := .int .i64 u5) (x7 := .int .i64 u6) (x8 := .int .i64 u7) hj1.out hX (fun x hx => by cases hx)).push #[.int .i64 n, .int .i64 u0, .int .i64 u1, .int .i64 u2, .int .i64 u3, .int .i64 u4, .int .i64 u5, .int .i64 u6, .int .i64 u7] 37); have m1 := (hj8.out.below.cell (p := ⟨b1, p1 + q, none⟩) HB1.out).trans HC1.out; have m0 := (hj1.out.below.cell (p := ⟨b1, p1 + q, none⟩) HB1.out).trans HC1.out; have hlt6 : b1 < w2.heap.size := Nat.lt_of_lt_of_le HB1.out hX; have hlt7 : b1 ≠ w2.heap.size := Nat.ne_of_lt hlt6)
              obtain ⟨hk, hlt, hn8⟩ := HH.out
              go_roundw
              case rel => exact ⟨k + 1, rfl, by omega, Lib.hid (by rw [show i + (k + 1) = i + k + 1 by omega, HU.out]; exact hj8.out.less fun x hx => by rw [List.mem_singleton.1 hx]; exact List.mem_cons_of_mem _ List.mem_cons_self)⟩
              case measure => simp [intOf]; omega
            · have d2 : decide (r < 0) = true := by simp; omega
              have d5 : decide (0 ≤ r) = false := by simp; omega
              have d3 : decide (n ≤ k) = false := by simp; omega
              have d4 : decide (k < n) = true := by simp; omega
              clear g1 g2
              have HH := Lib.hid (And.intro hk (And.intro hlt hn8))
              clear hk hlt hn8 hp hr
              go_wp2_with (go_at_call 16; (with_reducible refine (hT.out _).mono ?_); clear hT c0 c1 c2 c3 c4 c5 c6 c7 c8; rintro e5 w5 ⟨rfl, h5⟩; obtain ⟨r0, r1, r2, r3, r4, r5, r6, r7, r8⟩ := ((hjl.out.next h5).bx 0 rfl).c9; obtain ⟨s0, s1, s2, s3, s4, s5, s6, s7, s8⟩ := ((hjl.out.next h5).bx 0 rfl).f9; have hlt5 : w2.heap.size < w5.heap.size := Nat.lt_of_lt_of_le hlt1 h5.size; have hj1 := Lib.hid (hjl.out.next h5); clear h5; have hj8 := Lib.hid ((jfill9x (x0 := .int .i64 n) (x1 := .int .i64 u0) (x2 := .int .i64 u1) (x3 := .int .i64 u2) (x4 := .int .i64 u3) (x5 := .int .i64 u4) (x6 := .int .i64 u5) (x7 := .int .i64 u6) (x8 := .int .i64 u7) hj1.out hX (fun x hx => by cases hx)).push #[.int .i64 n, .int .i64 u0, .int .i64 u1, .int .i64 u2, .int .i64 u3, .int .i64 u4, .int .i64 u5, .int .i64 u6, .int .i64 u7] 37))
              obtain ⟨hk, hlt, hn8⟩ := HH.out
              go_roundw
              case rel => exact ⟨k + 1, rfl, by omega, Lib.hid (by rw [show i + (k + 1) = i + k + 1 by omega, HU.out]; exact hj8.out.less fun x hx => by rw [List.mem_singleton.1 hx]; exact List.mem_cons_of_mem _ List.mem_cons_self)⟩
              case measure => simp [intOf]; omega
          · obtain rfl : k = 20 := by omega
            go_wp2
            go_ret
            exact ⟨rfl, hj.out.below⟩

end Go.Proofs.Ytfcdfkodafikdaa.Walk
