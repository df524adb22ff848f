/- The walk of TurnReady. -/
import Derived.Test.YtalkngnejnkemaaTrnE
import Derived.Test.YtalkngnejnkemaaTrnO
import Derived.OpenShut
import Derived.LoopN
namespace Go.Proofs.Ytalkngnejnkemaa.Walk
open Go.RowKit Go.ChangeShapes Go.Proofs.Ytalkngnejnkemaa.Plain Go.Proofs.Ytalkngnejnkemaa.OrdP Go.Proofs.Ytalkngnejnkemaa.Ord Go.Proofs.Ytalkngnejnkemaa.TrnP Go.Proofs.Ytalkngnejnkemaa.Box Go.Proofs.Ytalkngnejnkemaa.Held Go.Proofs.Ytalkngnejnkemaa.Sees Go.Proofs.Ytalkngnejnkemaa.Open
set_option linter.unusedVariables false

theorem jpush2 {w W : World} {bs : List (Nat × Array Value)} (h : J w W bs) (cs cs' : Array Value) (t t' : TypeId) : J w ((W.alloc (.cells cs t)).alloc (.cells cs' t')) ((W.heap.size + 1, cs') :: (W.heap.size, cs) :: bs) := by
  have := (h.push cs t).push cs' t'
  rwa [World.size_alloc] at this
theorem jhead2 {w W : World} {X : Nat} {a b x y : Value} (h : J w W [(X, #[a, b])]) (hX : w.heap.size ≤ X) : J w ((W.setCell ⟨X, 0, none⟩ x).setCell ⟨X, 1, none⟩ y) [(X, #[x, y])] := by
  have := (h.set 0 x hX).set 1 y hX
  simpa using this
theorem jl3 {w W : World} {a b c : Nat × Array Value} (h : J w W [a, b, c]) : J w W [c] := h.less fun x hx => by
  rw [List.mem_singleton.1 hx]; simp
theorem jl4 {w W : World} {a b c d : Nat × Array Value} (h : J w W [a, b, c, d]) : J w W [d] := h.less fun x hx => by
  rw [List.mem_singleton.1 hx]; simp
theorem jset3 {w W : World} {A B X : Nat} {p q : Array Value} {a b x y : Value} (h : J w W [(B, p), (A, q), (X, #[a, b])]) (hX : w.heap.size ≤ X) (hn : B ≠ X ∧ A ≠ X) : J w ((W.setCell ⟨X, 0, none⟩ x).setCell ⟨X, 1, none⟩ y) [(B, p), (A, q), (X, #[x, y])] := by
  have := (h.set 0 x hX).set 1 y hX
  simpa [hn.1, hn.2] using this
theorem pk_yes {t : T} {k : Int} {r : Nat} {p : Int} (h : hb r k = true) (hp : 1 ≤ p) : pk t k r false p = ⟨k, p⟩ := by
  unfold pk
  rw [if_neg (by rw [h]; decide), bg_pos p (hb_ge h), show max 1 p = p by omega]
theorem pk_no {t : T} {k : Int} {r : Nat} {p : Int} (h : hb r k = false) : pk t k r false p = t := by
  unfold pk
  rw [if_pos (by rw [h]; rfl)]
theorem pk_busy {t : T} {k : Int} {r : Nat} {p : Int} : pk t k r true p = t := if_pos rfl
theorem st_busy {t : T} {r : Nat} {p : Int} (h : hb r t.c = true) : st t r true p = t := by
  unfold st
  rw [if_neg (by rw [h]; decide), if_pos rfl]

set_option maxRecDepth 100000 in
set_option maxHeartbeats 12800000 in
theorem turnReady_walk (w : World) (a0 : Option Addr) (len0 cap0 : Nat) (z0 : List Ac) (per : Int)
    (hl0 : z0.length = len0) (hc0 : len0 ≤ cap0) (hx0 : cap0 ≤ maxLen) (hs0 : Sees w w.heap.size a0 (acs z0)) (hw0 : ∀ p ∈ z0, p.wf) (u1 : (Lit.int .u8 per).wf = true) :
    Calls Try.prog 4 #[.slice a0 len0 cap0, .int .u8 per] w fun e w' => e = .returned (.bool true) ∧ Below w.heap.size w w' := by
  have bp := bounds_u8 u1
  unfold maxLen at hx0
  have HL0 := Lib.hid hl0
  have HS0 := Lib.hid hs0
  have HW0 := Lib.hid hw0
  clear u1 hl0 hs0 hw0
  have HA : Hid (∀ W, Calls Try.prog 7 #[] W (Says W (.bool true))) := Lib.hid fun W => Trn.awake_any W
  by_cases hbig : 200 < len0
  · have g1 : (200 : Int) < (len0 : Int) := by omega
    go_enter Try.func4, Try.ntmps4
    go_wp2_with (go_at_call 7; refine (HA.out _).mono ?_; rintro e w1 ⟨rfl, h1⟩)
    go_ret
    exact ⟨rfl, h1⟩
  have g1 : ¬ (200 : Int) < (len0 : Int) := by omega
  have HLN := Lib.hid (by omega : len0 ≤ 200)
  obtain ⟨n, hn⟩ : ∃ n, per % 20 = n := ⟨_, rfl⟩
  have t1 : per.tmod 20 = n := by rw [Int.tmod_eq_emod_of_nonneg (by omega)]; exact hn
  have t2 : IntKind.u8.wrap n = n := IntWalk.u8_in _ (by omega)
  have t3 : IntKind.i64.wrap n = n := IntWalk.i64_in _ (by omega)
  obtain ⟨p, hp⟩ : ∃ p, n + 1 = p := ⟨_, rfl⟩
  have t4 : IntKind.i64.wrap (n + 1) = p := by rw [hp]; exact IntWalk.i64_in _ (by omega)
  have HB := Lib.hid (⟨by omega, by omega⟩ : 1 ≤ p ∧ p ≤ 20)
  have HNo : Hid (∀ W, Calls Try.prog 12 #[] W (Says W (.agg #[.int .i64 (-1), .int .i64 0]))) := Lib.hid (fun W => Trn.None_any W)
  have hj := Lib.hid (J.start w)
  clear hn hp bp hbig
  go_enter Try.func4, Try.ntmps4
  go_wp2_with (first
    | (go_at_call 7; refine (HA.out _).mono ?_; rintro e w1 ⟨rfl, h1⟩; have hj1 := Lib.hid (hj.out.next h1); clear h1 hj)
    | (go_at_call 12; refine (HNo.out _).mono ?_; rintro e w2 ⟨rfl, h2⟩; have HX := Lib.hid (hj1.out.next h2).below.size; have hj2 := Lib.hid ((hj1.out.next h2).push #[.int .i64 (-1), .int .i64 0] 23); clear h2 hj1))
  go_loopw [8] (fun y wr => ∃ (i : Nat) (tc tl : Int), y = .int .i64 i ∧ i ≤ len0 ∧ Hid (0 ≤ tl ∧ tl ≤ p) ∧ Hid (J w wr [(w2.heap.size, #[.int .i64 tc, .int .i64 tl])])) (fun y _ => len0 - (intOf y).toNat)
  case atStart => exact ⟨0, -1, 0, rfl, Nat.zero_le _, Lib.hid ⟨by decide, by have := HB.out; omega⟩, hj2⟩
  case round =>
    clear hj2 t1 t2 t3 t4
    obtain ⟨i, tc, tl, rfl, hi, hq, hj⟩ := hrel
    by_cases hlt : i < len0
    · have hiz : i < z0.length := by rw [HL0.out]; exact hlt
      obtain ⟨b1, p1, rfl, hb1, k0, k1, k2, k3⟩ := ac_cells HS0.out i z0[i] (List.getElem?_eq_getElem hiz)
      have hwf := (HW0.out _ (List.getElem_mem hiz)).1
      generalize z0[i] = a at k0 k1 k2 k3 hwf
      obtain ⟨r', b, h, k⟩ := a
      simp only at k0 k1 k2 k3 hwf
      have br := bounds_u64 hwf
      obtain ⟨r, rfl⟩ : ∃ r : Nat, r' = r := ⟨r'.toNat, by omega⟩
      have HRR := Lib.hid (by omega : r < 18446744073709551616)
      have m0 := (hj.out.below.cell (p := ⟨b1, p1 + i * 4, none⟩) hb1).trans k0
      have m1 := (hj.out.below.cell (p := ⟨b1, p1 + i * 4 + 1, none⟩) hb1).trans k1
      have m2 := (hj.out.below.cell (p := ⟨b1, p1 + i * 4 + 2, none⟩) hb1).trans k2
      have m3 := (hj.out.below.cell (p := ⟨b1, p1 + i * 4 + 3, none⟩) hb1).trans k3
      have i1 : (i : Int) < (len0 : Int) := by omega
      have e3 : IntKind.i64.wrap ((i : Int) + 1) = ((i + 1 : Nat) : Int) := by rw [IntWalk.i64_in _ (by have := HLN.out; omega)]; rfl
      have HS : Hid (∀ W, Calls Try.prog 8 #[.agg #[.int .i64 tc, .int .i64 tl], .int .u64 r, .bool b, .int .i64 p] W (Says W (.agg #[.int .i64 (st ⟨tc, tl⟩ r b p).c, .int .i64 (st ⟨tc, tl⟩ r b p).l]))) := Lib.hid fun W => Trn.Step_any ⟨tc, tl⟩ r b p HRR.out (by have := hq.out; have := HB.out; simp only; omega) W
      have hl5 := st_left ⟨tc, tl⟩ r b p HB.out.1 hq.out.2 hq.out.1
      obtain ⟨⟨sc, sl⟩, hst⟩ : ∃ s, st ⟨tc, tl⟩ r b p = s := ⟨_, rfl⟩
      rw [hst] at HS hl5
      simp only at HS hl5
      have HL5 : Hid (0 ≤ sl ∧ sl ≤ p) := Lib.hid ⟨hl5.2, hl5.1⟩
      have dl : decide (p < sl) = false := by simp; omega
      have hA1 := Lib.hid (hj.out.push #[.int .u64 r, .bool b, .bool h, .int .i64 k] 26)
      have hA2 := Lib.hid (jpush2 hj.out #[.int .u64 r, .bool b, .bool h, .int .i64 k] #[.int .i64 tc, .int .i64 tl] 26 23)
      have hlT := (hj.out.bx 0 rfl).lt
      have HN : Hid (wr.heap.size + 1 ≠ w2.heap.size ∧ wr.heap.size ≠ w2.heap.size) := Lib.hid ⟨by omega, by omega⟩
      obtain ⟨c0, c1⟩ := (hA1.out.bx 1 rfl).c2
      obtain ⟨d0, d1⟩ := (hA2.out.bx 2 rfl).c2
      obtain ⟨a0, a1, a2, a3⟩ := (hA2.out.bx 1 rfl).c4
      clear k0 k1 k2 k3 hwf br hl5 hiz hj hA1 hlT hb1 hq
      by_cases hz : r = 0
      · have z1 : ((r : Int) == 0) = true := by subst hz; rfl
        have z2 : ((r : Int) != 0) = false := by subst hz; rfl
        have hno := (st_ready ⟨tc, tl⟩ r b p HRR.out).1 hz
        rw [hst] at hno
        injection hno with hno1 hno2
        subst hno1 hno2
        have K1 : Hid (hb r tc = false) := Lib.hid (by subst hz; exact hb_zero _)
        have K2 : Hid (hb r k = false) := Lib.hid (by subst hz; exact hb_zero _)
        have H1 : Hid (∀ W, Calls Try.prog 13 #[.int .u64 r, .int .i64 tc] W fun e w' => e = .returned (.bool false) ∧ W = w') := Lib.hid fun W => by have := Has_any r tc W HRR.out; rwa [K1.out] at this
        have H2 : Hid (∀ W, Calls Try.prog 13 #[.int .u64 r, .int .i64 k] W fun e w' => e = .returned (.bool false) ∧ W = w') := Lib.hid fun W => by have := Has_any r k W HRR.out; rwa [K2.out] at this
        clear hz hst
        cases b <;> cases h
        · go_wp2_with (go_at_call 8; refine (HS.out _).mono ?_; rintro e4 w4 ⟨rfl, h4⟩; have hj4 := Lib.hid (hA2.out.next h4); clear h4 a0 a1 a2 a3 c0 c1 d0 d1; obtain ⟨c0, c1⟩ := (hj4.out.bx 2 rfl).c2; obtain ⟨f0, f1⟩ := (hj4.out.bx 2 rfl).f2)
          have hj5 := Lib.hid (jset3 (x := .int .i64 (-1)) (y := .int .i64 0) hj4.out HX.out HN.out)
          clear c0 c1 f0 f1 hj4 hA2
          obtain ⟨W5, hW5⟩ : ∃ W5, (w4.setCell ⟨w2.heap.size, 0, none⟩ (.int .i64 (-1))).setCell ⟨w2.heap.size, 1, none⟩ (.int .i64 0) = W5 := ⟨_, rfl⟩
          rw [hW5] at hj5 ⊢
          clear hW5
          have hj5' : Hid (JS w _ W5) := hj5
          clear hj5
          refine wp_region_all _ JS.closed hj5'.out (by kernel_rfl) (by kernel_rfl) ?_
          apply Exists.intro
          refine ⟨fun w6 h6 => ?_, fun W6 hJ6 hb6 => ?_⟩
          · haveI := Ext.some h6
            obtain ⟨q0, q1, q2, q3⟩ := ext4 h6 1 rfl
            obtain ⟨q4, q5⟩ := ext2 h6 2 rfl
            have k1 := Lib.hid (Ext.calls h6 JS.closed (fun W _ => HNo.out W))
            repeat go_big_quiet_step (first | (go_at_call 12; with_reducible exact k1.out _))
            exact wpQuiet_nil rfl
          · have hj6 : Hid (J w W6 _) := Lib.hid hJ6
            clear hJ6 hb6 hj5'
            obtain ⟨a0, a1, a2, a3⟩ := (hj6.out.bx 1 rfl).c4
            obtain ⟨c0, c1⟩ := (hj6.out.bx 2 rfl).c2
            obtain ⟨d0, d1⟩ := (hj6.out.bx 0 rfl).c2
            go_wp2
            go_roundw
            case rel => exact ⟨i + 1, (-1), 0, rfl, by omega, HL5, Lib.hid (jl3 hj6.out)⟩
            case measure => simp [intOf]; omega
        · have HP : Hid (∀ W, Calls Try.prog 10 #[.agg #[.int .i64 (-1), .int .i64 0], .int .i64 k, .int .u64 r, .bool false, .int .i64 p] W (Says W (.tuple #[.agg #[.int .i64 (-1), .int .i64 0], .bool false]))) := Lib.hid fun W => by
            have := Trn.Pick_any ⟨(-1), 0⟩ k r false p HRR.out W
            rw [pk_no K2.out, K2.out] at this
            exact this
          go_wp2_with (go_at_call 8; refine (HS.out _).mono ?_; rintro e4 w4 ⟨rfl, h4⟩; have hj4 := Lib.hid (hA2.out.next h4); clear h4 a0 a1 a2 a3 c0 c1 d0 d1; obtain ⟨c0, c1⟩ := (hj4.out.bx 2 rfl).c2; obtain ⟨f0, f1⟩ := (hj4.out.bx 2 rfl).f2)
          have hj5 := Lib.hid (jset3 (x := .int .i64 (-1)) (y := .int .i64 0) hj4.out HX.out HN.out)
          clear c0 c1 f0 f1 hj4 hA2
          obtain ⟨W5, hW5⟩ : ∃ W5, (w4.setCell ⟨w2.heap.size, 0, none⟩ (.int .i64 (-1))).setCell ⟨w2.heap.size, 1, none⟩ (.int .i64 0) = W5 := ⟨_, rfl⟩
          rw [hW5] at hj5 ⊢
          clear hW5
          have hj5' : Hid (JS w _ W5) := hj5
          clear hj5
          refine wp_region_all _ JS.closed hj5'.out (by kernel_rfl) (by kernel_rfl) ?_
          apply Exists.intro
          refine ⟨fun w6 h6 => ?_, fun W6 hJ6 hb6 => ?_⟩
          · haveI := Ext.some h6
            obtain ⟨q0, q1, q2, q3⟩ := ext4 h6 1 rfl
            obtain ⟨q4, q5⟩ := ext2 h6 2 rfl
            have k1 := Lib.hid (Ext.calls h6 JS.closed (fun W _ => HNo.out W))
            repeat go_big_quiet_step (first | (go_at_call 12; with_reducible exact k1.out _))
            exact wpQuiet_nil rfl
          · have hj6 : Hid (J w W6 _) := Lib.hid hJ6
            clear hJ6 hb6 hj5'
            obtain ⟨a0, a1, a2, a3⟩ := (hj6.out.bx 1 rfl).c4
            obtain ⟨c0, c1⟩ := (hj6.out.bx 2 rfl).c2
            obtain ⟨d0, d1⟩ := (hj6.out.bx 0 rfl).c2
            go_wp2_with (first | (go_at_call 10; refine (HP.out _).mono ?_; rintro e7 w7 ⟨rfl, h7⟩; have hj7 := Lib.hid ((hj6.out.next h7).push #[.int .i64 (-1), .int .i64 0] 23); clear h7 hj6 a0 a1 a2 a3 c0 c1 d0 d1; obtain ⟨a0, a1, a2, a3⟩ := (hj7.out.bx 2 rfl).c4; obtain ⟨c0, c1⟩ := (hj7.out.bx 3 rfl).c2; obtain ⟨f0, f1⟩ := (hj7.out.bx 3 rfl).f2; obtain ⟨d0, d1⟩ := (hj7.out.bx 0 rfl).c2) | (go_at_call 13; ((with_reducible refine (H2.out _).mono ?_); rintro e w' ⟨rfl, rfl⟩)))
            have hj8 := Lib.hid (jhead2 (x := .int .i64 (-1)) (y := .int .i64 0) (jl4 hj7.out) HX.out)
            go_roundw
            case rel => exact ⟨i + 1, (-1), 0, rfl, by omega, HL5, hj8⟩
            case measure => simp [intOf]; omega
        · go_wp2_with (go_at_call 8; refine (HS.out _).mono ?_; rintro e4 w4 ⟨rfl, h4⟩; have hj4 := Lib.hid (hA2.out.next h4); clear h4 a0 a1 a2 a3 c0 c1 d0 d1; obtain ⟨c0, c1⟩ := (hj4.out.bx 2 rfl).c2; obtain ⟨f0, f1⟩ := (hj4.out.bx 2 rfl).f2)
          have hj5 := Lib.hid (jset3 (x := .int .i64 (-1)) (y := .int .i64 0) hj4.out HX.out HN.out)
          clear c0 c1 f0 f1 hj4 hA2
          obtain ⟨W5, hW5⟩ : ∃ W5, (w4.setCell ⟨w2.heap.size, 0, none⟩ (.int .i64 (-1))).setCell ⟨w2.heap.size, 1, none⟩ (.int .i64 0) = W5 := ⟨_, rfl⟩
          rw [hW5] at hj5 ⊢
          clear hW5
          have hj5' : Hid (JS w _ W5) := hj5
          clear hj5
          refine wp_region_all _ JS.closed hj5'.out (by kernel_rfl) (by kernel_rfl) ?_
          apply Exists.intro
          refine ⟨fun w6 h6 => ?_, fun W6 hJ6 hb6 => ?_⟩
          · haveI := Ext.some h6
            obtain ⟨q0, q1, q2, q3⟩ := ext4 h6 1 rfl
            obtain ⟨q4, q5⟩ := ext2 h6 2 rfl
            have k1 := Lib.hid (Ext.calls h6 JS.closed (fun W _ => HNo.out W))
            repeat go_big_quiet_step (first | (go_at_call 12; with_reducible exact k1.out _))
            exact wpQuiet_nil rfl
          · have hj6 : Hid (J w W6 _) := Lib.hid hJ6
            clear hJ6 hb6 hj5'
            obtain ⟨a0, a1, a2, a3⟩ := (hj6.out.bx 1 rfl).c4
            obtain ⟨c0, c1⟩ := (hj6.out.bx 2 rfl).c2
            obtain ⟨d0, d1⟩ := (hj6.out.bx 0 rfl).c2
            go_wp2_with (first | (go_at_call 13; ((with_reducible refine (H1.out _).mono ?_); rintro e w' ⟨rfl, rfl⟩)))
            go_roundw
            case rel => exact ⟨i + 1, (-1), 0, rfl, by omega, HL5, Lib.hid (jl3 hj6.out)⟩
            case measure => simp [intOf]; omega
        · have HP : Hid (∀ W, Calls Try.prog 10 #[.agg #[.int .i64 (-1), .int .i64 0], .int .i64 k, .int .u64 r, .bool true, .int .i64 p] W (Says W (.tuple #[.agg #[.int .i64 (-1), .int .i64 0], .bool false]))) := Lib.hid fun W => by
            have := Trn.Pick_any ⟨(-1), 0⟩ k r true p HRR.out W
            rw [pk_busy] at this
            exact this
          go_wp2_with (go_at_call 8; refine (HS.out _).mono ?_; rintro e4 w4 ⟨rfl, h4⟩; have hj4 := Lib.hid (hA2.out.next h4); clear h4 a0 a1 a2 a3 c0 c1 d0 d1; obtain ⟨c0, c1⟩ := (hj4.out.bx 2 rfl).c2; obtain ⟨f0, f1⟩ := (hj4.out.bx 2 rfl).f2)
          have hj5 := Lib.hid (jset3 (x := .int .i64 (-1)) (y := .int .i64 0) hj4.out HX.out HN.out)
          clear c0 c1 f0 f1 hj4 hA2
          obtain ⟨W5, hW5⟩ : ∃ W5, (w4.setCell ⟨w2.heap.size, 0, none⟩ (.int .i64 (-1))).setCell ⟨w2.heap.size, 1, none⟩ (.int .i64 0) = W5 := ⟨_, rfl⟩
          rw [hW5] at hj5 ⊢
          clear hW5
          have hj5' : Hid (JS w _ W5) := hj5
          clear hj5
          refine wp_region_all _ JS.closed hj5'.out (by kernel_rfl) (by kernel_rfl) ?_
          apply Exists.intro
          refine ⟨fun w6 h6 => ?_, fun W6 hJ6 hb6 => ?_⟩
          · haveI := Ext.some h6
            obtain ⟨q0, q1, q2, q3⟩ := ext4 h6 1 rfl
            obtain ⟨q4, q5⟩ := ext2 h6 2 rfl
            have k1 := Lib.hid (Ext.calls h6 JS.closed (fun W _ => HNo.out W))
            repeat go_big_quiet_step (first | (go_at_call 12; with_reducible exact k1.out _))
            exact wpQuiet_nil rfl
          · have hj6 : Hid (J w W6 _) := Lib.hid hJ6
            clear hJ6 hb6 hj5'
            obtain ⟨a0, a1, a2, a3⟩ := (hj6.out.bx 1 rfl).c4
            obtain ⟨c0, c1⟩ := (hj6.out.bx 2 rfl).c2
            obtain ⟨d0, d1⟩ := (hj6.out.bx 0 rfl).c2
            go_wp2_with (first | (go_at_call 13; ((with_reducible refine (H1.out _).mono ?_); rintro e w' ⟨rfl, rfl⟩)) | (go_at_call 10; refine (HP.out _).mono ?_; rintro e7 w7 ⟨rfl, h7⟩; have hj7 := Lib.hid ((hj6.out.next h7).push #[.int .i64 (-1), .int .i64 0] 23); clear h7 hj6 a0 a1 a2 a3 c0 c1 d0 d1; obtain ⟨a0, a1, a2, a3⟩ := (hj7.out.bx 2 rfl).c4; obtain ⟨c0, c1⟩ := (hj7.out.bx 3 rfl).c2; obtain ⟨f0, f1⟩ := (hj7.out.bx 3 rfl).f2; obtain ⟨d0, d1⟩ := (hj7.out.bx 0 rfl).c2))
            have hj8 := Lib.hid (jhead2 (x := .int .i64 (-1)) (y := .int .i64 0) (jl4 hj7.out) HX.out)
            go_roundw
            case rel => exact ⟨i + 1, (-1), 0, rfl, by omega, HL5, hj8⟩
            case measure => simp [intOf]; omega
      · have z1 : ((r : Int) == 0) = false := by simp; omega
        have z2 : ((r : Int) != 0) = true := by simp; omega
        have hsome := (st_ready ⟨tc, tl⟩ r b p HRR.out).2 hz
        rw [hst] at hsome
        have HG : Hid (∀ W, Calls Try.prog 13 #[.int .u64 r, .int .i64 sc] W fun e w' => e = .returned (.bool true) ∧ W = w') := Lib.hid fun W => by have := Has_any r sc W HRR.out; rwa [hsome] at this
        have H1 : Hid (∀ W, Calls Try.prog 13 #[.int .u64 r, .int .i64 tc] W fun e w' => e = .returned (.bool (hb r tc)) ∧ W = w') := Lib.hid fun W => Has_any r tc W HRR.out
        have H2 : Hid (∀ W, Calls Try.prog 13 #[.int .u64 r, .int .i64 k] W fun e w' => e = .returned (.bool (hb r k)) ∧ W = w') := Lib.hid fun W => Has_any r k W HRR.out
        have hsm : b = true → hb r tc = true → sc = tc ∧ sl = tl := fun hb1 ht => by
          subst hb1
          rw [st_busy ht] at hst
          injection hst with h1 h2
          exact ⟨h1.symm, h2.symm⟩
        clear hz hst hsome
        obtain ⟨g1, hg1⟩ : ∃ g1, hb r tc = g1 := ⟨_, rfl⟩
        obtain ⟨g2, hg2⟩ : ∃ g2, hb r k = g2 := ⟨_, rfl⟩
        rw [hg1] at H1 hsm
        rw [hg2] at H2
        have K2 := Lib.hid hg2
        clear hg1 hg2
        cases b
        · clear hsm
          cases h
          · go_wp2_with (go_at_call 8; refine (HS.out _).mono ?_; rintro e4 w4 ⟨rfl, h4⟩; have hj4 := Lib.hid (hA2.out.next h4); clear h4 a0 a1 a2 a3 c0 c1 d0 d1; obtain ⟨c0, c1⟩ := (hj4.out.bx 2 rfl).c2; obtain ⟨f0, f1⟩ := (hj4.out.bx 2 rfl).f2)
            have hj5 := Lib.hid (jset3 (x := .int .i64 sc) (y := .int .i64 sl) hj4.out HX.out HN.out)
            clear c0 c1 f0 f1 hj4 hA2
            obtain ⟨W5, hW5⟩ : ∃ W5, (w4.setCell ⟨w2.heap.size, 0, none⟩ (.int .i64 sc)).setCell ⟨w2.heap.size, 1, none⟩ (.int .i64 sl) = W5 := ⟨_, rfl⟩
            rw [hW5] at hj5 ⊢
            clear hW5
            have hj5' : Hid (JS w _ W5) := hj5
            clear hj5
            refine wp_region_all _ JS.closed hj5'.out (by kernel_rfl) (by kernel_rfl) ?_
            apply Exists.intro
            refine ⟨fun w6 h6 => ?_, fun W6 hJ6 hb6 => ?_⟩
            · haveI := Ext.some h6
              obtain ⟨q0, q1, q2, q3⟩ := ext4 h6 1 rfl
              obtain ⟨q4, q5⟩ := ext2 h6 2 rfl
              have k1 := Lib.hid (Ext.calls h6 JS.closed (fun W _ => HNo.out W))
              have k2 := Lib.hid (Ext.calls h6 JS.closed (fun W _ => says_of_same (HG.out W)))
              repeat go_big_quiet_step (first | (go_at_call 12; with_reducible exact k1.out _) | (go_at_call 13; with_reducible exact k2.out _))
              exact wpQuiet_nil rfl
            · have hj6 : Hid (J w W6 _) := Lib.hid hJ6
              clear hJ6 hb6 hj5'
              obtain ⟨a0, a1, a2, a3⟩ := (hj6.out.bx 1 rfl).c4
              obtain ⟨c0, c1⟩ := (hj6.out.bx 2 rfl).c2
              obtain ⟨d0, d1⟩ := (hj6.out.bx 0 rfl).c2
              go_wp2
              go_roundw
              case rel => exact ⟨i + 1, sc, sl, rfl, by omega, HL5, Lib.hid (jl3 hj6.out)⟩
              case measure => simp [intOf]; omega
          · cases g2
            · have HP : Hid (∀ W, Calls Try.prog 10 #[.agg #[.int .i64 sc, .int .i64 sl], .int .i64 k, .int .u64 r, .bool false, .int .i64 p] W (Says W (.tuple #[.agg #[.int .i64 sc, .int .i64 sl], .bool false]))) := Lib.hid fun W => by
                have := Trn.Pick_any ⟨sc, sl⟩ k r false p HRR.out W
                rw [pk_no K2.out, K2.out] at this
                exact this
              go_wp2_with (go_at_call 8; refine (HS.out _).mono ?_; rintro e4 w4 ⟨rfl, h4⟩; have hj4 := Lib.hid (hA2.out.next h4); clear h4 a0 a1 a2 a3 c0 c1 d0 d1; obtain ⟨c0, c1⟩ := (hj4.out.bx 2 rfl).c2; obtain ⟨f0, f1⟩ := (hj4.out.bx 2 rfl).f2)
              have hj5 := Lib.hid (jset3 (x := .int .i64 sc) (y := .int .i64 sl) hj4.out HX.out HN.out)
              clear c0 c1 f0 f1 hj4 hA2
              obtain ⟨W5, hW5⟩ : ∃ W5, (w4.setCell ⟨w2.heap.size, 0, none⟩ (.int .i64 sc)).setCell ⟨w2.heap.size, 1, none⟩ (.int .i64 sl) = W5 := ⟨_, rfl⟩
              rw [hW5] at hj5 ⊢
              clear hW5
              have hj5' : Hid (JS w _ W5) := hj5
              clear hj5
              refine wp_region_all _ JS.closed hj5'.out (by kernel_rfl) (by kernel_rfl) ?_
              apply Exists.intro
              refine ⟨fun w6 h6 => ?_, fun W6 hJ6 hb6 => ?_⟩
              · haveI := Ext.some h6
                obtain ⟨q0, q1, q2, q3⟩ := ext4 h6 1 rfl
                obtain ⟨q4, q5⟩ := ext2 h6 2 rfl
                have k1 := Lib.hid (Ext.calls h6 JS.closed (fun W _ => HNo.out W))
                have k2 := Lib.hid (Ext.calls h6 JS.closed (fun W _ => says_of_same (HG.out W)))
                repeat go_big_quiet_step (first | (go_at_call 12; with_reducible exact k1.out _) | (go_at_call 13; with_reducible exact k2.out _))
                exact wpQuiet_nil rfl
              · have hj6 : Hid (J w W6 _) := Lib.hid hJ6
                clear hJ6 hb6 hj5'
                obtain ⟨a0, a1, a2, a3⟩ := (hj6.out.bx 1 rfl).c4
                obtain ⟨c0, c1⟩ := (hj6.out.bx 2 rfl).c2
                obtain ⟨d0, d1⟩ := (hj6.out.bx 0 rfl).c2
                go_wp2_with (first | (go_at_call 10; refine (HP.out _).mono ?_; rintro e7 w7 ⟨rfl, h7⟩; have hj7 := Lib.hid ((hj6.out.next h7).push #[.int .i64 sc, .int .i64 sl] 23); clear h7 hj6 a0 a1 a2 a3 c0 c1 d0 d1; obtain ⟨a0, a1, a2, a3⟩ := (hj7.out.bx 2 rfl).c4; obtain ⟨c0, c1⟩ := (hj7.out.bx 3 rfl).c2; obtain ⟨f0, f1⟩ := (hj7.out.bx 3 rfl).f2; obtain ⟨d0, d1⟩ := (hj7.out.bx 0 rfl).c2) | (go_at_call 13; ((with_reducible refine (H2.out _).mono ?_); rintro e w' ⟨rfl, rfl⟩)))
                have hj8 := Lib.hid (jhead2 (x := .int .i64 sc) (y := .int .i64 sl) (jl4 hj7.out) HX.out)
                go_roundw
                case rel => exact ⟨i + 1, sc, sl, rfl, by omega, HL5, hj8⟩
                case measure => simp [intOf]; omega
            · have HP : Hid (∀ W, Calls Try.prog 10 #[.agg #[.int .i64 sc, .int .i64 sl], .int .i64 k, .int .u64 r, .bool false, .int .i64 p] W (Says W (.tuple #[.agg #[.int .i64 k, .int .i64 p], .bool true]))) := Lib.hid fun W => by
                have := Trn.Pick_any ⟨sc, sl⟩ k r false p HRR.out W
                rw [pk_yes K2.out HB.out.1, K2.out] at this
                exact this
              go_wp2_with (go_at_call 8; refine (HS.out _).mono ?_; rintro e4 w4 ⟨rfl, h4⟩; have hj4 := Lib.hid (hA2.out.next h4); clear h4 a0 a1 a2 a3 c0 c1 d0 d1; obtain ⟨c0, c1⟩ := (hj4.out.bx 2 rfl).c2; obtain ⟨f0, f1⟩ := (hj4.out.bx 2 rfl).f2)
              have hj5 := Lib.hid (jset3 (x := .int .i64 sc) (y := .int .i64 sl) hj4.out HX.out HN.out)
              clear c0 c1 f0 f1 hj4 hA2
              obtain ⟨W5, hW5⟩ : ∃ W5, (w4.setCell ⟨w2.heap.size, 0, none⟩ (.int .i64 sc)).setCell ⟨w2.heap.size, 1, none⟩ (.int .i64 sl) = W5 := ⟨_, rfl⟩
              rw [hW5] at hj5 ⊢
              clear hW5
              have hj5' : Hid (JS w _ W5) := hj5
              clear hj5
              refine wp_region_all _ JS.closed hj5'.out (by kernel_rfl) (by kernel_rfl) ?_
              apply Exists.intro
              refine ⟨fun w6 h6 => ?_, fun W6 hJ6 hb6 => ?_⟩
              · haveI := Ext.some h6
                obtain ⟨q0, q1, q2, q3⟩ := ext4 h6 1 rfl
                obtain ⟨q4, q5⟩ := ext2 h6 2 rfl
                have k1 := Lib.hid (Ext.calls h6 JS.closed (fun W _ => HNo.out W))
                have k2 := Lib.hid (Ext.calls h6 JS.closed (fun W _ => says_of_same (HG.out W)))
                repeat go_big_quiet_step (first | (go_at_call 12; with_reducible exact k1.out _) | (go_at_call 13; with_reducible exact k2.out _))
                exact wpQuiet_nil rfl
              · have hj6 : Hid (J w W6 _) := Lib.hid hJ6
                clear hJ6 hb6 hj5'
                obtain ⟨a0, a1, a2, a3⟩ := (hj6.out.bx 1 rfl).c4
                obtain ⟨c0, c1⟩ := (hj6.out.bx 2 rfl).c2
                obtain ⟨d0, d1⟩ := (hj6.out.bx 0 rfl).c2
                go_wp2_with (first | (go_at_call 10; refine (HP.out _).mono ?_; rintro e7 w7 ⟨rfl, h7⟩; have hj7 := Lib.hid ((hj6.out.next h7).push #[.int .i64 k, .int .i64 p] 23); clear h7 hj6 a0 a1 a2 a3 c0 c1 d0 d1; obtain ⟨a0, a1, a2, a3⟩ := (hj7.out.bx 2 rfl).c4; obtain ⟨c0, c1⟩ := (hj7.out.bx 3 rfl).c2; obtain ⟨f0, f1⟩ := (hj7.out.bx 3 rfl).f2; obtain ⟨d0, d1⟩ := (hj7.out.bx 0 rfl).c2) | (go_at_call 13; ((with_reducible refine (H2.out _).mono ?_); rintro e w' ⟨rfl, rfl⟩)))
                have hj8 := Lib.hid (jhead2 (x := .int .i64 k) (y := .int .i64 p) (jl4 hj7.out) HX.out)
                go_roundw
                case rel => exact ⟨i + 1, k, p, rfl, by omega, Lib.hid ⟨by have := HB.out; omega, Int.le_refl _⟩, hj8⟩
                case measure => simp [intOf]; omega
        · cases g1
          · clear hsm
            cases h
            · go_wp2_with (go_at_call 8; refine (HS.out _).mono ?_; rintro e4 w4 ⟨rfl, h4⟩; have hj4 := Lib.hid (hA2.out.next h4); clear h4 a0 a1 a2 a3 c0 c1 d0 d1; obtain ⟨c0, c1⟩ := (hj4.out.bx 2 rfl).c2; obtain ⟨f0, f1⟩ := (hj4.out.bx 2 rfl).f2)
              have hj5 := Lib.hid (jset3 (x := .int .i64 sc) (y := .int .i64 sl) hj4.out HX.out HN.out)
              clear c0 c1 f0 f1 hj4 hA2
              obtain ⟨W5, hW5⟩ : ∃ W5, (w4.setCell ⟨w2.heap.size, 0, none⟩ (.int .i64 sc)).setCell ⟨w2.heap.size, 1, none⟩ (.int .i64 sl) = W5 := ⟨_, rfl⟩
              rw [hW5] at hj5 ⊢
              clear hW5
              have hj5' : Hid (JS w _ W5) := hj5
              clear hj5
              refine wp_region_all _ JS.closed hj5'.out (by kernel_rfl) (by kernel_rfl) ?_
              apply Exists.intro
              refine ⟨fun w6 h6 => ?_, fun W6 hJ6 hb6 => ?_⟩
              · haveI := Ext.some h6
                obtain ⟨q0, q1, q2, q3⟩ := ext4 h6 1 rfl
                obtain ⟨q4, q5⟩ := ext2 h6 2 rfl
                have k1 := Lib.hid (Ext.calls h6 JS.closed (fun W _ => HNo.out W))
                have k2 := Lib.hid (Ext.calls h6 JS.closed (fun W _ => says_of_same (HG.out W)))
                repeat go_big_quiet_step (first | (go_at_call 12; with_reducible exact k1.out _) | (go_at_call 13; with_reducible exact k2.out _))
                exact wpQuiet_nil rfl
              · have hj6 : Hid (J w W6 _) := Lib.hid hJ6
                clear hJ6 hb6 hj5'
                obtain ⟨a0, a1, a2, a3⟩ := (hj6.out.bx 1 rfl).c4
                obtain ⟨c0, c1⟩ := (hj6.out.bx 2 rfl).c2
                obtain ⟨d0, d1⟩ := (hj6.out.bx 0 rfl).c2
                go_wp2_with (first | (go_at_call 13; ((with_reducible refine (H1.out _).mono ?_); rintro e w' ⟨rfl, rfl⟩)))
                go_roundw
                case rel => exact ⟨i + 1, sc, sl, rfl, by omega, HL5, Lib.hid (jl3 hj6.out)⟩
                case measure => simp [intOf]; omega
            · have HP : Hid (∀ W, Calls Try.prog 10 #[.agg #[.int .i64 sc, .int .i64 sl], .int .i64 k, .int .u64 r, .bool true, .int .i64 p] W (Says W (.tuple #[.agg #[.int .i64 sc, .int .i64 sl], .bool false]))) := Lib.hid fun W => by
                have := Trn.Pick_any ⟨sc, sl⟩ k r true p HRR.out W
                rw [pk_busy] at this
                exact this
              go_wp2_with (go_at_call 8; refine (HS.out _).mono ?_; rintro e4 w4 ⟨rfl, h4⟩; have hj4 := Lib.hid (hA2.out.next h4); clear h4 a0 a1 a2 a3 c0 c1 d0 d1; obtain ⟨c0, c1⟩ := (hj4.out.bx 2 rfl).c2; obtain ⟨f0, f1⟩ := (hj4.out.bx 2 rfl).f2)
              have hj5 := Lib.hid (jset3 (x := .int .i64 sc) (y := .int .i64 sl) hj4.out HX.out HN.out)
              clear c0 c1 f0 f1 hj4 hA2
              obtain ⟨W5, hW5⟩ : ∃ W5, (w4.setCell ⟨w2.heap.size, 0, none⟩ (.int .i64 sc)).setCell ⟨w2.heap.size, 1, none⟩ (.int .i64 sl) = W5 := ⟨_, rfl⟩
              rw [hW5] at hj5 ⊢
              clear hW5
              have hj5' : Hid (JS w _ W5) := hj5
              clear hj5
              refine wp_region_all _ JS.closed hj5'.out (by kernel_rfl) (by kernel_rfl) ?_
              apply Exists.intro
              refine ⟨fun w6 h6 => ?_, fun W6 hJ6 hb6 => ?_⟩
              · haveI := Ext.some h6
                obtain ⟨q0, q1, q2, q3⟩ := ext4 h6 1 rfl
                obtain ⟨q4, q5⟩ := ext2 h6 2 rfl
                have k1 := Lib.hid (Ext.calls h6 JS.closed (fun W _ => HNo.out W))
                have k2 := Lib.hid (Ext.calls h6 JS.closed (fun W _ => says_of_same (HG.out W)))
                repeat go_big_quiet_step (first | (go_at_call 12; with_reducible exact k1.out _) | (go_at_call 13; with_reducible exact k2.out _))
                exact wpQuiet_nil rfl
              · have hj6 : Hid (J w W6 _) := Lib.hid hJ6
                clear hJ6 hb6 hj5'
                obtain ⟨a0, a1, a2, a3⟩ := (hj6.out.bx 1 rfl).c4
                obtain ⟨c0, c1⟩ := (hj6.out.bx 2 rfl).c2
                obtain ⟨d0, d1⟩ := (hj6.out.bx 0 rfl).c2
                go_wp2_with (first | (go_at_call 13; ((with_reducible refine (H1.out _).mono ?_); rintro e w' ⟨rfl, rfl⟩)) | (go_at_call 10; refine (HP.out _).mono ?_; rintro e7 w7 ⟨rfl, h7⟩; have hj7 := Lib.hid ((hj6.out.next h7).push #[.int .i64 sc, .int .i64 sl] 23); clear h7 hj6 a0 a1 a2 a3 c0 c1 d0 d1; obtain ⟨a0, a1, a2, a3⟩ := (hj7.out.bx 2 rfl).c4; obtain ⟨c0, c1⟩ := (hj7.out.bx 3 rfl).c2; obtain ⟨f0, f1⟩ := (hj7.out.bx 3 rfl).f2; obtain ⟨d0, d1⟩ := (hj7.out.bx 0 rfl).c2))
                have hj8 := Lib.hid (jhead2 (x := .int .i64 sc) (y := .int .i64 sl) (jl4 hj7.out) HX.out)
                go_roundw
                case rel => exact ⟨i + 1, sc, sl, rfl, by omega, HL5, hj8⟩
                case measure => simp [intOf]; omega
          · have hsame := hsm rfl rfl
            clear hsm
            cases h
            · obtain rfl : sc = tc := hsame.1
              obtain rfl : sl = tl := hsame.2
              clear hsame
              go_wp2_with (go_at_call 8; refine (HS.out _).mono ?_; rintro e4 w4 ⟨rfl, h4⟩; have hj4 := Lib.hid (hA2.out.next h4); clear h4 a0 a1 a2 a3 c0 c1 d0 d1; obtain ⟨c0, c1⟩ := (hj4.out.bx 2 rfl).c2; obtain ⟨f0, f1⟩ := (hj4.out.bx 2 rfl).f2)
              have hj5 := Lib.hid (jset3 (x := .int .i64 sc) (y := .int .i64 sl) hj4.out HX.out HN.out)
              clear c0 c1 f0 f1 hj4 hA2
              obtain ⟨W5, hW5⟩ : ∃ W5, (w4.setCell ⟨w2.heap.size, 0, none⟩ (.int .i64 sc)).setCell ⟨w2.heap.size, 1, none⟩ (.int .i64 sl) = W5 := ⟨_, rfl⟩
              rw [hW5] at hj5 ⊢
              clear hW5
              have hj5' : Hid (JS w _ W5) := hj5
              clear hj5
              refine wp_region_all _ JS.closed hj5'.out (by kernel_rfl) (by kernel_rfl) ?_
              apply Exists.intro
              refine ⟨fun w6 h6 => ?_, fun W6 hJ6 hb6 => ?_⟩
              · haveI := Ext.some h6
                obtain ⟨q0, q1, q2, q3⟩ := ext4 h6 1 rfl
                obtain ⟨q4, q5⟩ := ext2 h6 2 rfl
                have k1 := Lib.hid (Ext.calls h6 JS.closed (fun W _ => HNo.out W))
                have k2 := Lib.hid (Ext.calls h6 JS.closed (fun W _ => says_of_same (HG.out W)))
                repeat go_big_quiet_step (first | (go_at_call 12; with_reducible exact k1.out _) | (go_at_call 13; with_reducible exact k2.out _))
                exact wpQuiet_nil rfl
              · have hj6 : Hid (J w W6 _) := Lib.hid hJ6
                clear hJ6 hb6 hj5'
                obtain ⟨a0, a1, a2, a3⟩ := (hj6.out.bx 1 rfl).c4
                obtain ⟨c0, c1⟩ := (hj6.out.bx 2 rfl).c2
                obtain ⟨d0, d1⟩ := (hj6.out.bx 0 rfl).c2
                go_wp2_with (first | (go_at_call 13; ((with_reducible refine (H1.out _).mono ?_); rintro e w' ⟨rfl, rfl⟩)))
                go_roundw
                case rel => exact ⟨i + 1, sc, sl, rfl, by omega, HL5, Lib.hid (jl3 hj6.out)⟩
                case measure => simp [intOf]; omega
            · obtain rfl : sc = tc := hsame.1
              obtain rfl : sl = tl := hsame.2
              clear hsame
              have HP : Hid (∀ W, Calls Try.prog 10 #[.agg #[.int .i64 sc, .int .i64 sl], .int .i64 k, .int .u64 r, .bool true, .int .i64 p] W (Says W (.tuple #[.agg #[.int .i64 sc, .int .i64 sl], .bool false]))) := Lib.hid fun W => by
                have := Trn.Pick_any ⟨sc, sl⟩ k r true p HRR.out W
                rw [pk_busy] at this
                exact this
              go_wp2_with (go_at_call 8; refine (HS.out _).mono ?_; rintro e4 w4 ⟨rfl, h4⟩; have hj4 := Lib.hid (hA2.out.next h4); clear h4 a0 a1 a2 a3 c0 c1 d0 d1; obtain ⟨c0, c1⟩ := (hj4.out.bx 2 rfl).c2; obtain ⟨f0, f1⟩ := (hj4.out.bx 2 rfl).f2)
              have hj5 := Lib.hid (jset3 (x := .int .i64 sc) (y := .int .i64 sl) hj4.out HX.out HN.out)
              clear c0 c1 f0 f1 hj4 hA2
              obtain ⟨W5, hW5⟩ : ∃ W5, (w4.setCell ⟨w2.heap.size, 0, none⟩ (.int .i64 sc)).setCell ⟨w2.heap.size, 1, none⟩ (.int .i64 sl) = W5 := ⟨_, rfl⟩
              rw [hW5] at hj5 ⊢
              clear hW5
              have hj5' : Hid (JS w _ W5) := hj5
              clear hj5
              refine wp_region_all _ JS.closed hj5'.out (by kernel_rfl) (by kernel_rfl) ?_
              apply Exists.intro
              refine ⟨fun w6 h6 => ?_, fun W6 hJ6 hb6 => ?_⟩
              · haveI := Ext.some h6
                obtain ⟨q0, q1, q2, q3⟩ := ext4 h6 1 rfl
                obtain ⟨q4, q5⟩ := ext2 h6 2 rfl
                have k1 := Lib.hid (Ext.calls h6 JS.closed (fun W _ => HNo.out W))
                have k2 := Lib.hid (Ext.calls h6 JS.closed (fun W _ => says_of_same (HG.out W)))
                repeat go_big_quiet_step (first | (go_at_call 12; with_reducible exact k1.out _) | (go_at_call 13; with_reducible exact k2.out _))
                exact wpQuiet_nil rfl
              · have hj6 : Hid (J w W6 _) := Lib.hid hJ6
                clear hJ6 hb6 hj5'
                obtain ⟨a0, a1, a2, a3⟩ := (hj6.out.bx 1 rfl).c4
                obtain ⟨c0, c1⟩ := (hj6.out.bx 2 rfl).c2
                obtain ⟨d0, d1⟩ := (hj6.out.bx 0 rfl).c2
                go_wp2_with (first | (go_at_call 13; ((with_reducible refine (H1.out _).mono ?_); rintro e w' ⟨rfl, rfl⟩)) | (go_at_call 10; refine (HP.out _).mono ?_; rintro e7 w7 ⟨rfl, h7⟩; have hj7 := Lib.hid ((hj6.out.next h7).push #[.int .i64 sc, .int .i64 sl] 23); clear h7 hj6 a0 a1 a2 a3 c0 c1 d0 d1; obtain ⟨a0, a1, a2, a3⟩ := (hj7.out.bx 2 rfl).c4; obtain ⟨c0, c1⟩ := (hj7.out.bx 3 rfl).c2; obtain ⟨f0, f1⟩ := (hj7.out.bx 3 rfl).f2; obtain ⟨d0, d1⟩ := (hj7.out.bx 0 rfl).c2))
                have hj8 := Lib.hid (jhead2 (x := .int .i64 sc) (y := .int .i64 sl) (jl4 hj7.out) HX.out)
                go_roundw
                case rel => exact ⟨i + 1, sc, sl, rfl, by omega, HL5, hj8⟩
                case measure => simp [intOf]; omega
    · obtain rfl : i = len0 := by omega
      go_wp2
      go_ret
      exact ⟨rfl, hj.out.below⟩
end Go.Proofs.Ytalkngnejnkemaa.Walk
