/- The walk of LockKeeps. -/
import Derived.Test.YtbcfjoleimkbeaaLokB
import Derived.Test.YtbcfjoleimkbeaaLokO
import Derived.OpenShut
import Derived.LoopN
namespace Go.Proofs.Ytbcfjoleimkbeaa.Walk
open Go.RowKit Go.ChangeShapes Go.Proofs.Ytbcfjoleimkbeaa.CarP Go.Proofs.Ytbcfjoleimkbeaa.LefP Go.Proofs.Ytbcfjoleimkbeaa.LokP Go.Proofs.Ytbcfjoleimkbeaa.Lok Go.Proofs.Ytbcfjoleimkbeaa.Box Go.Proofs.Ytbcfjoleimkbeaa.Held Go.Proofs.Ytbcfjoleimkbeaa.Sees Go.Proofs.Ytbcfjoleimkbeaa.Open
set_option linter.unusedVariables false

/-- two blocks one behind the other -/
theorem jpush2 {w W : World} {bs : List (Nat × Array Value)} (h : J w W bs) (cs cs' : Array Value) (t t' : TypeId) : J w ((W.alloc (.cells cs t)).alloc (.cells cs' t')) ((W.heap.size + 1, cs') :: (W.heap.size, cs) :: bs) := by
  have := (h.push cs t).push cs' t'
  rwa [World.size_alloc] at this
/-- the last two of five, the other way round -/
theorem jlast2 {w W : World} {a b d e f : Nat × Array Value} (h : J w W [a, b, d, e, f]) : J w W [f, e] := h.less fun x hx => by
  simp only [List.mem_cons, List.not_mem_nil, or_false] at hx ⊢
  rcases hx with h | h <;> simp [h]

/-- a car, and doors, on the way -/
structure On (c : K) (l : L) (d : Int) : Prop where
  hc : c.May
  hl : l.May
  hd : l.d = d
  hs : sf c l = true
theorem on_next {c : K} {l : L} {d : Int} (h : On c l d) (vel : Int) (b : Bool) (what f : Int) (bl : Bool) :
    On (tick c (dv l.o vel) (db l.o b) f) (st l (dw (lv c) (db l.o b) what) bl) d := by
  refine ⟨tick_may h.hc _ _ _, st_may h.hl _ _, h.hd, ?_⟩
  rcases safe_on h.hl h.hs vel b what f bl with k | ⟨_, _, k⟩
  · simp [sf, k]
  · simp [sf, k]

set_option maxRecDepth 100000 in
set_option maxHeartbeats 6400000 in
theorem lockKeeps_walk (w : World) (ps op wd fl : Int) (a1 : Option Addr) (len1 cap1 : Nat) (z1 : List Askd) (u0 : (Lit.int .u8 ps).wf = true) (u1 : (Lit.int .u8 op).wf = true) (u2 : (Lit.int .u8 wd).wf = true) (u3 : (Lit.int .i64 fl).wf = true)
    (hl1 : z1.length = len1) (hc1 : len1 ≤ cap1) (hx1 : cap1 ≤ maxLen) (hs1 : Sees w w.heap.size a1 (askds z1)) :
    Calls Try.prog 4 #[.int .u8 ps, .int .u8 op, .int .u8 wd, .int .i64 fl, .slice a1 len1 cap1] w fun e w' => e = .returned (.bool true) ∧ Below w.heap.size w w' := by
  have hps := bounds_u8 u0
  have hop := bounds_u8 u1
  have hwd := bounds_u8 u2
  unfold maxLen at hx1
  have HL1 := Lib.hid hl1
  have HS1 := Lib.hid hs1
  clear u0 u1 u2 u3 hl1 hs1
  have HA : Hid (∀ W, Calls Try.prog 7 #[] W (Says W (.bool true))) := Lib.hid fun W => awake_any W
  by_cases hbig : 300 < len1
  · go_enter Try.func4, Try.ntmps4
    go_wp2_with (go_at_call 7; refine (HA.out _).mono ?_; rintro e w1 ⟨rfl, h1⟩)
    go_ret
    exact ⟨rfl, h1⟩
  · have g1 : ¬ (300 : Int) < (len1 : Int) := by omega
    obtain ⟨n, hn⟩ : ∃ n, wd % 16 = n := ⟨_, rfl⟩
    have t1 : wd.tmod 16 = n := by rw [Int.tmod_eq_emod_of_nonneg (by omega)]; exact hn
    have t2 : IntKind.u8.wrap n = n := IntWalk.u8_in _ (by omega)
    have t3 : IntKind.i64.wrap n = n := IntWalk.i64_in _ (by omega)
    obtain ⟨d, hd⟩ : ∃ d, n + 1 = d := ⟨_, rfl⟩
    have t4 : IntKind.i64.wrap (n + 1) = d := by rw [hd]; exact IntWalk.i64_in _ (by omega)
    obtain ⟨q, hq⟩ : ∃ q, ps % 9 = q := ⟨_, rfl⟩
    have s1 : ps.tmod 9 = q := by rw [Int.tmod_eq_emod_of_nonneg (by omega)]; exact hq
    have s2 : IntKind.u8.wrap q = q := IntWalk.u8_in _ (by omega)
    have s3 : IntKind.i64.wrap q = q := IntWalk.i64_in _ (by omega)
    have q0 : 0 ≤ q := by omega
    have q1 : q ≤ 8 := by omega
    have t5 : IntKind.i64.wrap op = op := IntWalk.i64_in _ (by omega)
    obtain ⟨e, he⟩ : ∃ e, d + 1 = e := ⟨_, rfl⟩
    have t6 : IntKind.i64.wrap (d + 1) = e := by rw [he]; exact IntWalk.i64_in _ (by omega)
    have e0 : (e == 0) = false := by rw [beq_eq_false_iff_ne]; omega
    have e0' : e ≠ 0 := by omega
    obtain ⟨o, ho⟩ : ∃ o, op % e = o := ⟨_, rfl⟩
    have o0 : 0 ≤ o := by rw [← ho]; exact Int.emod_nonneg _ e0'
    have o1 : o ≤ d := by have := Int.emod_lt_of_pos op (show 0 < e by omega); omega
    have t7 : op.tmod e = o := by rw [Int.tmod_eq_emod_of_nonneg (by omega)]; exact ho
    have t8 : IntKind.i64.wrap o = o := IntWalk.i64_in _ (by omega)
    have HLv : Hid (∀ W, Calls Try.prog 13 #[Car.val ⟨q, 0, 0⟩] W (Says W (.bool (lv ⟨q, 0, 0⟩)))) := Lib.hid fun W => Car.Level_any ⟨q, 0, 0⟩ q0 W
    have HO1 : Hid (lv ⟨q, 0, 0⟩ = true → On ⟨q, 0, 0⟩ ⟨o, d⟩ d) := Lib.hid fun h => ⟨⟨q0, by simp only; omega, by simp, by simp⟩, ⟨o0, o1, by simp only; omega, by simp only; omega⟩, rfl, by simp [sf, h]⟩
    have HO2 : Hid (On ⟨q, 0, 0⟩ ⟨0, d⟩ d) := Lib.hid ⟨⟨q0, by simp only; omega, by simp, by simp⟩, ⟨by simp, by simp only; omega, by simp only; omega, by simp only; omega⟩, rfl, by simp [sf]⟩
    clear hn hd hq he ho o0 o1 q0 q1 hps hop hwd
    generalize lv ⟨q, 0, 0⟩ = y at *
    unfold Car.val at HLv
    simp only at HLv
    cases y
    all_goals
      go_enter Try.func4, Try.ntmps4
      go_wp2_with (first
        | (go_at_call 7; refine (HA.out _).mono ?_; clear HA; rintro e1 w1 ⟨rfl, h1⟩; have hj0 := Lib.hid (jpush2 ((J.start w).next h1) #[.int .i64 q, .int .i64 0, .int .i64 0] #[.int .i64 0, .int .i64 d] 23 25); have hX : w.heap.size ≤ w1.heap.size := h1.size; clear h1)
        | (go_at_call 13; refine (HLv.out _).mono ?_; clear HLv; rintro e2 w2 ⟨rfl, h2⟩; have hj2 := Lib.hid (hj0.out.next h2); clear h2 hj0; obtain ⟨b0, b1⟩ := (hj2.out.bx 0 rfl).c2; obtain ⟨f0, f1⟩ := (hj2.out.bx 0 rfl).f2))
    all_goals
      first
        | (have hne : ∀ x ∈ [(w1.heap.size, (#[.int .i64 q, .int .i64 0, .int .i64 0] : Array Value))], x.1 ≠ w1.heap.size + 1 := fun x hx => by
             simp at hx; subst hx; simp only; omega
           have hjs : Hid (J w (w2.setCell ⟨w1.heap.size + 1, 0, none⟩ (.int .i64 o)) [(w1.heap.size + 1, Lef.arr ⟨o, d⟩), (w1.heap.size, Car.arr ⟨q, 0, 0⟩)]) := Lib.hid (hj2.out.put (by omega) hne 0 (.int .i64 o))
           have HOn : Hid (On ⟨q, 0, 0⟩ ⟨o, d⟩ d) := Lib.hid (HO1.out trivial)
           clear HO1 HO2 hj2 b0 b1 f0 f1 hne
           generalize World.setCell w2 _ _ = w3 at *)
        | (have hjs : Hid (J w w2 [(w1.heap.size + 1, Lef.arr ⟨0, d⟩), (w1.heap.size, Car.arr ⟨q, 0, 0⟩)]) := hj2
           have HOn := HO2
           clear HO1 HO2 hj2 b0 b1 f0 f1
           generalize w2 = w3 at *)
      go_loopw [15] (fun a wr => ∃ (i : Nat) (c : K) (l : L), a = .int .i64 i ∧ i ≤ len1 ∧ Hid (On c l d) ∧ Hid (J w wr [(w1.heap.size + 1, Lef.arr l), (w1.heap.size, Car.arr c)])) (fun a _ => len1 - (intOf a).toNat)
      case atStart => exact ⟨0, _, _, rfl, by omega, HOn, hjs⟩
      case round =>
        clear hjs HOn
        obtain ⟨i, c, l, rfl, hi, hon, hj⟩ := hrel
        by_cases hlt : i < len1
        · have hiz : i < z1.length := by rw [HL1.out]; exact hlt
          obtain ⟨b1, p1, rfl, hb1, k0, k1, k2, k3⟩ := askd_cells HS1.out i z1[i] (List.getElem?_eq_getElem hiz)
          generalize z1[i] = a at k0 k1 k2 k3
          obtain ⟨av, ab, aw, ax⟩ := a
          simp only at k0 k1 k2 k3
          have m0 := (hj.out.below.cell (p := ⟨b1, p1 + i * 4, none⟩) hb1).trans k0
          have m1 := (hj.out.below.cell (p := ⟨b1, p1 + i * 4 + 1, none⟩) hb1).trans k1
          have m2 := (hj.out.below.cell (p := ⟨b1, p1 + i * 4 + 2, none⟩) hb1).trans k2
          have m3 := (hj.out.below.cell (p := ⟨b1, p1 + i * 4 + 3, none⟩) hb1).trans k3
          clear k0 k1 k2 k3
          have i1 : (i : Int) < (len1 : Int) := by omega
          have e3 : IntKind.i64.wrap ((i : Int) + 1) = ((i + 1 : Nat) : Int) := by rw [IntWalk.i64_in _ (by omega)]; rfl
          have HD : Hid (∀ W, Calls Try.prog 9 #[Car.val c, Lef.val l, .int .i64 av, .bool ab, .int .i64 aw] W (Says W (.tuple #[.int .i64 (dv l.o av), .bool (db l.o ab), .int .i64 (dw (lv c) (db l.o ab) aw)]))) := Lib.hid fun W => Does_any c hon.out.hc.p0 l av ab aw W
          have HS : Hid (∀ W, Calls Try.prog 14 #[Lef.val l, .int .i64 (dw (lv c) (db l.o ab) aw), .bool ax] W (Says W (Lef.val (st l (dw (lv c) (db l.o ab) aw) ax)))) := Lib.hid fun W => Lef.Step_any l hon.out.hl _ ax W
          have HK : Hid (∀ W, Calls Try.prog 15 #[Car.val c, .int .i64 (dv l.o av), .bool (db l.o ab), .int .i64 fl] W (Says W (Car.val (tick c (dv l.o av) (db l.o ab) fl)))) := Lib.hid fun W => Car.Step_any c hon.out.hc _ _ fl W
          have hon2 := on_next hon.out av ab aw fl ax
          have key := safe_on hon.out.hl hon.out.hs av ab aw fl ax
          have HF : Hid (∀ W, Calls Try.prog 12 #[Car.val (tick c (dv l.o av) (db l.o ab) fl), Lef.val (st l (dw (lv c) (db l.o ab) aw) ax)] W (Says W (.bool true))) := Lib.hid fun W => by
            have := Safe_any _ hon2.hc.p0 (st l (dw (lv c) (db l.o ab) aw) ax) W
            rwa [hon2.hs] at this
          have HT : Hid (∀ W, Calls Try.prog 16 #[Lef.val (st l (dw (lv c) (db l.o ab) aw) ax)] W (Says W (.bool (decide ((st l (dw (lv c) (db l.o ab) aw) ax).o = 0))))) := Lib.hid fun W => Lef.Shut_any _ W
          have HON := Lib.hid hon2
          clear hon hon2
          generalize dv l.o av = v' at *
          generalize db l.o ab = b' at *
          generalize dw (lv c) b' aw = x at *
          generalize tick c v' b' fl = c2 at *
          generalize st l x ax = l2 at *
          have ways : (decide (l2.o = 0) = true ∧ (c2.v != 0) = false) ∨ (decide (l2.o = 0) = true ∧ (c2.v != 0) = true) ∨ (decide (l2.o = 0) = false ∧ (c2.p != c.p) = false ∧ (c2.v != 0) = false) := by
            by_cases h : l2.o = 0
            · by_cases h2 : c2.v = 0
              · exact .inl ⟨by simpa using h, by simpa using h2⟩
              · exact .inr (.inl ⟨by simpa using h, by simpa using h2⟩)
            · obtain ⟨h1, h2, _⟩ := key.resolve_left h
              exact .inr (.inr ⟨by simpa using h, by simpa using h1, by simpa using h2⟩)
          clear key
          generalize decide (l2.o = 0) = z at *
          have hjA := Lib.hid (hj.out.push #[.int .i64 av, .bool ab, .int .i64 aw, .bool ax] 27)
          have hlX := (hj.out.bx 1 rfl).lt
          have hlY := (hj.out.bx 0 rfl).lt
          obtain ⟨p, v, k⟩ := c
          obtain ⟨o', d'⟩ := l
          obtain ⟨p2, v2, m2⟩ := c2
          obtain ⟨o2, d2⟩ := l2
          unfold Car.val Car.arr Lef.val Lef.arr at *
          simp only at *
          obtain ⟨a0, a1, a2, a3⟩ := (hjA.out.bx 0 rfl).c4
          obtain ⟨c0, c1, c2⟩ := (hjA.out.bx 2 rfl).c3
          obtain ⟨l0, l1⟩ := (hjA.out.bx 1 rfl).c2
          clear hj
          rcases ways with ⟨rfl, n2⟩ | ⟨rfl, n2⟩ | ⟨rfl, n1, n2⟩
          all_goals
            go_wp2_with (first
              | (go_at_call 9; refine (HD.out _).mono ?_; clear HD a0 a1 a2 a3 c0 c1 c2 l0 l1; rintro e3 w4 ⟨rfl, h4⟩; have hj4 := Lib.hid (hjA.out.next h4); clear h4 hjA; obtain ⟨a0, a1, a2, a3⟩ := (hj4.out.bx 0 rfl).c4; obtain ⟨c0, c1, c2⟩ := (hj4.out.bx 2 rfl).c3; obtain ⟨l0, l1⟩ := (hj4.out.bx 1 rfl).c2)
              | (go_at_call 14; refine (HS.out _).mono ?_; clear HS a0 a1 a2 a3 c0 c1 c2 l0 l1; rintro e4 w5 ⟨rfl, h5⟩; have hj5 := Lib.hid ((hj4.out.next h5).push #[.int .i64 o2, .int .i64 d2] 25); have hM : w5.heap.size ≠ w1.heap.size := (by have u1 := (hj4.out.bx 2 rfl).lt; have u2 := h5.size; omega); clear h5 hj4; obtain ⟨c0, c1, c2⟩ := (hj5.out.bx 3 rfl).c3)
              | (go_at_call 15; refine (HK.out _).mono ?_; clear HK c0 c1 c2; rintro e5 w6 ⟨rfl, h6⟩; have hj6 := Lib.hid ((hj5.out.next h6).push #[.int .i64 p2, .int .i64 v2, .int .i64 m2] 23); clear h6 hj5; obtain ⟨c0, c1, c2⟩ := (hj6.out.bx 0 rfl).c3; obtain ⟨l0, l1⟩ := (hj6.out.bx 1 rfl).c2)
              | (go_at_call 12; refine (HF.out _).mono ?_; clear HF c0 c1 c2 l0 l1; rintro e6 w7 ⟨rfl, h7⟩; have hj7 := Lib.hid (hj6.out.next h7); clear h7 hj6; obtain ⟨l0, l1⟩ := (hj7.out.bx 1 rfl).c2)
              | (go_at_call 16; refine (HT.out _).mono ?_; rintro e7 w8 ⟨rfl, h8⟩; have hj8 := Lib.hid (hj7.out.next h8); clear h8 hj7 l0 l1; obtain ⟨c0, c1, c2⟩ := (hj8.out.bx 0 rfl).c3; obtain ⟨l0, l1⟩ := (hj8.out.bx 1 rfl).c2; obtain ⟨x0, x1, x2⟩ := (hj8.out.bx 4 rfl).c3; obtain ⟨y0, y1⟩ := (hj8.out.bx 3 rfl).c2; obtain ⟨f0, f1, f2⟩ := (hj8.out.bx 4 rfl).f3; obtain ⟨g0, g1⟩ := (hj8.out.bx 3 rfl).f2)
              | (go_at_call 16; refine (HT.out _).mono ?_; rintro e8 w9 ⟨rfl, h9⟩; have hj9 := Lib.hid (hj8.out.next h9); clear h9 hj8 c0 c1 c2 l0 l1 x0 x1 x2 y0 y1 f0 f1 f2 g0 g1; obtain ⟨c0, c1, c2⟩ := (hj9.out.bx 0 rfl).c3; obtain ⟨l0, l1⟩ := (hj9.out.bx 1 rfl).c2; obtain ⟨x0, x1, x2⟩ := (hj9.out.bx 4 rfl).c3; obtain ⟨y0, y1⟩ := (hj9.out.bx 3 rfl).c2; obtain ⟨f0, f1, f2⟩ := (hj9.out.bx 4 rfl).f3; obtain ⟨g0, g1⟩ := (hj9.out.bx 3 rfl).f2))
            have hne : ∀ x ∈ [(w1.heap.size + 1, (#[.int .i64 o', .int .i64 d'] : Array Value))], x.1 ≠ w1.heap.size := fun x hx => by
              simp at hx; subst hx; simp only; omega
            have hne2 : ∀ x ∈ [(w1.heap.size, (#[.int .i64 p2, .int .i64 v2, .int .i64 m2] : Array Value))], x.1 ≠ w1.heap.size + 1 := fun x hx => by
              simp at hx; subst hx; simp only; omega
            have hjl := Lib.hid ((jlast2 (by first | exact hj9.out | exact hj8.out)).fill3 (x := .int .i64 p2) (y := .int .i64 v2) (z := .int .i64 m2) hX hne)
            have hjm := Lib.hid (Lef.jfill2 (Lef.jswap hjl.out) (x := .int .i64 o2) (y := .int .i64 d2) (Nat.le_trans hX (Nat.le_succ _)) hne2)
            go_roundw
            case rel => exact ⟨i + 1, ⟨p2, v2, m2⟩, ⟨o2, d2⟩, rfl, by omega, HON, hjm⟩
            case measure => simp [intOf]; omega
        · obtain rfl : i = len1 := by omega
          go_wp2
          go_ret
          exact ⟨rfl, hj.out.below⟩

end Go.Proofs.Ytbcfjoleimkbeaa.Walk
