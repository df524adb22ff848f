/- The walk of SenseOther. -/
import Derived.Test.YthgaacdgffpeaaaSenB
import Derived.Test.YthgaacdgffpeaaaSlotY
import Derived.OpenShut
import Derived.LoopN
import Derived.Laws.StructEq
namespace Go.Proofs.Ythgaacdgffpeaaa.Walk
open Go.RowKit Go.ChangeShapes Go.Proofs.Ythgaacdgffpeaaa.SenP Go.Proofs.Ythgaacdgffpeaaa.Sen Go.Proofs.Ythgaacdgffpeaaa.Box Go.Proofs.Ythgaacdgffpeaaa.Held Go.Proofs.Ythgaacdgffpeaaa.Sees Go.Proofs.Ythgaacdgffpeaaa.Open
set_option linter.unusedVariables false

theorem jkeep2 {w W : World} {a b c : Nat × Array Value} (h : J w W [c, a, b]) : J w W [a, b] := h.less fun x hx => by
  simp only [List.mem_cons, List.not_mem_nil, or_false] at hx ⊢
  exact .inr hx
/-- the last two of four, set -/
theorem jset4 {w W : World} {B D X Y : Nat} {p q : Array Value} {a b c d x y : Value} (h : J w W [(D, q), (B, p), (Y, #[c, d]), (X, #[a, b])]) (hX : w.heap.size ≤ X) (hn : D ≠ X ∧ B ≠ X ∧ Y ≠ X) : J w ((W.setCell ⟨X, 0, none⟩ x).setCell ⟨X, 1, none⟩ y) [(D, q), (B, p), (Y, #[c, d]), (X, #[x, y])] := by
  have := (h.set 0 x hX).set 1 y hX
  simpa [hn.1, hn.2.1, hn.2.2] using this
theorem jset4' {w W : World} {B D X Y : Nat} {p q r : Array Value} {c d x y : Value} (h : J w W [(D, q), (B, p), (Y, #[c, d]), (X, r)]) (hY : w.heap.size ≤ Y) (hn : D ≠ Y ∧ B ≠ Y ∧ X ≠ Y) : J w ((W.setCell ⟨Y, 0, none⟩ x).setCell ⟨Y, 1, none⟩ y) [(Y, #[x, y]), (X, r)] := by
  have := (h.set 0 x hY).set 1 y hY
  have h2 : J w ((W.setCell ⟨Y, 0, none⟩ x).setCell ⟨Y, 1, none⟩ y) [(D, q), (B, p), (Y, #[x, y]), (X, r)] := by simpa [hn.1, hn.2.1, hn.2.2] using this
  exact h2.less fun z hz => by
    simp only [List.mem_cons, List.not_mem_nil, or_false] at hz ⊢
    exact .inr (.inr hz)

set_option maxRecDepth 100000 in
set_option maxHeartbeats 12800000 in
theorem senseOther_walk (w : World) (g : Bool) (mo : Int) (a2 : Option Addr) (len2 cap2 : Nat) (z2 : List Bool) (w1 : (Lit.int .u8 mo).wf = true)
    (hl2 : z2.length = len2) (hc2 : len2 ≤ cap2) (hx2 : cap2 ≤ maxLen) (hs2 : Sees w w.heap.size a2 (bools z2)) :
    Calls Try.prog 5 #[.bool g, .int .u8 mo, .slice a2 len2 cap2] w fun e w' => e = .returned (.bool true) ∧ Below w.heap.size w w' := by
  have hmo := bounds_u8 w1
  unfold maxLen at hx2
  have HL2 := Lib.hid hl2
  have HS2 := Lib.hid hs2
  clear w1 hl2 hs2 hc2
  have HA : Hid (∀ W, Calls Try.prog 7 #[] W (Says W (.bool true))) := Lib.hid fun W => awake_any W
  by_cases hbig : 200 < len2
  · go_enter Try.func5, Try.ntmps5
    go_wp2_with (go_at_call 7; refine (HA.out _).mono ?_; rintro e w1 ⟨rfl, h1⟩)
    go_ret
    exact ⟨rfl, h1⟩
  · have g1 : ¬ (200 : Int) < (len2 : Int) := by omega
    have HLN := Lib.hid (by omega : len2 ≤ 200)
    obtain ⟨n, hn⟩ : ∃ n, mo % 200 = n := ⟨_, rfl⟩
    have t1 : mo.tmod 200 = n := by rw [Int.tmod_eq_emod_of_nonneg (by omega)]; exact hn
    have t2 : IntKind.u8.wrap n = n := IntWalk.u8_in _ (by omega)
    have t3 : IntKind.i64.wrap n = n := IntWalk.i64_in _ (by omega)
    obtain ⟨m, hm⟩ : ∃ m, n + 1 = m := ⟨_, rfl⟩
    have t4 : IntKind.i64.wrap (n + 1) = m := by rw [hm]; exact IntWalk.i64_in _ (by omega)
    have HB := Lib.hid (⟨by omega, by omega⟩ : 1 ≤ m ∧ m ≤ 200)
    clear hn hm hmo
    go_enter Try.func5, Try.ntmps5
    go_wp2_with (go_at_call 7; refine (HA.out _).mono ?_; rintro e w1 ⟨rfl, h1⟩)
    have hj0 := Lib.hid ((((J.start w).next h1).push #[.bool g, .int .i64 0] 25).push #[.bool !g, .int .i64 0] 25)
    rw [World.size_alloc] at hj0
    have hX : w.heap.size ≤ w1.heap.size := h1.size
    have hY : w.heap.size ≤ w1.heap.size + 1 := Nat.le_succ_of_le h1.size
    go_loopw [11] (fun a wr => ∃ (i : Nat) (b : Bool) (c : Int), a = .int .i64 i ∧ i ≤ len2 ∧ Hid (0 ≤ c ∧ c < m) ∧ Hid (J w wr [(w1.heap.size + 1, #[.bool !b, .int .i64 c]), (w1.heap.size, #[.bool b, .int .i64 c])])) (fun a _ => len2 - (intOf a).toNat)
    case atStart => exact ⟨0, g, 0, rfl, Nat.zero_le _, Lib.hid ⟨by decide, by have := HB.out; omega⟩, hj0⟩
    case round =>
      clear hj0
      obtain ⟨i, b, c, rfl, hi, hq, hj⟩ := hrel
      by_cases hlt : i < len2
      · have hkz : i < z2.length := by rw [HL2.out]; exact hlt
        have hmay := hq.out
        obtain ⟨b2, p2, rfl, hb2, hcell2⟩ := HS2.out.at_ (bools_at z2 i hkz)
        generalize z2[i]?.getD false = x at *
        have HC := Lib.hid hcell2
        have hS := Lib.hid (step_as b c x m (by omega) (by have := HB.out; omega))
        have hT := Lib.hid (step_as (!b) c (!x) m (by omega) (by have := HB.out; omega))
        rw [st_other, tn_other] at hT
        have hmay2 := st_may (s := ⟨b, c⟩) x HB.out.1 hmay.1 hmay.2
        have hsay := tn_says (s := ⟨b, c⟩) (x := x) (m := m)
        have hone : m = 1 → (st ⟨b, c⟩ x m).g = x := fun h => by rw [h]; exact one_says hmay.1
        obtain ⟨⟨b', c'⟩, hst⟩ : ∃ s, st ⟨b, c⟩ x m = s := ⟨_, rfl⟩
        obtain ⟨t, htn⟩ : ∃ t, tn ⟨b, c⟩ x m = t := ⟨_, rfl⟩
        rw [hst, htn] at hS hT hsay
        rw [hst] at hmay2 hone
        unfold val at hS hT
        simp only at hS hT hmay2 hsay hone
        have HQ := Lib.hid hmay2
        have HSay := Lib.hid hsay
        have HOne := Lib.hid hone
        have i1 : (i : Int) < (len2 : Int) := by omega
        have e3 : IntKind.i64.wrap ((i : Int) + 1) = ((i + 1 : Nat) : Int) := by rw [IntWalk.i64_in _ (by omega)]; rfl
        obtain ⟨kk, hkk⟩ : ∃ kk, ((i + 1 : Nat) : Int) = kk := ⟨_, rfl⟩
        rw [hkk] at e3
        have HKK := Lib.hid hkk
        have hjl : Hid (JS w [(w1.heap.size + 1, #[.bool !b, .int .i64 c]), (w1.heap.size, #[.bool b, .int .i64 c])] wr) := hj
        clear hkk hmay hmay2 hst htn hcell2 hkz hq hj hsay hone
        go_wp2
        refine wp_region_lay_late 10 [9] _ #[.bool false, .int .i64 0] 25 _ 12 JS.closed hjl.out (by kernel_rfl) (by kernel_rfl) rfl rfl rfl (fun ρ w' => by simp [execOp, go_sem]) ?_
        simp only [List.take_succ_cons, List.take_zero, List.drop_succ_cons, List.drop_zero]
        apply Exists.intro
        refine ⟨fun w3 h3 => ?_, fun B W3 hJ3 hz3 hB hbx aF haF => ?_⟩
        · haveI := Ext.some h3
          obtain ⟨q0, q1⟩ := ext2 h3 1 rfl
          have m2 := ext_old h3 (a := ⟨b2, p2 + i, none⟩) hb2 HC.out
          have k1 := Lib.hid (Ext.calls h3 JS.closed (fun W _ => hS.out W))
          repeat go_big_quiet_step (first | (go_at_call 8; with_reducible exact k1.out _))
          exact wpQuiet_nil rfl
        · have hXB : w.heap.size ≤ B := Nat.le_trans hjl.out.below.size hB
          have hlt1 := (hjl.out.bx 0 rfl).lt
          have hne : ∀ y ∈ [(w1.heap.size + 1, (#[.bool !b, .int .i64 c] : Array Value)), (w1.heap.size, (#[.bool b, .int .i64 c] : Array Value))], y.1 ≠ B := fun y hy => by
            simp at hy; rcases hy with rfl | rfl <;> simp only <;> omega
          have hlB : w1.heap.size + 1 < B := by omega
          have HLB := Lib.hid hlB
          obtain ⟨f0, f1⟩ := hbx.f2
          obtain ⟨a0, a1⟩ := hbx.c2
          simp [Act.put] at haF
          subst haF
          clear hlt1 hlB
          change wpList _ _ _ _ _ _
          go_wp2
          refine ⟨rfl, rfl, ⟨fun o d ho hd => by obtain rfl := Option.some.inj ho; obtain rfl := Option.some.inj hd; simp [execOp, Act.eval, go_sem], trivial⟩, ?_⟩
          have hj6 := jlay2 (x := .bool b') (y := .int .i64 c') (J.more hJ3 hbx) hXB hne
          clear f0 f1 a0 a1
          generalize World.setCell _ ⟨B, 1, none⟩ (.int .i64 c') = W4 at hj6 ⊢
          have hj7 : Hid (JS w _ W4) := Lib.hid hj6
          clear hj6
          change wpList _ _ _ _ _ _
          go_wp2
          refine wp_region_lay_late 11 [10] _ #[.bool false, .int .i64 0] 25 _ 14 JS.closed hj7.out (by kernel_rfl) (by kernel_rfl) rfl rfl rfl (fun ρ w' => by simp [execOp, go_sem]) ?_
          simp only [List.take_succ_cons, List.take_zero, List.drop_succ_cons, List.drop_zero]
          apply Exists.intro
          refine ⟨fun w5 h5 => ?_, fun D W5 hJ5 hz5 hD hbx2 aG haG => ?_⟩
          · haveI := Ext.some h5
            obtain ⟨q0, q1⟩ := ext2 h5 1 rfl
            have m2 := ext_old h5 (a := ⟨b2, p2 + i, none⟩) hb2 HC.out
            have k1 := Lib.hid (Ext.calls h5 JS.closed (fun W _ => hT.out W))
            repeat go_big_quiet_step (first | (go_at_call 8; with_reducible exact k1.out _))
            exact wpQuiet_nil rfl
          · have hXD : w.heap.size ≤ D := Nat.le_trans hj7.out.below.size hD
            have hlt2 := (hj7.out.bx 0 rfl).lt
            have hBD : B < D := by omega
            have HBD := Lib.hid hBD
            have hne' : ∀ y ∈ [(B, (#[.bool b', .int .i64 c'] : Array Value)), (w1.heap.size + 1, (#[.bool !b, .int .i64 c] : Array Value)), (w1.heap.size, (#[.bool b, .int .i64 c] : Array Value))], y.1 ≠ D := fun y hy => by
              have := HLB.out
              simp at hy; rcases hy with rfl | rfl | rfl <;> simp only <;> omega
            obtain ⟨f0, f1⟩ := hbx2.f2
            obtain ⟨a0, a1⟩ := hbx2.c2
            simp [Act.put] at haG
            subst haG
            clear hlt2 hBD
            change wpList _ _ _ _ _ _
            go_wp2
            refine ⟨rfl, rfl, ⟨fun o d ho hd => by obtain rfl := Option.some.inj ho; obtain rfl := Option.some.inj hd; simp [execOp, Act.eval, go_sem], trivial⟩, ?_⟩
            have hj8 := jlay2 (x := .bool !b') (y := .int .i64 c') (J.more hJ5 hbx2) hXD hne'
            clear f0 f1 a0 a1
            generalize World.setCell _ ⟨D, 1, none⟩ (.int .i64 c') = W6 at hj8 ⊢
            have hj9 := Lib.hid hj8
            clear hj8
            change wpList _ _ _ _ _ _
            have n1 := HLB.out
            have n2 := HBD.out
            have hn1 : D ≠ w1.heap.size ∧ B ≠ w1.heap.size ∧ w1.heap.size + 1 ≠ w1.heap.size := ⟨by omega, by omega, by omega⟩
            have hn2 : D ≠ w1.heap.size + 1 ∧ B ≠ w1.heap.size + 1 ∧ w1.heap.size ≠ w1.heap.size + 1 := ⟨by omega, by omega, by omega⟩
            have hjA := Lib.hid (jset4 (x := .bool b') (y := .int .i64 c') hj9.out hX hn1)
            have hjB : Hid (JS w _ _) := Lib.hid (jset4' (x := .bool !b') (y := .int .i64 c') hjA.out hY hn2)
            clear n1 n2 hn1 hn2
            obtain ⟨a0, a1⟩ := (hj9.out.bx 1 rfl).c2
            obtain ⟨b0, b1⟩ := (hj9.out.bx 3 rfl).c2
            obtain ⟨f0, f1⟩ := (hj9.out.bx 3 rfl).f2
            obtain ⟨c0, c1⟩ := (hjA.out.bx 0 rfl).c2
            obtain ⟨d0, d1⟩ := (hjA.out.bx 2 rfl).c2
            obtain ⟨e0, e1⟩ := (hjA.out.bx 2 rfl).f2
            go_wp2
            clear a0 a1 b0 b1 c0 c1 d0 d1 e0 e1 f0 f1 hjA hj9
            generalize World.setCell _ ⟨w1.heap.size + 1, 1, none⟩ (.int .i64 c') = W8 at hjB ⊢
            have kt : (t != t) = false := by simp
            have kb : (b' == !b') = false := by cases b' <;> rfl
            have kc : (c' != c') = false := by simp
            have ways : (t = true ∧ b' = x) ∨ t = false := by
              cases t
              · exact .inr rfl
              · exact .inl ⟨rfl, HSay.out rfl⟩
            have ways2 : ((m == 1) = true ∧ b' = x) ∨ (m == 1) = false := by
              by_cases h : m = 1
              · exact .inl ⟨by simpa using h, HOne.out h⟩
              · exact .inr (by simpa using h)
            clear HSay HOne hS hT hJ3 hJ5 hbx hbx2 hz3 hz5
            rcases ways with ⟨rfl, rfl⟩ | rfl
            all_goals
              have kx : (b' != b') = false := (by simp)
              rcases ways2 with ⟨km, ke⟩ | km
              all_goals
                try subst ke
                refine wp_region_all _ JS.closed hjB.out (by kernel_rfl) (by kernel_rfl) ?_
                apply Exists.intro
                refine ⟨fun w7 h7 => ?_, fun W9 hJ9 hz9 => ?_⟩
                · haveI := Ext.some h7
                  obtain ⟨q0, q1⟩ := ext2 h7 0 rfl
                  obtain ⟨r0, r1⟩ := ext2 h7 1 rfl
                  have m2 := ext_old h7 (a := ⟨b2, p2 + i, none⟩) hb2 HC.out
                  repeat go_big_quiet_step (fail)
                  exact wpQuiet_nil rfl
                · go_wp2
                  refine wp_region_all _ JS.closed hJ9 (by kernel_rfl) (by kernel_rfl) ?_
                  apply Exists.intro
                  refine ⟨fun w8 h8 => ?_, fun WA hJA hzA => ?_⟩
                  · haveI := Ext.some h8
                    obtain ⟨q0, q1⟩ := ext2 h8 0 rfl
                    obtain ⟨r0, r1⟩ := ext2 h8 1 rfl
                    have m2 := ext_old h8 (a := ⟨b2, p2 + i, none⟩) hb2 HC.out
                    repeat go_big_quiet_step (fail)
                    exact wpQuiet_nil rfl
                  · go_wp2
                    go_roundw
                    case rel => exact ⟨i + 1, _, c', by rw [HKK.out], by omega, HQ, hJA⟩
                    case measure => rw [← HKK.out]; simp [intOf]; omega
      · obtain rfl : i = len2 := by omega
        go_wp2
        go_ret
        exact ⟨rfl, hj.out.below⟩

end Go.Proofs.Ythgaacdgffpeaaa.Walk
