/- The walk of SenseTells. -/
import Derived.Test.YthgaacdgffpeaaaSenB
import Derived.Test.YthgaacdgffpeaaaSlotY
import Derived.OpenShut
import Derived.LoopN
import Derived.Laws.StructEq
namespace Go.Proofs.Ythgaacdgffpeaaa.Walk
open Go.RowKit Go.ChangeShapes Go.Proofs.Ythgaacdgffpeaaa.SenP Go.Proofs.Ythgaacdgffpeaaa.Sen Go.Proofs.Ythgaacdgffpeaaa.Box Go.Proofs.Ythgaacdgffpeaaa.Held Go.Proofs.Ythgaacdgffpeaaa.Sees Go.Proofs.Ythgaacdgffpeaaa.Open
set_option linter.unusedVariables false

theorem slice_flags (A : Option Addr) (n cap s : Nat) (h : s ≤ cap) :
    (∀ W, (Instr.sliceAt 22 (.slice A n cap) none (some (.int .i64 (s : Int))) none).run Try.prog W = .ok (.slice A s cap) W) ∧
    (∀ W, (Instr.slice 22 (.slice A n cap) none (some (.int .i64 (s : Int))) none).run Try.prog W = .ok (.slice A s cap) W) := by
  have hu : Try.prog.underlying 22 = some (.slice (Try.prog.elem 22)) := by kernel_rfl
  have h2 : ∀ W, (Instr.slice 22 (.slice A n cap) none (some (.int .i64 (s : Int))) none).run Try.prog W = .ok (.slice A s cap) W := fun W => by
    have hs : (sizeOf (Try.prog.elem 22)).run Try.prog W = .ok 1 W := by kernel_rfl
    rw [run_slice_h W 22 A n cap hu .i64 (s : Int) (by omega) (by omega), hs]
    simp only [Result.andThen, sliced]
    congr 2
    · split
      · rfl
      · cases A <;> simp [Addr.add]
  exact ⟨fun W => by rw [run_sliceAt_slice W _ _ _ _ _ hu]; exact h2 W, h2⟩

set_option maxRecDepth 100000 in
set_option maxHeartbeats 6400000 in
theorem senseTells_walk (w : World) (g : Bool) (mo : Int) (a2 : Option Addr) (len2 cap2 : Nat) (z2 : List Bool) (w1 : (Lit.int .u8 mo).wf = true)
    (hl2 : z2.length = len2) (hc2 : len2 ≤ cap2) (hx2 : cap2 ≤ maxLen) (hs2 : Sees w w.heap.size a2 (bools z2)) :
    Calls Try.prog 3 #[.bool g, .int .u8 mo, .slice a2 len2 cap2] w fun e w' => e = .returned (.bool true) ∧ Below w.heap.size w w' := by
  have hmo := bounds_u8 w1
  unfold maxLen at hx2
  have HL2 := Lib.hid hl2
  have HS2 := Lib.hid hs2
  have HC2 := Lib.hid hc2
  clear w1 hl2 hs2 hc2
  have HA : Hid (∀ W, Calls Try.prog 7 #[] W (Says W (.bool true))) := Lib.hid fun W => awake_any W
  by_cases hbig : 200 < len2
  · go_enter Try.func3, Try.ntmps3
    go_wp2_with (go_at_call 7; refine (HA.out _).mono ?_; rintro e w1 ⟨rfl, h1⟩)
    go_ret
    exact ⟨rfl, h1⟩
  · have g1 : ¬ (200 : Int) < (len2 : Int) := by omega
    have HLN := Lib.hid (by omega : len2 ≤ 200)
    obtain ⟨n, hn⟩ : ∃ n, mo % 200 = n := ⟨_, rfl⟩
    have t1 : mo.tmod 200 = n := by rw [Int.tmod_eq_emod_of_nonneg (by omega)]; exact hn
    have t2 : IntKind.u8.wrap n = n := IntWalk.u8_in _ (by omega)
    have t3 : IntKind.i64.wrap n = n := IntWalk.i64_in _ (by omega)
    obtain ⟨m, hm⟩ : ∃ m, n + 1 = m := ⟨_, rfl⟩
    have t4 : IntKind.i64.wrap (n + 1) = m := by rw [hm]; exact IntWalk.i64_in _ (by omega)
    have HB := Lib.hid (⟨by omega, by omega⟩ : 1 ≤ m ∧ m ≤ 200)
    have HR : Hid (∀ i : Nat, i ≤ len2 → ∀ W, Below w.heap.size w W → Calls Try.prog 9 #[.bool g, .slice a2 i cap2, .int .i64 m] W (Says W (.tuple #[.bool (rn m g (z2.take i)).1.g, .bool (rn m g (z2.take i)).2]))) := Lib.hid fun i hi W hb =>
      says_of_same (good_any m g HB.out.1 HB.out.2 z2 a2 i cap2 (by rw [HL2.out]; exact hi) (by have := HLN.out; omega) W ((HS2.out.below hb (Nat.le_refl _)).more hb.size))
    clear hn hm hmo
    go_enter Try.func3, Try.ntmps3
    go_wp2_with (go_at_call 7; refine (HA.out _).mono ?_; rintro e w1 ⟨rfl, h1⟩)
    have hj0 := Lib.hid (((J.start w).next h1).push #[.bool g, .int .i64 0] 25)
    have hX : w.heap.size ≤ w1.heap.size := h1.size
    go_loopw [10] (fun a wr => ∃ (i : Nat) (b : Bool) (c : Int), a = .int .i64 i ∧ i ≤ len2 ∧ Hid ((rn m g (z2.take i)).1 = ⟨b, c⟩) ∧ Hid (J w wr [(w1.heap.size, #[.bool b, .int .i64 c])])) (fun a _ => len2 - (intOf a).toNat)
    case atStart => exact ⟨0, g, 0, rfl, Nat.zero_le _, Lib.hid rfl, hj0⟩
    case round =>
      clear hj0
      obtain ⟨i, b, c, rfl, hi, hq, hj⟩ := hrel
      by_cases hlt : i < len2
      · have hkz : i < z2.length := by rw [HL2.out]; exact hlt
        have hmay := rn_may m g HB.out.1 (z2.take i)
        rw [hq.out] at hmay
        simp only at hmay
        have hsn := rn_snoc m g (z2.take i) (z2[i]?.getD false)
        rw [← Plain.take_snoc z2 i hkz false, hq.out] at hsn
        have HR1 := Lib.hid (HR.out (i + 1) (by omega))
        rw [hsn] at HR1
        obtain ⟨b2, p2, rfl, hb2, hcell2⟩ := HS2.out.at_ (bools_at z2 i hkz)
        generalize z2[i]?.getD false = x at *
        have HC := Lib.hid hcell2
        have hS := Lib.hid (step_as b c x m (by omega) (by have := HB.out; omega))
        have hmay2 := st_may (s := ⟨b, c⟩) x HB.out.1 hmay.1 hmay.2
        obtain ⟨⟨b', c'⟩, hst⟩ : ∃ s, st ⟨b, c⟩ x m = s := ⟨_, rfl⟩
        obtain ⟨t, htn⟩ : ∃ t, tn ⟨b, c⟩ x m = t := ⟨_, rfl⟩
        rw [hst, htn] at hS hsn HR1
        rw [hst] at hmay2
        unfold val at hS
        simp only at hS hmay2 HR1
        have HQ := Lib.hid hsn
        have i1 : (i : Int) < (len2 : Int) := by omega
        have e3 : IntKind.i64.wrap ((i : Int) + 1) = ((i + 1 : Nat) : Int) := by rw [IntWalk.i64_in _ (by omega)]; rfl
        obtain ⟨s1, s2⟩ := slice_flags (some ⟨b2, p2, none⟩) len2 cap2 (i + 1) (by have := HC2.out; omega)
        obtain ⟨kk, hkk⟩ : ∃ kk, ((i + 1 : Nat) : Int) = kk := ⟨_, rfl⟩
        rw [hkk] at s1 s2 e3
        have HKK := Lib.hid hkk
        have kb : (b' != b') = false := by simp
        have kt : (t != t) = false := by simp
        have c1 : ¬ c' < 0 := by omega
        have c2 : ¬ m ≤ c' := by omega
        have d1 : decide (c' < 0) = false := by simp; omega
        have d2 : decide (m ≤ c') = false := by simp; omega
        have hjl : Hid (JS w [(w1.heap.size, #[.bool b, .int .i64 c])] wr) := hj
        clear hkk hmay hmay2 hst htn hsn hcell2 hkz hq hj
        go_wp2
        refine wp_region_lay_late 10 [9] _ #[.bool false, .int .i64 0] 25 _ 11 JS.closed hjl.out (by kernel_rfl) (by kernel_rfl) rfl rfl rfl (fun ρ w' => by simp [execOp, go_sem]) ?_
        simp only [List.take_succ_cons, List.take_zero, List.drop_succ_cons, List.drop_zero]
        apply Exists.intro
        refine ⟨fun w3 h3 => ?_, fun B W3 hJ3 hz3 hB hbx aF haF => ?_⟩
        · haveI := Ext.some h3
          obtain ⟨q0, q1⟩ := ext2 h3 0 rfl
          have m2 := ext_old h3 (a := ⟨b2, p2 + i, none⟩) hb2 HC.out
          have k1 := Lib.hid (Ext.calls h3 JS.closed (fun W _ => hS.out W))
          repeat go_big_quiet_step (first | (go_at_call 8; with_reducible exact k1.out _))
          exact wpQuiet_nil rfl
        · have hXB : w.heap.size ≤ B := Nat.le_trans hjl.out.below.size hB
          have hlt1 := (hjl.out.bx 0 rfl).lt
          have hne : ∀ y ∈ [(w1.heap.size, (#[.bool b, .int .i64 c] : Array Value))], y.1 ≠ B := fun y hy => by
            simp at hy; subst hy; simp only; omega
          have hne1 : B ≠ w1.heap.size := by omega
          have hne2 := hne1.symm
          obtain ⟨f0, f1⟩ := hbx.f2
          obtain ⟨a0, a1⟩ := hbx.c2
          simp [Act.put] at haF
          subst haF
          clear hlt1
          change wpList _ _ _ _ _ _
          go_wp2
          refine ⟨rfl, rfl, ⟨fun o d ho hd => by obtain rfl := Option.some.inj ho; obtain rfl := Option.some.inj hd; simp [execOp, Act.eval, go_sem], trivial⟩, ?_⟩
          have hj6 := jlay2 (x := .bool b') (y := .int .i64 c') (J.more hJ3 hbx) hXB hne
          clear f0 f1 a0 a1
          generalize World.setCell _ ⟨B, 1, none⟩ (.int .i64 c') = W4 at hj6 ⊢
          have hj7 := Lib.hid hj6
          clear hj6
          obtain ⟨a0, a1⟩ := (hj7.out.bx 1 rfl).c2
          obtain ⟨f0, f1⟩ := (hj7.out.bx 1 rfl).f2
          obtain ⟨b0, b1⟩ := (hj7.out.bx 0 rfl).c2
          have hj8 := Lib.hid (jlay2 (x := .bool b') (y := .int .i64 c') (jlast2 hj7.out) hX (fun x hx => by cases hx))
          obtain ⟨c0, c1⟩ := (hj8.out.bx 0 rfl).c2
          have HR2 := Lib.hid (HR1.out _ hj8.out.below)
          change wpList _ _ _ _ _ _
          go_wp2_with (go_at_call 9; (with_reducible refine HR2.out.mono ?_); clear HR2; rintro e5 w5 ⟨rfl, h5⟩; have hj9 := Lib.hid (hj8.out.next h5); clear a0 a1 f0 f1 b0 b1 c0 c1; obtain ⟨c0, c1⟩ := (hj9.out.bx 0 rfl).c2)
          go_roundw
          case rel => exact ⟨i + 1, b', c', by rw [HKK.out], by omega, Lib.hid (by rw [HQ.out]), hj9⟩
          case measure => rw [← HKK.out]; simp [intOf]; omega
      · obtain rfl : i = len2 := by omega
        go_wp2
        go_ret
        exact ⟨rfl, hj.out.below⟩

end Go.Proofs.Ythgaacdgffpeaaa.Walk
