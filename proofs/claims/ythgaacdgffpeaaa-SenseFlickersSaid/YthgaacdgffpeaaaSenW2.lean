/- The walk of SenseFlickers. -/
import Derived.Test.YthgaacdgffpeaaaSenB
import Derived.Test.YthgaacdgffpeaaaSees
import Derived.OpenShut
import Derived.LoopN
import Derived.Laws.StructEq
namespace Go.Proofs.Ythgaacdgffpeaaa.Walk
open Go.RowKit Go.ChangeShapes Go.Proofs.Ythgaacdgffpeaaa.SenP Go.Proofs.Ythgaacdgffpeaaa.Sen Go.Proofs.Ythgaacdgffpeaaa.Box Go.Proofs.Ythgaacdgffpeaaa.Held Go.Proofs.Ythgaacdgffpeaaa.Sees Go.Proofs.Ythgaacdgffpeaaa.Open
set_option linter.unusedVariables false

set_option maxRecDepth 100000 in
set_option maxHeartbeats 6400000 in
theorem senseFlickers_walk (w : World) (g : Bool) (mo : Int) (a2 : Option Addr) (len2 cap2 : Nat) (z2 : List Int) (w1 : (Lit.int .u8 mo).wf = true)
    (hl2 : z2.length = len2) (hc2 : len2 ≤ cap2) (hx2 : cap2 ≤ maxLen) (hs2 : Sees w w.heap.size a2 (nums .u8 z2)) (hw2 : ∀ n ∈ z2, (Lit.int .u8 n).wf = true) :
    Calls Try.prog 4 #[.bool g, .int .u8 mo, .slice a2 len2 cap2] w fun e w' => e = .returned (.bool true) ∧ Below w.heap.size w w' := by
  have hmo := bounds_u8 w1
  unfold maxLen at hx2
  have HL2 := Lib.hid hl2
  have HS2 := Lib.hid hs2
  have HW2 := Lib.hid hw2
  clear w1 hl2 hs2 hw2
  have HA : Hid (∀ W, Calls Try.prog 7 #[] W (Says W (.bool true))) := Lib.hid fun W => awake_any W
  by_cases hbig : 60 < len2
  · go_enter Try.func4, Try.ntmps4
    go_wp2_with (go_at_call 7; refine (HA.out _).mono ?_; rintro e w1 ⟨rfl, h1⟩)
    go_ret
    exact ⟨rfl, h1⟩
  · have g1 : ¬ (60 : Int) < (len2 : Int) := by omega
    have HLN := Lib.hid (by omega : len2 ≤ 60)
    obtain ⟨n, hn⟩ : ∃ n, mo % 30 = n := ⟨_, rfl⟩
    have t1 : mo.tmod 30 = n := by rw [Int.tmod_eq_emod_of_nonneg (by omega)]; exact hn
    have t2 : IntKind.u8.wrap n = n := IntWalk.u8_in _ (by omega)
    have t3 : IntKind.i64.wrap n = n := IntWalk.i64_in _ (by omega)
    obtain ⟨m, hm⟩ : ∃ m : Nat, n + 1 = m := ⟨(n + 1).toNat, by omega⟩
    have t4 : IntKind.i64.wrap (n + 1) = (m : Int) := by rw [hm]; exact IntWalk.i64_in _ (by omega)
    have m0 : ¬ (m : Int) = 0 := by omega
    have m1 : IntKind.i64.wrap ((m : Int) - 1) = (m : Int) - 1 := IntWalk.i64_in _ (by omega)
    have HB := Lib.hid (⟨by omega, by omega⟩ : 1 ≤ m ∧ m ≤ 30)
    have hgf : ¬ (!g) = g := by cases g <;> decide
    have HSg : Hid (∀ k : Nat, k < m → ∀ W, Calls Try.prog 8 #[.agg #[.bool g, .int .i64 (k : Int)], .bool g, .int .i64 (m : Int)] W (Says W (.tuple #[.agg #[.bool g, .int .i64 0], .bool false]))) := Lib.hid fun k h1 W => by
      have := step_as g k g m (by omega) (by have := HB.out; omega) W
      simpa [st, tn, val] using this
    have HSn : Hid (∀ k : Nat, k + 1 < m → ∀ W, Calls Try.prog 8 #[.agg #[.bool g, .int .i64 (k : Int)], .bool (!g), .int .i64 (m : Int)] W (Says W (.tuple #[.agg #[.bool g, .int .i64 ((k + 1 : Nat) : Int)], .bool false]))) := Lib.hid fun k h1 W => by
      have := step_as g k (!g) m (by omega) (by have := HB.out; omega) W
      have h2 : (k : Int) + 1 < (m : Int) := by omega
      simpa [st, tn, val, hgf, h2] using this
    have HSl : Hid (∀ k : Nat, k + 1 = m → ∀ W, Calls Try.prog 8 #[.agg #[.bool g, .int .i64 (k : Int)], .bool (!g), .int .i64 (m : Int)] W (Says W (.tuple #[.agg #[.bool (!g), .int .i64 0], .bool true]))) := Lib.hid fun k h1 W => by
      have := step_as g k (!g) m (by omega) (by have := HB.out; omega) W
      have h2 : ¬ (k : Int) + 1 < (m : Int) := by omega
      simpa [st, tn, val, hgf, h2] using this
    have kg : (g == g) = true := by simp
    have kn : ((!g) == g) = false := by cases g <;> rfl
    clear hn hm hmo hgf
    go_enter Try.func4, Try.ntmps4
    go_wp2_with (go_at_call 7; refine (HA.out _).mono ?_; rintro e w1 ⟨rfl, h1⟩)
    have hj0 := Lib.hid (((J.start w).next h1).push #[.bool g, .int .i64 0] 25)
    have hX : w.heap.size ≤ w1.heap.size := h1.size
    go_loopw [10] (fun a wr => ∃ (i : Nat), a = .int .i64 i ∧ i ≤ len2 ∧ Hid (J w wr [(w1.heap.size, #[.bool g, .int .i64 0])])) (fun a _ => len2 - (intOf a).toNat)
    case atStart => exact ⟨0, rfl, Nat.zero_le _, hj0⟩
    case round =>
      clear hj0
      obtain ⟨i, rfl, hi, hj⟩ := hrel
      by_cases hlt : i < len2
      · obtain ⟨b2, p2, rfl, hb2, hcell2⟩ := HS2.out.at_ (nums_at .u8 z2 i (by rw [HL2.out]; exact hlt))
        have hv := bounds_u8 (HW2.out (z2[i]?.getD 0) (by have : i < z2.length := by rw [HL2.out]; exact hlt
                                                          simp [this]))
        generalize z2[i]?.getD 0 = v at *
        have i1 : (i : Int) < (len2 : Int) := by omega
        have e3 : IntKind.i64.wrap ((i : Int) + 1) = ((i + 1 : Nat) : Int) := by rw [IntWalk.i64_in _ (by omega)]; rfl
        have e4 : IntKind.i64.wrap v = v := IntWalk.i64_in _ (by omega)
        obtain ⟨q, hq⟩ : ∃ q : Nat, v % (m : Int) = q := ⟨(v % (m : Int)).toNat, by have := Int.emod_nonneg v m0; omega⟩
        have hqm : q < m := by have := Int.emod_lt_of_pos v (show (0 : Int) < m by have := HB.out; omega); omega
        have e5 : v.tmod (m : Int) = (q : Int) := by rw [Int.tmod_eq_emod_of_nonneg (by omega)]; exact hq
        have e6 : IntKind.i64.wrap (q : Int) = (q : Int) := IntWalk.i64_in _ (by have := HB.out; omega)
        have mc := (hj.out.below.cell (p := ⟨b2, p2 + i, none⟩) hb2).trans hcell2
        have HQ := Lib.hid hqm
        have hj1 : Hid (J w wr [(w1.heap.size, #[.bool g, .int .i64 ((0 : Nat) : Int)])]) := hj
        clear hcell2 hv hq hj hqm
        go_wp2
        clear mc
        go_loopw [12] (fun a W => ∃ (k : Nat), a = .int .i64 k ∧ k ≤ q ∧ Hid (J w W [(w1.heap.size, #[.bool g, .int .i64 (k : Int)])])) (fun a _ => q - (intOf a).toNat)
        case atStart => exact ⟨0, rfl, Nat.zero_le _, hj1⟩
        case round =>
          clear hj1
          obtain ⟨k, rfl, hk, hj⟩ := hrel
          obtain ⟨a0, a1⟩ := (hj.out.bx 0 rfl).c2
          by_cases hlt2 : k < q
          · have k1 : (k : Int) < (q : Int) := by omega
            have e7 : IntKind.i64.wrap ((k : Int) + 1) = ((k + 1 : Nat) : Int) := by have := HQ.out; have := HB.out; rw [IntWalk.i64_in _ (by omega)]; rfl
            have HS1 := Lib.hid (HSn.out k (by have := HQ.out; omega))
            obtain ⟨kk, hkk⟩ : ∃ kk, ((k + 1 : Nat) : Int) = kk := ⟨_, rfl⟩
            rw [hkk] at HS1 e7
            have HKK := Lib.hid hkk
            clear hkk
            go_wp2_with (first
              | (go_at_call 8; (with_reducible refine (HS1.out _).mono ?_); clear HS1 a0 a1; rintro e w2 ⟨rfl, h2⟩; have hlt1 := (hj.out.bx 0 rfl).lt; have hne1 : w2.heap.size ≠ w1.heap.size := (by have := h2.size; omega); have hne2 := hne1.symm; have hj2 := Lib.hid ((hj.out.next h2).push #[.bool g, .int .i64 kk] 25); clear h2 hlt1; obtain ⟨a0, a1⟩ := (hj2.out.bx 1 rfl).c2; obtain ⟨f0, f1⟩ := (hj2.out.bx 1 rfl).f2; obtain ⟨b0, b1⟩ := (hj2.out.bx 0 rfl).c2))
            have hj3 := Lib.hid (jlay2 (x := .bool g) (y := .int .i64 kk) (jlast2 hj2.out) hX (fun x hx => by cases hx))
            obtain ⟨c0, c1⟩ := (hj3.out.bx 0 rfl).c2
            go_wp2
            go_roundw
            case rel => exact ⟨k + 1, by rw [HKK.out], by omega, by rw [HKK.out]; exact hj3⟩
            case measure => rw [← HKK.out]; simp [intOf]; omega
          · obtain rfl : k = q := by omega
            have HS1 := Lib.hid (HSg.out k HQ.out)
            go_wp2_with (first
              | (go_at_call 8; (with_reducible refine (HS1.out _).mono ?_); clear HS1 a0 a1; rintro e w2 ⟨rfl, h2⟩; have hlt1 := (hj.out.bx 0 rfl).lt; have hne1 : w2.heap.size ≠ w1.heap.size := (by have := h2.size; omega); have hne2 := hne1.symm; have hj2 := Lib.hid ((hj.out.next h2).push #[.bool g, .int .i64 0] 25); clear h2 hlt1; obtain ⟨a0, a1⟩ := (hj2.out.bx 1 rfl).c2; obtain ⟨f0, f1⟩ := (hj2.out.bx 1 rfl).f2; obtain ⟨b0, b1⟩ := (hj2.out.bx 0 rfl).c2))
            have hj3 := Lib.hid (jlay2 (x := .bool g) (y := .int .i64 0) (jlast2 hj2.out) hX (fun x hx => by cases hx))
            obtain ⟨c0, c1⟩ := (hj3.out.bx 0 rfl).c2
            go_wp2
            go_roundw
            case rel => exact ⟨i + 1, rfl, by omega, hj3⟩
            case measure => simp [intOf]; omega
      · obtain rfl : i = len2 := by omega
        have hj1 : Hid (J w wr [(w1.heap.size, #[.bool g, .int .i64 ((0 : Nat) : Int)])]) := hj
        clear hj
        go_wp2
        go_loopw [17] (fun a W => ∃ (k : Nat) (b : Bool) (x : Nat), a = .int .i64 k ∧ k ≤ m ∧ Hid ((k < m ∧ b = g ∧ x = k) ∨ (k = m ∧ b = (!g) ∧ x = 0)) ∧ Hid (J w W [(w1.heap.size, #[.bool b, .int .i64 (x : Int)])])) (fun a _ => m - (intOf a).toNat)
        case atStart => exact ⟨0, g, 0, rfl, Nat.zero_le _, Lib.hid (.inl ⟨by have := HB.out; omega, rfl, rfl⟩), hj1⟩
        case round =>
          clear hj1
          obtain ⟨k, b, x, rfl, hk, hc, hj⟩ := hrel
          rcases hc.out with ⟨hlt2, rfl, rfl⟩ | ⟨rfl, rfl, rfl⟩
          · clear hc
            obtain ⟨a0, a1⟩ := (hj.out.bx 0 rfl).c2
            have k1 : (x : Int) < (m : Int) := by omega
            have e7 : IntKind.i64.wrap ((x : Int) + 1) = ((x + 1 : Nat) : Int) := by have := HB.out; rw [IntWalk.i64_in _ (by omega)]; rfl
            by_cases hend : x + 1 = m
            · have HS1 := Lib.hid (HSl.out x hend)
              have k2 : ((x : Int) == (m : Int) - 1) = true := by simp; omega
              have HE := Lib.hid hend
              clear hend
              go_wp2_with (first
                | (go_at_call 8; (with_reducible refine (HS1.out _).mono ?_); clear HS1 a0 a1; rintro e w2 ⟨rfl, h2⟩; have hlt1 := (hj.out.bx 0 rfl).lt; have hne1 : w2.heap.size ≠ w1.heap.size := (by have := h2.size; omega); have hne2 := hne1.symm; have hj2 := Lib.hid ((hj.out.next h2).push #[.bool (!b), .int .i64 0] 25); clear h2 hlt1; obtain ⟨a0, a1⟩ := (hj2.out.bx 1 rfl).c2; obtain ⟨f0, f1⟩ := (hj2.out.bx 1 rfl).f2; obtain ⟨b0, b1⟩ := (hj2.out.bx 0 rfl).c2))
              have hj3 := Lib.hid (jlay2 (x := .bool (!b)) (y := .int .i64 0) (jlast2 hj2.out) hX (fun x hx => by cases hx))
              go_roundw
              case rel => exact ⟨x + 1, !b, 0, rfl, by have := HE.out; omega, Lib.hid (.inr ⟨HE.out, rfl, rfl⟩), hj3⟩
              case measure => simp [intOf]; omega
            · have HS1 := Lib.hid (HSn.out x (by omega))
              have k2 : ((x : Int) == (m : Int) - 1) = false := by simp; omega
              have HE := Lib.hid (show x + 1 < m by omega)
              clear hend
              obtain ⟨kk, hkk⟩ : ∃ kk, ((x + 1 : Nat) : Int) = kk := ⟨_, rfl⟩
              rw [hkk] at HS1 e7
              have HKK := Lib.hid hkk
              clear hkk
              go_wp2_with (first
                | (go_at_call 8; (with_reducible refine (HS1.out _).mono ?_); clear HS1 a0 a1; rintro e w2 ⟨rfl, h2⟩; have hlt1 := (hj.out.bx 0 rfl).lt; have hne1 : w2.heap.size ≠ w1.heap.size := (by have := h2.size; omega); have hne2 := hne1.symm; have hj2 := Lib.hid ((hj.out.next h2).push #[.bool b, .int .i64 kk] 25); clear h2 hlt1; obtain ⟨a0, a1⟩ := (hj2.out.bx 1 rfl).c2; obtain ⟨f0, f1⟩ := (hj2.out.bx 1 rfl).f2; obtain ⟨b0, b1⟩ := (hj2.out.bx 0 rfl).c2))
              have hj3 := Lib.hid (jlay2 (x := .bool b) (y := .int .i64 kk) (jlast2 hj2.out) hX (fun x hx => by cases hx))
              go_roundw
              case rel => exact ⟨x + 1, b, x + 1, by rw [HKK.out], by have := HE.out; omega, Lib.hid (.inl ⟨HE.out, rfl, rfl⟩), by rw [HKK.out]; exact hj3⟩
              case measure => rw [← HKK.out]; simp [intOf]; omega
          · clear hc
            have hj4 : Hid (J w _ [(w1.heap.size, #[.bool (!g), .int .i64 0])]) := hj
            obtain ⟨a0, a1⟩ := (hj4.out.bx 0 rfl).c2
            have k3 : ((!g) != g) = true := by cases g <;> rfl
            go_wp2
            go_ret
            exact ⟨rfl, hj4.out.below⟩

end Go.Proofs.Ythgaacdgffpeaaa.Walk
