/- The walk of CellRuns. -/
import Derived.Test.YtmkdgmkpgkeikaaCelC
import Derived.Test.YtmkdgmkpgkeikaaOpen
import Derived.OpenShut
import Derived.LoopN
import Derived.Laws.StructEq
namespace Go.Proofs.Ytmkdgmkpgkeikaa.Walk
open Go.RowKit Go.ChangeShapes Go.Proofs.Ytmkdgmkpgkeikaa.CelP Go.Proofs.Ytmkdgmkpgkeikaa.Cel Go.Proofs.Ytmkdgmkpgkeikaa.Box Go.Proofs.Ytmkdgmkpgkeikaa.Held Go.Proofs.Ytmkdgmkpgkeikaa.Sees Go.Proofs.Ytmkdgmkpgkeikaa.Open
set_option linter.unusedVariables false

theorem jset2b {w W : World} {B X : Nat} {a b c d y z : Value} (hne : B ≠ X) (hX : w.heap.size ≤ X) (hj : J w W [(B, #[a, b]), (X, #[c, d])]) : J w ((W.setCell ⟨X, 0, none⟩ y).setCell ⟨X, 1, none⟩ z) [(B, #[a, b]), (X, #[y, z])] := by
  have := (hj.set 0 y hX).set 1 z hX
  simpa [hne] using this
theorem jlast {w W : World} {B X : Nat} {a c : Array Value} (hj : J w W [(B, a), (X, c)]) : J w W [(X, c)] := hj.less fun x hx => by
  rw [List.mem_singleton.1 hx]; simp
theorem jlast3 {w W : World} {B D X : Nat} {a b c : Array Value} (hj : J w W [(D, b), (B, a), (X, c)]) : J w W [(X, c)] := hj.less fun x hx => by
  rw [List.mem_singleton.1 hx]; simp
theorem jset2x {w W : World} {X : Nat} {c d y z : Value} (hX : w.heap.size ≤ X) (hj : J w W [(X, #[c, d])]) : J w ((W.setCell ⟨X, 0, none⟩ y).setCell ⟨X, 1, none⟩ z) [(X, #[y, z])] :=
  (hj.put hX (fun x hx => by cases hx) 0 y).put hX (fun x hx => by cases hx) 1 z

set_option maxRecDepth 100000 in
set_option maxHeartbeats 6400000 in
theorem cellRuns_walk (w : World) (f : Int) (a1 : Option Addr) (len1 cap1 : Nat) (z1 : List Int) (w0 : (Lit.int .u16 f).wf = true)
    (hl1 : z1.length = len1) (hc1 : len1 ≤ cap1) (hx1 : cap1 ≤ maxLen) (hs1 : Sees w w.heap.size a1 (nums .i16 z1)) (hw1 : ∀ n ∈ z1, (Lit.int .i16 n).wf = true) :
    Calls Try.prog 4 #[.int .u16 f, .slice a1 len1 cap1] w fun e w' => e = .returned (.bool true) ∧ Below w.heap.size w w' := by
  have hf := bounds_u16 w0
  unfold maxLen at hx1
  have HL1 := Lib.hid hl1
  have HS1 := Lib.hid hs1
  have HW1 := Lib.hid hw1
  clear w0 hl1 hs1 hw1
  have HA : Hid (∀ W, Calls Try.prog 7 #[] W (Says W (.bool true))) := Lib.hid fun W => awake_any W
  by_cases hbig : 300 < len1
  · go_enter Try.func4, Try.ntmps4
    go_wp2_with (go_at_call 7; refine (HA.out _).mono ?_; rintro e w1 ⟨rfl, h1⟩)
    go_ret
    exact ⟨rfl, h1⟩
  · have g1 : ¬ (300 : Int) < (len1 : Int) := by omega
    have t1 : IntKind.i64.wrap f = f := IntWalk.i64_in _ (by omega)
    go_enter Try.func4, Try.ntmps4
    go_wp2_with (go_at_call 7; refine (HA.out _).mono ?_; rintro e w1 ⟨rfl, h1⟩)
    have hj0 := Lib.hid (((J.start w).next h1).push #[.int .i64 0, .int .i64 f] 25)
    have hX : w.heap.size ≤ w1.heap.size := h1.size
    go_loopw [7] (fun a wr => ∃ (i : Nat) (h : Int), a = .int .i64 i ∧ i ≤ len1 ∧ 0 ≤ h ∧ h ≤ f ∧ Hid (J w wr [(w1.heap.size, #[.int .i64 h, .int .i64 f])])) (fun a _ => len1 - (intOf a).toNat)
    case atStart => exact ⟨0, 0, rfl, by omega, by omega, by omega, hj0⟩
    case round =>
      obtain ⟨i, h, rfl, hi, o0, o1, hj⟩ := hrel
      by_cases hlt : i < len1
      · obtain ⟨b1, p1, rfl, hb1, hcell1⟩ := HS1.out.at_ (nums_at .i16 z1 i (by rw [HL1.out]; exact hlt))
        have hv := bounds_i16 (HW1.out (z1[i]?.getD 0) (by have : i < z1.length := by rw [HL1.out]; exact hlt
                                                           simp [this]))
        generalize z1[i]?.getD 0 = v at *
        have i1 : (i : Int) < (len1 : Int) := by omega
        have e3 : IntKind.i64.wrap ((i : Int) + 1) = ((i + 1 : Nat) : Int) := by rw [IntWalk.i64_in _ (by omega)]; rfl
        have e4 : IntKind.i64.wrap v = v := IntWalk.i64_in _ (by omega)
        have hm : K.May ⟨h, f⟩ := ⟨o0, o1, by simp only; omega⟩
        obtain ⟨a0, a1⟩ := (hj.out.bx 0 rfl).c2
        have hlX := (hj.out.bx 0 rfl).lt
        have hBX : wr.heap.size ≠ w1.heap.size := by omega
        have hjb := Lib.hid (hj.out.push #[.int .i64 h, .int .i64 f] 25)
        have m1 : (wr.alloc (.cells #[.int .i64 h, .int .i64 f] 25)).cell? ⟨b1, p1 + i, none⟩ = some (.int .i16 v) := (hjb.out.below.cell (p := ⟨b1, p1 + i, none⟩) hb1).trans hcell1
        have kf : (f == f) = true := by simp
        clear hcell1
        by_cases hneg : v < 0
        · obtain ⟨m, hmv⟩ : ∃ m, -v = m := ⟨_, rfl⟩
          have e5 : IntKind.i64.wrap (-v) = m := by rw [hmv]; exact IntWalk.i64_in _ (by omega)
          have HS := Lib.hid (fun W => Spend_any ⟨h, f⟩ hm m W)
          unfold val sp at HS
          rw [am_id (by omega)] at HS
          simp only at HS
          by_cases k : m ≤ h
          · rw [decide_eq_true k, if_pos k] at HS
            obtain ⟨x, hx⟩ : ∃ x, h - m = x := ⟨_, rfl⟩
            simp only at HS
            rw [hx] at HS
            have e6 : IntKind.i64.wrap (h + v) = x := by rw [IntWalk.i64_in _ (by omega)]; omega
            have kx : (x == x) = true := by simp
            have x0 : ¬ x < 0 := by omega
            have x1 : ¬ f < x := by omega
            clear hm
            go_wp2_with (first
              | (go_at_call 8; (with_reducible refine (HS.out _).mono ?_); clear HS; rintro e1 w2 ⟨rfl, h2⟩; have hj2 := Lib.hid ((hjb.out.next h2).push #[.int .i64 x, .int .i64 f] 25); clear h2; obtain ⟨p0, p1⟩ := (hj2.out.bx 1 rfl).c2; obtain ⟨r0, r1⟩ := (hj2.out.bx 2 rfl).c2; obtain ⟨s0, s1⟩ := (hj2.out.bx 2 rfl).f2))
            have hj3 := jset2x (y := .int .i64 x) (z := .int .i64 f) hX (jlast3 hj2.out)
            go_roundw
            case rel => exact ⟨i + 1, x, rfl, by omega, by omega, by omega, Lib.hid hj3⟩
            case measure => simp [intOf]; omega
          · rw [decide_eq_false k, if_neg k] at HS
            have k1 : ¬ m ≤ h := k
            have kx : (h == h) = true := by simp
            have x0 : ¬ h < 0 := by omega
            have x1 : ¬ f < h := by omega
            clear hm
            go_wp2_with (first
              | (go_at_call 8; (with_reducible refine (HS.out _).mono ?_); clear HS; rintro e1 w2 ⟨rfl, h2⟩; have hj2 := Lib.hid ((hjb.out.next h2).push #[.int .i64 h, .int .i64 f] 25); clear h2; obtain ⟨p0, p1⟩ := (hj2.out.bx 1 rfl).c2; obtain ⟨r0, r1⟩ := (hj2.out.bx 2 rfl).c2; obtain ⟨s0, s1⟩ := (hj2.out.bx 2 rfl).f2))
            have hj3 := jset2x (y := .int .i64 h) (z := .int .i64 f) hX (jlast3 hj2.out)
            go_roundw
            case rel => exact ⟨i + 1, h, rfl, by omega, by omega, by omega, Lib.hid hj3⟩
            case measure => simp [intOf]; omega
        · have HF := Lib.hid (fun W => Fill_any ⟨h, f⟩ hm v W)
          unfold val fl fi at HF
          rw [am_id (by omega)] at HF
          simp only at HF
          obtain ⟨x, hx⟩ : ∃ x, min (h + v) f = x := ⟨_, rfl⟩
          rw [hx] at HF
          have e6 : IntKind.i64.wrap (h + v) = h + v := IntWalk.i64_in _ (by omega)
          have mn : ∀ W, (Builtin.min_ #[3, 3] 3 #[.int .i64 (h + v), .int .i64 f]).run Try.prog W = .ok (.int .i64 x) W := fun W => by
            rw [run_min_int2]; congr 2; split <;> omega
          have kx : (x == x) = true := by simp
          have x0 : ¬ x < 0 := by omega
          have x1 : ¬ f < x := by omega
          have x2 : 0 ≤ x := by omega
          have x3 : x ≤ f := by omega
          clear hm hx
          go_wp2_with (first
            | (go_at_call 10; (with_reducible refine (HF.out _).mono ?_); clear HF; rintro e1 w2 ⟨rfl, h2⟩; have hj2 := Lib.hid (hjb.out.next h2); clear h2; obtain ⟨p0, p1⟩ := (hj2.out.bx 0 rfl).c2; obtain ⟨r0, r1⟩ := (hj2.out.bx 1 rfl).c2; obtain ⟨s0, s1⟩ := (hj2.out.bx 1 rfl).f2))
          have hj3 := jset2x (y := .int .i64 x) (z := .int .i64 f) hX (jlast hj2.out)
          go_roundw
          case rel => exact ⟨i + 1, x, rfl, by omega, by omega, by omega, Lib.hid hj3⟩
          case measure => simp [intOf]; omega
      · obtain rfl : i = len1 := by omega
        go_wp2
        go_ret
        exact ⟨rfl, hj.out.below⟩

end Go.Proofs.Ytmkdgmkpgkeikaa.Walk
