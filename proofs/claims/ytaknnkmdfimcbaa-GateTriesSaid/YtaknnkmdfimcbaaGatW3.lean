/- The walk of GateTries. -/
import Derived.Test.YtaknnkmdfimcbaaGatB
import Derived.OpenShut
import Derived.LoopN
namespace Go.Proofs.Ytaknnkmdfimcbaa.Walk
open Go.RowKit Go.ChangeShapes Go.Proofs.Ytaknnkmdfimcbaa.CarP Go.Proofs.Ytaknnkmdfimcbaa.LefP Go.Proofs.Ytaknnkmdfimcbaa.LokP Go.Proofs.Ytaknnkmdfimcbaa.GatP Go.Proofs.Ytaknnkmdfimcbaa.Gat Go.Proofs.Ytaknnkmdfimcbaa.Box Go.Proofs.Ytaknnkmdfimcbaa.Held
set_option linter.unusedVariables false

/-- three blocks one behind the other -/
theorem jpush3 {w W : World} {bs : List (Nat × Array Value)} (h : J w W bs) (c0 c1 c2 : Array Value) (t0 t1 t2 : TypeId) : J w (((W.alloc (.cells c0 t0)).alloc (.cells c1 t1)).alloc (.cells c2 t2)) ((W.heap.size + 2, c2) :: (W.heap.size + 1, c1) :: (W.heap.size, c0) :: bs) := by
  have := ((h.push c0 t0).push c1 t1).push c2 t2
  rwa [World.size_alloc, World.size_alloc] at this
/-- all but the newest -/
theorem jdrop {w W : World} {a : Nat × Array Value} {bs : List (Nat × Array Value)} (h : J w W (a :: bs)) : J w W bs := h.less fun x hx => List.mem_cons_of_mem _ hx

set_option maxRecDepth 100000 in
set_option maxHeartbeats 6400000 in
theorem gateTries_walk (w : World) (mo ro : Int) (w0 : (Lit.int .u8 mo).wf = true) (w1 : (Lit.int .u8 ro).wf = true) :
    Calls Try.prog 5 #[.int .u8 mo, .int .u8 ro] w fun e w' => e = .returned (.bool true) ∧ Below w.heap.size w w' := by
  have hmo := bounds_u8 w0
  have hro := bounds_u8 w1
  clear w0 w1
  obtain ⟨q, hq⟩ : ∃ q, ro % 4 = q := ⟨_, rfl⟩
  have t1 : ro.tmod 4 = q := by rw [Int.tmod_eq_emod_of_nonneg (by omega)]; exact hq
  have t2 : IntKind.u8.wrap q = q := IntWalk.u8_in _ (by omega)
  have t3 : IntKind.i64.wrap q = q := IntWalk.i64_in _ (by omega)
  obtain ⟨R, hR⟩ : ∃ R, q + 1 = R := ⟨_, rfl⟩
  have t4 : IntKind.i64.wrap (q + 1) = R := by rw [hR]; exact IntWalk.i64_in _ (by omega)
  have t5 : IntKind.i64.wrap mo = mo := IntWalk.i64_in _ (by omega)
  obtain ⟨M, hM⟩ : ∃ M, mo + 5 = M := ⟨_, rfl⟩
  have t6 : IntKind.i64.wrap (mo + 5) = M := by rw [hM]; exact IntWalk.i64_in _ (by omega)
  have hRb : 1 ≤ R ∧ R ≤ 4 := by omega
  have HM := Lib.hid (And.intro hmo hM)
  clear hq hR hro hmo hM
  have HA : Hid (∀ W, Calls Try.prog 8 #[] W (Says W (.bool true))) := Lib.hid fun W => awake_any W
  have HAg : Hid (∀ N, 0 ≤ N → N ≤ 1000000 → ∀ W, Calls Try.prog 11 #[.agg #[.int .i64 0, .int .i64 N], .agg #[.int .i64 1, .int .i64 2], .bool true, .int .i64 mo] W (Says W (.tuple #[Gat.val (gg ⟨0, N⟩ ⟨1, 2⟩ true mo), .bool (ag ⟨0, N⟩ ⟨1, 2⟩ true mo)]))) := Lib.hid fun N h0 h1 W => Again_any ⟨0, N⟩ h0 h1 ⟨1, 2⟩ true mo W
  have HS : Hid (∀ N W, Calls Try.prog 10 #[.agg #[.int .i64 0, .int .i64 N], .agg #[.int .i64 1, .int .i64 2], .agg #[.int .i64 1, .int .i64 2], .int .i64 3] W (Says W (.agg #[.int .i64 0, .int .i64 N]))) := Lib.hid fun N W => Step_any ⟨0, N⟩ (by simp) (by simp) ⟨1, 2⟩ ⟨1, 2⟩ 3 W
  have HS0 : Hid (∀ N W, Calls Try.prog 10 #[.agg #[.int .i64 0, .int .i64 N], .agg #[.int .i64 1, .int .i64 2], .agg #[.int .i64 0, .int .i64 2], .int .i64 3] W (Says W (.agg #[.int .i64 0, .int .i64 0]))) := Lib.hid fun N W => Step_any ⟨0, N⟩ (by simp) (by simp) ⟨1, 2⟩ ⟨0, 2⟩ 3 W
  have z1 : (mo != mo) = false := by simp
  go_enter Try.func5, Try.ntmps5
  go_wp2_with (go_at_call 8; (with_reducible refine (HA.out _).mono ?_); clear HA; rintro e w1 ⟨rfl, h1⟩; have hj1 := Lib.hid (jpush3 ((J.start w).next h1) #[.int .i64 1, .int .i64 2] #[.int .i64 0, .int .i64 2] #[.int .i64 0, .int .i64 0] 25 25 27); have hX : w.heap.size ≤ w1.heap.size := h1.size; clear h1)
  generalize w1.heap.size = X at *
  have hne : Hid (∀ x ∈ ([(X + 1, #[.int .i64 0, .int .i64 2]), (X, #[.int .i64 1, .int .i64 2])] : List (Nat × Array Value)), x.1 ≠ X + 2) := Lib.hid fun x hx => by
    simp only [List.mem_cons, List.not_mem_nil, or_false] at hx
    rcases hx with rfl | rfl <;> simp
  have hX2 : w.heap.size ≤ X + 2 := by omega
  go_loopw [9] (fun a wr => ∃ r : Nat, a = .int .i64 r ∧ (r : Int) ≤ R ∧ Hid (J w wr [(X + 2, #[.int .i64 0, .int .i64 0]), (X + 1, #[.int .i64 0, .int .i64 2]), (X, #[.int .i64 1, .int .i64 2])])) (fun a _ => R.toNat - (intOf a).toNat)
  case atStart => exact ⟨0, rfl, by simp; omega, hj1⟩
  case round =>
    clear hj1
    obtain ⟨r, rfl, hr, hj⟩ := hrel
    by_cases hlt : (r : Int) < R
    · have e3 : IntKind.i64.wrap ((r : Int) + 1) = ((r + 1 : Nat) : Int) := by rw [IntWalk.i64_in _ (by omega)]; rfl
      go_wp2
      go_loopw [10, 11] (fun n a wr => ∃ (k : Nat) (N : Int), n = .int .i64 N ∧ a = .int .i64 k ∧ (k : Int) ≤ M ∧ Hid (N = min (k : Int) mo) ∧ Hid (J w wr [(X + 2, #[.int .i64 0, .int .i64 N]), (X + 1, #[.int .i64 0, .int .i64 2]), (X, #[.int .i64 1, .int .i64 2])])) (fun _ a _ => M.toNat - (intOf a).toNat)
      case atStart => exact ⟨0, 0, rfl, rfl, by have := HM.out; simp; omega, Lib.hid (by have := HM.out; simp; omega), hj⟩
      case round =>
        clear hj
        obtain ⟨k, N, rfl, rfl, hk, hN, hj⟩ := hrel
        obtain ⟨b0, b1⟩ := (hj.out.bx 0 rfl).c2
        obtain ⟨s0, s1⟩ := (hj.out.bx 1 rfl).c2
        obtain ⟨a0, a1⟩ := (hj.out.bx 2 rfl).c2
        by_cases hlt2 : (k : Int) < M
        · have hNb : 0 ≤ N ∧ N ≤ 255 := by have := HM.out; have := hN.out; omega
          have e4 : IntKind.i64.wrap ((k : Int) + 1) = ((k + 1 : Nat) : Int) := by have := HM.out; rw [IntWalk.i64_in _ (by omega)]; rfl
          have e5 : IntKind.i64.wrap (N + 1) = N + 1 := IntWalk.i64_in _ (by omega)
          have HAN := Lib.hid (HAg.out N (by omega) (by omega))
          have ways : (ag ⟨0, N⟩ ⟨1, 2⟩ true mo = true ∧ gg ⟨0, N⟩ ⟨1, 2⟩ true mo = ⟨0, N + 1⟩ ∧ N + 1 = min ((k + 1 : Nat) : Int) mo) ∨ (ag ⟨0, N⟩ ⟨1, 2⟩ true mo = false ∧ gg ⟨0, N⟩ ⟨1, 2⟩ true mo = ⟨0, N⟩ ∧ N = min ((k + 1 : Nat) : Int) mo) := by
            have h0 : ag ⟨0, N⟩ ⟨1, 2⟩ true mo = decide (N < mo) := by simp [ag, aj, sh, wd]
            have h1 : gg ⟨0, N⟩ ⟨1, 2⟩ true mo = if ag ⟨0, N⟩ ⟨1, 2⟩ true mo then ⟨0, N + 1⟩ else ⟨0, N⟩ := rfl
            rw [h1, h0]
            have := HM.out
            have := hN.out
            by_cases h : N < mo
            · exact .inl ⟨by simpa using h, by simp [h], by simp only [Int.natCast_add]; omega⟩
            · exact .inr ⟨by simpa using h, by simp [h], by simp only [Int.natCast_add]; omega⟩
          clear hNb hN
          generalize ag ⟨0, N⟩ ⟨1, 2⟩ true mo = B at *
          generalize gg ⟨0, N⟩ ⟨1, 2⟩ true mo = g2 at *
          rcases ways with ⟨rfl, rfl, k1⟩ | ⟨rfl, rfl, k1⟩
          · have HN := Lib.hid k1
            have HSN := Lib.hid (HS.out (N + 1))
            unfold Gat.val at HAN
            simp only at HAN
            clear k1
            go_wp2_with (first
              | (go_at_call 11; (with_reducible refine (HAN.out _).mono ?_); clear HAN a0 a1 b0 b1 s0 s1; rintro e w4 ⟨rfl, h4⟩; have hj4 := Lib.hid ((hj.out.next h4).push #[.int .i64 0, .int .i64 (N + 1)] 27); clear h4; obtain ⟨m0, m1⟩ := (hj4.out.bx 0 rfl).c2; obtain ⟨a0, a1⟩ := (hj4.out.bx 3 rfl).c2)
              | (go_at_call 10; (with_reducible refine (HSN.out _).mono ?_); clear HSN a0 a1 m0 m1; rintro e w5 ⟨rfl, h5⟩; have hj5 := Lib.hid (jdrop (hj4.out.next h5)); clear h5 hj4; obtain ⟨b0, b1⟩ := (hj5.out.bx 0 rfl).c2; obtain ⟨f0, f1⟩ := (hj5.out.bx 0 rfl).f2))
            go_roundw
            case rel => exact ⟨k + 1, N + 1, rfl, rfl, by simp only [Int.natCast_add]; omega, HN, Lib.hid (Lef.jfill2 hj5.out hX2 hne.out)⟩
            case measure => simp [intOf]; omega
          · have HN := Lib.hid k1
            have HSN := Lib.hid (HS.out N)
            unfold Gat.val at HAN
            simp only at HAN
            clear k1
            go_wp2_with (first
              | (go_at_call 11; (with_reducible refine (HAN.out _).mono ?_); clear HAN a0 a1 b0 b1 s0 s1; rintro e w4 ⟨rfl, h4⟩; have hj4 := Lib.hid ((hj.out.next h4).push #[.int .i64 0, .int .i64 N] 27); clear h4; obtain ⟨m0, m1⟩ := (hj4.out.bx 0 rfl).c2; obtain ⟨a0, a1⟩ := (hj4.out.bx 3 rfl).c2)
              | (go_at_call 10; (with_reducible refine (HSN.out _).mono ?_); clear HSN a0 a1 m0 m1; rintro e w5 ⟨rfl, h5⟩; have hj5 := Lib.hid (jdrop (hj4.out.next h5)); clear h5 hj4; obtain ⟨b0, b1⟩ := (hj5.out.bx 0 rfl).c2; obtain ⟨f0, f1⟩ := (hj5.out.bx 0 rfl).f2))
            go_roundw
            case rel => exact ⟨k + 1, N, rfl, rfl, by simp only [Int.natCast_add]; omega, HN, Lib.hid (Lef.jfill2 hj5.out hX2 hne.out)⟩
            case measure => simp [intOf]; omega
        · obtain rfl : N = mo := by have := HM.out; have := hN.out; omega
          have HSN := Lib.hid (HS0.out N)
          clear hN
          go_wp2_with (go_at_call 10; (with_reducible refine (HSN.out _).mono ?_); clear HSN a0 a1 b0 b1 s0 s1; rintro e w5 ⟨rfl, h5⟩; have hj5 := Lib.hid (hj.out.next h5); clear h5 hj; obtain ⟨b0, b1⟩ := (hj5.out.bx 0 rfl).c2; obtain ⟨f0, f1⟩ := (hj5.out.bx 0 rfl).f2)
          go_roundw
          case rel => exact ⟨r + 1, rfl, by simp only [Int.natCast_add]; omega, Lib.hid (Lef.jfill2 hj5.out hX2 hne.out)⟩
          case measure => simp [intOf]; omega
    · go_wp2
      go_ret
      exact ⟨rfl, hj.out.below⟩

end Go.Proofs.Ytaknnkmdfimcbaa.Walk
