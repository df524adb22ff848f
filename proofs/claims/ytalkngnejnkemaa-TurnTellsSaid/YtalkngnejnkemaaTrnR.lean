/- The reference of layer 20. -/
import Derived.Test.YtalkngnejnkemaaOrdR0
import Derived.Test.YtalkngnejnkemaaTrnD
namespace Go.Proofs.Ytalkngnejnkemaa.Trn
open Go.RowKit Go.Proofs.Ytalkngnejnkemaa.Plain Go.Proofs.Ytalkngnejnkemaa.OrdP Go.Proofs.Ytalkngnejnkemaa.TrnP Go.Proofs.Ytalkngnejnkemaa.Ord Go.Proofs.Ytalkngnejnkemaa.Sees Go.Proofs.Ytalkngnejnkemaa.Box Go.Proofs.Ytalkngnejnkemaa.Held
set_option linter.unusedVariables false

theorem ruOf_any (c p : Int) (w : World) : Calls Try.prog 22 #[.int .i64 c, .int .i64 p] w (Says w (val (bg c p))) := by
  by_cases h : c < 0
  · rw [bg_neg p h]
    unfold val no
    simp only
    go_enter Try.func22, Try.ntmps22
    go_wp2
    refine bodyPost_ret (v := .agg #[.int .i64 (-1), .int .i64 0]) (by simp [results, Try.results22, go_sem, *]) rfl ⟨rfl, below_box⟩
  · rw [bg_pos p (by omega)]
    by_cases k : p < 1
    · rw [show max 1 p = 1 by omega]
      unfold val
      simp only
      go_enter Try.func22, Try.ntmps22
      go_wp2
      refine bodyPost_ret (v := .agg #[.int .i64 c, .int .i64 1]) (by simp [results, Try.results22, go_sem, *]) rfl ⟨rfl, below_box⟩
    · rw [show max 1 p = p by omega]
      unfold val
      simp only
      go_enter Try.func22, Try.ntmps22
      go_wp2
      refine bodyPost_ret (v := .agg #[.int .i64 c, .int .i64 p]) (by simp [results, Try.results22, go_sem, *]) rfl ⟨rfl, below_box⟩

theorem no_up {r : Nat} {c k : Int} (h : ∀ y, c < y → y < k → hb r y = false) (hk : hb r k = false) : ∀ y, c < y → y < k + 1 → hb r y = false := fun y h1 h2 => by
  by_cases e : y = k
  · rw [e]; exact hk
  · exact h y h1 (by omega)

set_option maxHeartbeats 1600000 in
theorem ruNext_any (c : Int) (r : Nat) (hr : r < 18446744073709551616) (h0 : -1000 ≤ c) (h1 : c ≤ 63) (w : World) : Calls Try.prog 23 #[.int .i64 c, .int .u64 r] w fun e w' => e = .returned (.int .i64 (nb r c)) ∧ w = w' := by
  have HH : Hid (∀ x W, Calls Try.prog 21 #[.int .u64 r, .int .i64 x] W fun e w' => e = .returned (.bool (hb r x)) ∧ W = w') := Lib.hid fun x W => roHas_any r x W hr
  have e1 : IntKind.i64.wrap (c + 1) = c + 1 := IntWalk.i64_in _ (by omega)
  obtain ⟨q, hq⟩ : ∃ q, nb r c = q := ⟨_, rfl⟩
  rw [hq]
  have HQ := Lib.hid hq
  have HC := Lib.hid (And.intro h0 h1)
  clear hq hr
  go_enter Try.func23, Try.ntmps23
  go_wp2
  clear h0 h1
  go_loop [5] (fun x => ∃ k : Int, x = .int .i64 k ∧ c < k ∧ k ≤ 64 ∧ Hid (∀ y, c < y → y < k → hb r y = false)) (fun x => (64 - intOf x).toNat)
  case atStart => exact ⟨c + 1, rfl, by omega, by have := HC.out; omega, Lib.hid fun y a b => by omega⟩
  case round =>
    clear e1
    obtain ⟨k, rfl, hck, hk, hM⟩ := hrel
    by_cases hlt : k < 64
    · have e2 : IntKind.i64.wrap (k + 1) = k + 1 := IntWalk.i64_in _ (by have := HC.out; omega)
      have HK := Lib.hid hck
      clear hck
      by_cases hneg : 0 ≤ k
      · have HA := Lib.hid (HH.out k)
        obtain ⟨h, hh⟩ : ∃ h, hb r k = h := ⟨_, rfl⟩
        rw [hh] at HA
        have HG := Lib.hid hh
        clear hh
        cases h
        · go_wp2_with (go_at_call 21; refine (HA.out _).mono ?_; rintro e w' ⟨rfl, rfl⟩)
          go_round
          case rel => exact ⟨k + 1, rfl, by have := HK.out; omega, by omega, Lib.hid (no_up hM.out HG.out)⟩
          case measure => simp [intOf]; omega
        · go_wp2_with (go_at_call 21; refine (HA.out _).mono ?_; rintro e w' ⟨rfl, rfl⟩)
          go_ret
          exact ⟨ret_int ((nb_up HC.out.2 HK.out HG.out hM.out).symm.trans HQ.out), rfl⟩
      · have hneg' : decide (0 ≤ k) = false := by simpa using hneg
        go_wp2
        go_round
        case rel => exact ⟨k + 1, rfl, by have := HK.out; omega, by omega, Lib.hid (no_up hM.out (by
          cases e : hb r k
          · rfl
          · exact absurd (hb_ge e) hneg))⟩
        case measure => simp [intOf]; omega
    · have hall : Hid (∀ y, c < y → hb r y = false) := Lib.hid fun y hy => by
        by_cases a : y < k
        · exact hM.out y hy a
        · cases e : hb r y
          · rfl
          · have := inb_iff.1 (hb_in e); omega
      clear hM hck hk
      go_wp2
      go_loop [6] (fun x => ∃ m : Nat, x = .int .i64 m ∧ m ≤ 64 ∧ Hid (∀ y, y < (m : Int) → hb r y = false)) (fun x => (64 - intOf x).toNat)
      case atStart => exact ⟨0, rfl, by omega, Lib.hid fun y hy => by
        cases e : hb r y
        · rfl
        · have := hb_ge e; omega⟩
      case round =>
        obtain ⟨m, rfl, hm, hM2⟩ := hrel
        by_cases hlt2 : m < 64
        · have i1 : (m : Int) < 64 := by omega
          have e3 : IntKind.i64.wrap ((m : Int) + 1) = ((m + 1 : Nat) : Int) := by rw [IntWalk.i64_in _ (by omega)]; rfl
          have HA := Lib.hid (HH.out (m : Int))
          obtain ⟨h, hh⟩ : ∃ h, hb r (m : Int) = h := ⟨_, rfl⟩
          rw [hh] at HA
          have HG := Lib.hid hh
          clear hh
          cases h
          · go_wp2_with (go_at_call 21; refine (HA.out _).mono ?_; rintro e w' ⟨rfl, rfl⟩)
            go_round
            case rel => exact ⟨m + 1, rfl, by omega, Lib.hid fun y hy => by
              by_cases e : y = m
              · rw [e]; exact HG.out
              · exact hM2.out y (by omega)⟩
            case measure => simp [intOf]; omega
          · go_wp2_with (go_at_call 21; refine (HA.out _).mono ?_; rintro e w' ⟨rfl, rfl⟩)
            go_ret
            refine ⟨ret_int ((nb_low HC.out.2 ?_ HG.out hall.out hM2.out).symm.trans HQ.out), rfl⟩
            by_cases a : (m : Int) ≤ c
            · exact a
            · have h1 := hall.out m (by omega)
              rw [HG.out] at h1
              cases h1
        · go_wp2
          go_ret
          refine ⟨ret_int ((nb_none c fun y => ?_).symm.trans HQ.out), rfl⟩
          by_cases a : y < (m : Int)
          · exact hM2.out y a
          · cases e : hb r y
            · rfl
            · have := inb_iff.1 (hb_in e); omega

set_option maxHeartbeats 1600000 in
theorem ruStep_any (t : T) (r : Nat) (b : Bool) (p : Int) (hr : r < 18446744073709551616) (h0 : -1000 ≤ t.c) (h1 : t.c ≤ 63) (h2 : 0 ≤ t.l) (h3 : t.l ≤ 1000) (w : World) :
    Calls Try.prog 9 #[val t, .int .u64 r, .bool b, .int .i64 p] w (Says w (val (st t r b p))) := by
  have HH : Hid (∀ W, Calls Try.prog 21 #[.int .u64 r, .int .i64 t.c] W fun e w' => e = .returned (.bool (hb r t.c)) ∧ W = w') := Lib.hid fun W => roHas_any r t.c W hr
  have HN : Hid (∀ W, Calls Try.prog 23 #[.int .i64 t.c, .int .u64 r] W fun e w' => e = .returned (.int .i64 (nb r t.c)) ∧ W = w') := Lib.hid fun W => ruNext_any t.c r hr h0 h1 W
  have HB : Hid (∀ W, Calls Try.prog 22 #[.int .i64 (nb r t.c), .int .i64 p] W (Says W (val (bg (nb r t.c) p)))) := Lib.hid fun W => ruOf_any _ p W
  have hj := Lib.hid (J.two w (arr t) #[.int .i64 0, .int .i64 0] 28 28)
  unfold st
  generalize hb r t.c = h at *
  generalize bg (nb r t.c) p = u at *
  generalize nb r t.c = q at *
  obtain ⟨c, l⟩ := t
  obtain ⟨uc, ul⟩ := u
  unfold val arr at *
  simp only at *
  obtain ⟨m, hm⟩ : ∃ m, l - 1 = m := ⟨_, rfl⟩
  have e1 : IntKind.i64.wrap (l - 1) = m := by rw [IntWalk.i64_in _ (by omega)]; exact hm
  clear hr h0 h1 h2 h3
  cases h
  · simp only [if_true]
    go_enter Try.func9, Try.ntmps9
    go_wp2_with (first
      | (go_at_call 21; refine (HH.out _).mono ?_; rintro e w' ⟨rfl, rfl⟩)
      | (go_at_call 23; refine (HN.out _).mono ?_; rintro e w' ⟨rfl, rfl⟩)
      | (go_at_call 22; (with_reducible refine (HB.out _).mono ?_); rintro e w1 ⟨rfl, h1⟩; have hj1 := Lib.hid (hj.out.next h1); clear h1 hj; obtain ⟨g0, g1⟩ := (hj1.out.bx 0 rfl).c2; obtain ⟨g2, g3⟩ := (hj1.out.bx 0 rfl).f2))
    have hj3 := (hj1.out.set 0 (.int .i64 uc) (X := w.heap.size + 1) (by omega)).set 1 (.int .i64 ul) (X := w.heap.size + 1) (by omega)
    refine bodyPost_ret (v := .agg #[.int .i64 uc, .int .i64 ul]) (by simp [results, Try.results9, go_sem, *]) rfl ⟨rfl, hj3.below⟩
  · cases b
    · by_cases k : l ≤ 1
      · have k1 : m < 1 := by omega
        rw [if_neg (by decide), if_neg (by decide), if_pos k]
        clear k hm
        have hj0 := Lib.hid (J.two w #[.int .i64 c, .int .i64 m] #[.int .i64 0, .int .i64 0] 28 28)
        clear hj
        go_enter Try.func9, Try.ntmps9
        go_wp2_with (first
          | (go_at_call 21; refine (HH.out _).mono ?_; rintro e w' ⟨rfl, rfl⟩)
          | (go_at_call 23; refine (HN.out _).mono ?_; rintro e w' ⟨rfl, rfl⟩)
          | (go_at_call 22; (with_reducible refine (HB.out _).mono ?_); rintro e w1 ⟨rfl, h1⟩; have hj1 := Lib.hid (hj0.out.next h1); clear h1 hj0; obtain ⟨g0, g1⟩ := (hj1.out.bx 0 rfl).c2; obtain ⟨g2, g3⟩ := (hj1.out.bx 0 rfl).f2))
        have hj3 := (hj1.out.set 0 (.int .i64 uc) (X := w.heap.size + 1) (by omega)).set 1 (.int .i64 ul) (X := w.heap.size + 1) (by omega)
        refine bodyPost_ret (v := .agg #[.int .i64 uc, .int .i64 ul]) (by simp [results, Try.results9, go_sem, *]) rfl ⟨rfl, hj3.below⟩
      · have k1 : ¬ m < 1 := by omega
        rw [if_neg (by decide), if_neg (by decide), if_neg k, hm]
        clear k hm
        go_enter Try.func9, Try.ntmps9
        go_wp2_with (go_at_call 21; refine (HH.out _).mono ?_; rintro e w' ⟨rfl, rfl⟩)
        refine bodyPost_ret (v := .agg #[.int .i64 c, .int .i64 m]) (by simp [results, Try.results9, go_sem, *]) rfl ⟨rfl, ?_⟩
        exact below_two
    · rw [if_neg (by decide), if_pos rfl]
      go_enter Try.func9, Try.ntmps9
      go_wp2_with (go_at_call 21; refine (HH.out _).mono ?_; rintro e w' ⟨rfl, rfl⟩)
      refine bodyPost_ret (v := .agg #[.int .i64 c, .int .i64 l]) (by simp [results, Try.results9, go_sem, *]) rfl ⟨rfl, ?_⟩
      exact below_two

set_option maxHeartbeats 1600000 in
theorem ruPick_any (t : T) (k : Int) (r : Nat) (b : Bool) (p : Int) (hr : r < 18446744073709551616) (w : World) :
    Calls Try.prog 11 #[val t, .int .i64 k, .int .u64 r, .bool b, .int .i64 p] w (Says w (.tuple #[val (pk t k r b p), .bool (!b && hb r k)])) := by
  have HH : Hid (∀ W, Calls Try.prog 21 #[.int .u64 r, .int .i64 k] W fun e w' => e = .returned (.bool (hb r k)) ∧ W = w') := Lib.hid fun W => roHas_any r k W hr
  have HB : Hid (∀ W, Calls Try.prog 22 #[.int .i64 k, .int .i64 p] W (Says W (val (bg k p)))) := Lib.hid fun W => ruOf_any k p W
  have hj := Lib.hid (J.two w (arr t) #[.int .i64 0, .int .i64 0] 28 28)
  unfold pk
  generalize hb r k = h at *
  generalize bg k p = u at *
  obtain ⟨c, l⟩ := t
  obtain ⟨uc, ul⟩ := u
  unfold val arr at *
  simp only at *
  clear hr
  cases b
  · cases h
    · simp only [Bool.not_false, Bool.or_true, if_true, Bool.and_false]
      go_enter Try.func11, Try.ntmps11
      go_wp2_with (go_at_call 21; refine (HH.out _).mono ?_; rintro e w' ⟨rfl, rfl⟩)
      refine bodyPost_ret (v := .tuple #[.agg #[.int .i64 c, .int .i64 l], .bool false]) (by simp [results, Try.results11, go_sem, *]) rfl ⟨rfl, below_two⟩
    · simp only [Bool.not_true, Bool.or_self, Bool.false_eq_true, if_false, Bool.not_false, Bool.and_self]
      go_enter Try.func11, Try.ntmps11
      go_wp2_with (first
        | (go_at_call 21; refine (HH.out _).mono ?_; rintro e w' ⟨rfl, rfl⟩)
        | (go_at_call 22; (with_reducible refine (HB.out _).mono ?_); rintro e w1 ⟨rfl, h1⟩; have hj1 := Lib.hid (hj.out.next h1); clear h1 hj; obtain ⟨g0, g1⟩ := (hj1.out.bx 0 rfl).c2; obtain ⟨g2, g3⟩ := (hj1.out.bx 0 rfl).f2))
      have hj3 := (hj1.out.set 0 (.int .i64 uc) (X := w.heap.size + 1) (by omega)).set 1 (.int .i64 ul) (X := w.heap.size + 1) (by omega)
      refine bodyPost_ret (v := .tuple #[.agg #[.int .i64 uc, .int .i64 ul], .bool true]) (by simp [results, Try.results11, go_sem, *]) rfl ⟨rfl, hj3.below⟩
  · simp only [Bool.true_or, if_true, Bool.not_true, Bool.false_and]
    go_enter Try.func11, Try.ntmps11
    go_wp2_with (go_at_call 21; refine (HH.out _).mono ?_; rintro e w' ⟨rfl, rfl⟩)
    refine bodyPost_ret (v := .tuple #[.agg #[.int .i64 c, .int .i64 l], .bool false]) (by simp [results, Try.results11, go_sem, *]) rfl ⟨rfl, below_two⟩
end Go.Proofs.Ytalkngnejnkemaa.Trn
