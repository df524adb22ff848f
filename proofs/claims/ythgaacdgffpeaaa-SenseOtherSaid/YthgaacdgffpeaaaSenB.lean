/- The reference of layer 18; awake. -/
import Derived.Test.YthgaacdgffpeaaaSenA
import Derived.Test.YthgaacdgffpeaaaOpenB
import Derived.Test.YthgaacdgffpeaaaPlain
import Derived.LoopN
namespace Go.Proofs.Ythgaacdgffpeaaa.Sen
open Go.RowKit Go.Proofs.Ythgaacdgffpeaaa.SenP Go.Proofs.Ythgaacdgffpeaaa.Box Go.Proofs.Ythgaacdgffpeaaa.Held Go.Proofs.Ythgaacdgffpeaaa.Sees Go.Proofs.Ythgaacdgffpeaaa.Open
set_option linter.unusedVariables false

theorem bools_at (l : List Bool) (j : Nat) (h : j < l.length) : (bools l)[j]? = some (.bool (l[j]?.getD false)) := by
  simp [bools, h]

set_option maxHeartbeats 3200000 in
theorem good_any (m : Int) (g : Bool) (hm : 1 ≤ m) (hm2 : m ≤ 200) (z : List Bool) (A : Option Addr) (n cap : Nat) (hn : n ≤ z.length) (h1 : n ≤ 1000) (w : World) (hs : Sees w w.heap.size A (bools z)) :
    Calls Try.prog 9 #[.bool g, .slice A n cap, .int .i64 m] w fun e w' => e = .returned (.tuple #[.bool (rn m g (z.take n)).1.g, .bool (rn m g (z.take n)).2]) ∧ w = w' := by
  have HS := Lib.hid hs
  have HM := Lib.hid (⟨hm, hm2⟩ : 1 ≤ m ∧ m ≤ 200)
  have HN := Lib.hid (⟨hn, h1⟩ : n ≤ z.length ∧ n ≤ 1000)
  obtain ⟨⟨⟨pg, pc⟩, pb⟩, hp⟩ : ∃ p, rn m g (z.take n) = p := ⟨_, rfl⟩
  rw [hp]
  have HP := Lib.hid hp
  simp only
  clear hs hm hm2 hn h1 hp
  go_enter Try.func9, Try.ntmps9
  go_wp2
  go_loopw [0, 8, 9, 10] (fun a c t i wr => ∃ (k : Nat) (q : S) (b : Bool), i = .int .i64 k ∧ k ≤ n ∧ a = .bool q.g ∧ c = .int .i64 q.c ∧ t = .bool b ∧ Hid (rn m g (z.take k) = (q, b)) ∧ wr = w) (fun _ _ _ i _ => n - (intOf i).toNat)
  case atStart => exact ⟨0, ⟨g, 0⟩, false, rfl, Nat.zero_le _, rfl, rfl, rfl, Lib.hid rfl, rfl⟩
  case round =>
    obtain ⟨k, ⟨qg, qc⟩, b, rfl, hk, rfl, rfl, rfl, hq, rfl⟩ := hrel
    simp only at *
    by_cases hlt : k < n
    · have hkz : k < z.length := Nat.lt_of_lt_of_le hlt HN.out.1
      have hmay := rn_may m g HM.out.1 (z.take k)
      rw [hq.out] at hmay
      simp only at hmay
      have hsn := rn_snoc m g (z.take k) (z[k]?.getD false)
      rw [← Plain.take_snoc z k hkz false, hq.out] at hsn
      obtain ⟨bb, o, rfl, hbB, hcell⟩ := HS.out.at_ (bools_at z k hkz)
      generalize z[k]?.getD false = x at *
      have HQ := Lib.hid hsn
      have i1 : (k : Int) < (n : Int) := by omega
      have e3 : IntKind.i64.wrap ((k : Int) + 1) = ((k + 1 : Nat) : Int) := by have := HN.out.2; rw [IntWalk.i64_in _ (by omega)]; rfl
      have e1 : IntKind.i64.wrap (qc + 1) = qc + 1 := by have := HM.out.2; exact IntWalk.i64_in _ (by omega)
      have hways : x = qg ∨ (x = !qg ∧ qc + 1 < m) ∨ (x = !qg ∧ ¬ qc + 1 < m) := by
        by_cases k : x = qg
        · exact .inl k
        · have : x = !qg := by cases x <;> cases qg <;> simp_all
          by_cases k1 : qc + 1 < m
          · exact .inr (.inl ⟨this, k1⟩)
          · exact .inr (.inr ⟨this, k1⟩)
      clear hmay hsn hq hkz
      rcases hways with rfl | ⟨rfl, k1⟩ | ⟨rfl, k1⟩
      · have kx : (x == x) = true := by simp
        go_wp2
        go_roundw
        case rel => exact ⟨k + 1, ⟨x, 0⟩, false, rfl, by omega, rfl, rfl, rfl, Lib.hid (by rw [HQ.out]; simp [st, tn]), trivial⟩
        case measure => simp [intOf]; omega
      · have hgf : ¬ (!qg) = qg := by cases qg <;> decide
        have kx : (!qg == qg) = false := by cases qg <;> rfl
        have k2 : ¬ m ≤ qc + 1 := by omega
        have HK := Lib.hid k1
        clear k1
        go_wp2
        go_roundw
        case rel => exact ⟨k + 1, ⟨qg, qc + 1⟩, false, rfl, by omega, rfl, rfl, rfl, Lib.hid (by rw [HQ.out]; simp [st, tn, hgf, HK.out]), trivial⟩
        case measure => simp [intOf]; omega
      · have hgf : ¬ (!qg) = qg := by cases qg <;> decide
        have kx : (!qg == qg) = false := by cases qg <;> rfl
        have k2 : m ≤ qc + 1 := by omega
        have HK := Lib.hid k1
        clear k1
        go_wp2
        go_roundw
        case rel => exact ⟨k + 1, ⟨!qg, 0⟩, true, rfl, by omega, rfl, rfl, rfl, Lib.hid (by rw [HQ.out]; simp [st, tn, hgf, HK.out]), trivial⟩
        case measure => simp [intOf]; omega
    · obtain rfl : k = n := by omega
      have := hq.out
      rw [HP.out] at this
      injection this with e1 e2
      injection e1 with e1 e3
      subst e1 e2 e3
      go_wp2
      go_ret2
      exact ⟨rfl, rfl⟩

set_option maxHeartbeats 1600000 in
theorem awake_any (w : World) : Calls Try.prog 7 #[] w (Says w (.bool true)) := by
  have H1 : Hid (∀ W, Calls Try.prog 8 #[.agg #[.bool true, .int .i64 0], .bool false, .int .i64 2] W (Says W (.tuple #[.agg #[.bool true, .int .i64 1], .bool false]))) := Lib.hid fun W => step_as true 0 false 2 (by decide) (by decide) W
  have H2 : Hid (∀ W, Calls Try.prog 8 #[.agg #[.bool true, .int .i64 1], .bool false, .int .i64 2] W (Says W (.tuple #[.agg #[.bool false, .int .i64 0], .bool true]))) := Lib.hid fun W => step_as true 1 false 2 (by decide) (by decide) W
  go_enter Try.func7, Try.ntmps7
  go_wp2_with (first
    | (go_at_call 8; (with_reducible refine (H1.out _).mono ?_); clear H1; rintro e w1 ⟨rfl, h1⟩; have hj1 := Lib.hid (((J.start w).next h1).push #[.bool true, .int .i64 1] 25); clear h1; obtain ⟨a0, a1⟩ := (hj1.out.bx 0 rfl).c2)
    | (go_at_call 8; (with_reducible refine (H2.out _).mono ?_); clear H2 a0 a1; rintro e w2 ⟨rfl, h2⟩; have hj2 := Lib.hid ((hj1.out.next h2).push #[.bool false, .int .i64 0] 25); clear h2; obtain ⟨a0, a1⟩ := (hj2.out.bx 1 rfl).c2; obtain ⟨b0, b1⟩ := (hj2.out.bx 0 rfl).c2))
  go_ret
  exact ⟨rfl, hj2.out.below⟩

end Go.Proofs.Ythgaacdgffpeaaa.Sen
