/- The contract of layer 10's reference for what is known. -/
import Derived.Test.YthgfjikhbgippaaDoorFedT
import Derived.Test.YthgfjikhbgippaaDoorSees
namespace Go.Proofs.YthgfjikhbgippaaDoor.Fed
open Go.RowKit Go.Proofs.YthgfjikhbgippaaDoor.FedP Go.Proofs.YthgfjikhbgippaaDoor.Box Go.Proofs.YthgfjikhbgippaaDoor.Held Go.Proofs.YthgfjikhbgippaaDoor.Sees
set_option linter.unusedVariables false

/-- what is known of the first m of these -/
def kn (n m : Nat) (z : List Int) : Int := if m ≤ n then 0 else bo (z[m - 1 - n]?.getD 0) 0 1048576

set_option maxHeartbeats 1600000 in
theorem refKnown_any (lag : Int) (n : Nat) (hn : bo lag 0 8 = n) (z : List Int) (a : Option Addr) (m cap : Nat) (hm : m ≤ z.length) (h1 : m ≤ 1000) (w : World) (hs : Sees w w.heap.size a (nums .i64 z)) :
    Calls Tryd.prog 18 #[.int .i64 lag, .slice a m cap] w fun e w' => e = .returned (.int .i64 (kn n m z)) ∧ w = w' := by
  have hlag : (lag < 0 ∧ n = 0) ∨ (8 < lag ∧ n = 8) ∨ (¬ lag < 0 ∧ ¬ 8 < lag ∧ lag = n) := by unfold bo at hn; omega
  have hn8 : n ≤ 8 := by omega
  have e1 : IntKind.i64.wrap ((m : Int) - 1) = (m : Int) - 1 := IntWalk.i64_in _ (by omega)
  clear hn
  by_cases hk : m ≤ n
  · have e2 : IntKind.i64.wrap ((m : Int) - 1 - n) = (m : Int) - 1 - n := IntWalk.i64_in _ (by omega)
    have e3 : (m : Int) - 1 - n < 0 := by omega
    have ek : kn n m z = 0 := by unfold kn; rw [if_pos hk]
    rw [ek]
    clear ek hs hm
    rcases hlag with ⟨g1, rfl⟩ | ⟨g1, rfl⟩ | ⟨g1, g2, rfl⟩
    · simp only [Int.natCast_zero, Int.sub_zero] at e2 e3
      go_enter Tryd.func18, Tryd.ntmps18
      go_wp2
      go_ret
      exact ⟨rfl, rfl⟩
    · have g2 : ¬ lag < 0 := by omega
      go_enter Tryd.func18, Tryd.ntmps18
      go_wp2
      go_ret
      exact ⟨rfl, rfl⟩
    · go_enter Tryd.func18, Tryd.ntmps18
      go_wp2
      go_ret
      exact ⟨rfl, rfl⟩
  · have e2 : IntKind.i64.wrap ((m : Int) - 1 - n) = (m : Int) - 1 - n := IntWalk.i64_in _ (by omega)
    have e4 : ¬ (m : Int) - 1 - n < 0 := by omega
    have e5 : (m : Int) - 1 - n < m := by omega
    have hlt : m - 1 - n < z.length := by omega
    obtain ⟨b, o, rfl, hb, hc⟩ := hs.at_ (nums_at .i64 z (m - 1 - n) hlt)
    obtain ⟨v, hv⟩ : ∃ v, z[m - 1 - n]?.getD 0 = v := ⟨_, rfl⟩
    have ek : kn n m z = bo v 0 1048576 := by unfold kn; rw [if_neg hk, hv]
    rw [hv] at hc
    rw [ek]
    clear ek hs hm hv hlt hb hk
    by_cases v0 : v < 0
    · rw [show bo v 0 1048576 = 0 by unfold bo; omega]
      rcases hlag with ⟨g1, rfl⟩ | ⟨g1, rfl⟩ | ⟨g1, g2, rfl⟩
      · simp only [Int.natCast_zero, Int.sub_zero, Nat.sub_zero] at e2 e4 e5 hc
        go_enter Tryd.func18, Tryd.ntmps18
        go_wp2
        go_ret
        exact ⟨rfl, rfl⟩
      · have g2 : ¬ lag < 0 := by omega
        go_enter Tryd.func18, Tryd.ntmps18
        go_wp2
        go_ret
        exact ⟨rfl, rfl⟩
      · go_enter Tryd.func18, Tryd.ntmps18
        go_wp2
        go_ret
        exact ⟨rfl, rfl⟩
    · by_cases v1 : 1048576 < v
      · rw [show bo v 0 1048576 = 1048576 by unfold bo; omega]
        rcases hlag with ⟨g1, rfl⟩ | ⟨g1, rfl⟩ | ⟨g1, g2, rfl⟩
        · simp only [Int.natCast_zero, Int.sub_zero, Nat.sub_zero] at e2 e4 e5 hc
          go_enter Tryd.func18, Tryd.ntmps18
          go_wp2
          go_ret
          exact ⟨rfl, rfl⟩
        · have g2 : ¬ lag < 0 := by omega
          go_enter Tryd.func18, Tryd.ntmps18
          go_wp2
          go_ret
          exact ⟨rfl, rfl⟩
        · go_enter Tryd.func18, Tryd.ntmps18
          go_wp2
          go_ret
          exact ⟨rfl, rfl⟩
      · rw [show bo v 0 1048576 = v by unfold bo; omega]
        rcases hlag with ⟨g1, rfl⟩ | ⟨g1, rfl⟩ | ⟨g1, g2, rfl⟩
        · simp only [Int.natCast_zero, Int.sub_zero, Nat.sub_zero] at e2 e4 e5 hc
          go_enter Tryd.func18, Tryd.ntmps18
          go_wp2
          go_ret
          exact ⟨rfl, rfl⟩
        · have g2 : ¬ lag < 0 := by omega
          go_enter Tryd.func18, Tryd.ntmps18
          go_wp2
          go_ret
          exact ⟨rfl, rfl⟩
        · go_enter Tryd.func18, Tryd.ntmps18
          go_wp2
          go_ret
          exact ⟨rfl, rfl⟩

end Go.Proofs.YthgfjikhbgippaaDoor.Fed
