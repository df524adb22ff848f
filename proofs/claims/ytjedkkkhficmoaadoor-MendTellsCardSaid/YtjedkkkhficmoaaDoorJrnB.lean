/- The contract of torn. -/
import Derived.Test.YtjedkkkhficmoaaDoorJrnA
import Derived.Test.YtjedkkkhficmoaaDoorHeld
namespace Go.Proofs.YtjedkkkhficmoaaDoor.Jrn
open Go.RowKit Go.Proofs.YtjedkkkhficmoaaDoor.Plain Go.Proofs.YtjedkkkhficmoaaDoor.Sees Go.Proofs.YtjedkkkhficmoaaDoor.Oct Go.Proofs.YtjedkkkhficmoaaDoor.Crc Go.Proofs.YtjedkkkhficmoaaDoor.Box Go.Proofs.YtjedkkkhficmoaaDoor.Held Go.Proofs.YtjedkkkhficmoaaDoor.JrnP
set_option linter.unusedVariables false
set_option maxRecDepth 100000

/-- bytes cut at their end, at their head -/
theorem slice_hiB (A : Option Addr) (n cap s : Nat) (h : s ≤ cap) :
    (∀ W, (Instr.sliceAt 22 (.slice A n cap) none (some (.int .i64 (s : Int))) none).run Tryd.prog W = .ok (.slice A s cap) W) ∧
    (∀ W, (Instr.slice 22 (.slice A n cap) none (some (.int .i64 (s : Int))) none).run Tryd.prog W = .ok (.slice A s cap) W) := by
  have hu : Tryd.prog.underlying 22 = some (.slice (Tryd.prog.elem 22)) := by kernel_rfl
  have h2 : ∀ W, (Instr.slice 22 (.slice A n cap) none (some (.int .i64 (s : Int))) none).run Tryd.prog W = .ok (.slice A s cap) W := fun W => by
    have hs : (sizeOf (Tryd.prog.elem 22)).run Tryd.prog W = .ok 1 W := by kernel_rfl
    rw [run_slice_h W 22 A n cap hu .i64 (s : Int) (by omega) (by omega), hs]
    simp only [Result.andThen, sliced]
    congr 2
    split
    · rfl
    · cases A <;> simp [Addr.add]
  exact ⟨fun W => by rw [run_sliceAt_slice W _ _ _ _ _ hu]; exact h2 W, h2⟩
theorem slice_loB (A : Option Addr) (n cap s : Nat) (h : s ≤ n) (hc : n ≤ cap) : ∃ A3 : Option Addr,
    (∀ W, (Instr.sliceAt 22 (.slice A n cap) (some (.int .i64 (s : Int))) none none).run Tryd.prog W = .ok (.slice A3 (n - s) (cap - s)) W) ∧
    (∀ W, (Instr.slice 22 (.slice A n cap) (some (.int .i64 (s : Int))) none none).run Tryd.prog W = .ok (.slice A3 (n - s) (cap - s)) W) ∧
    (∀ W B (l : List Int), l.length = n → Sees W B A (nums .u8 l) → Sees W B A3 (nums .u8 (l.drop s))) := by
  have hu : Tryd.prog.underlying 22 = some (.slice (Tryd.prog.elem 22)) := by kernel_rfl
  have h2 : ∀ W, (Instr.slice 22 (.slice A n cap) (some (.int .i64 (s : Int))) none none).run Tryd.prog W = .ok (.slice (if cap = s then A else A.map (·.add s)) (n - s) (cap - s)) W := fun W => by
    have hs : (sizeOf (Tryd.prog.elem 22)).run Tryd.prog W = .ok 1 W := by kernel_rfl
    rw [run_slice_l W 22 A n cap hu .i64 (s : Int) (by omega) (by omega), hs]
    simp [Result.andThen, sliced]
  refine ⟨if cap = s then A else A.map (·.add s), fun W => ?_, h2, fun W B l hl hs => ?_⟩
  · rw [run_sliceAt_slice W _ _ _ _ _ hu]; exact h2 W
  · have := sees_cut (c := cap) hs s (by rw [nums_length, hl]; exact hc)
    simpa [nums, List.map_drop] using this

set_option maxHeartbeats 1600000 in
theorem torn_any (z y : List Int) (A1 A2 : Option Addr) (m1 c1 m2 c2 n : Nat) (w : World) (hl1 : z.length = m1) (hl2 : y.length = m2) (hc1 : m1 ≤ c1) (hm1 : c1 ≤ maxLen) (hc2 : m2 ≤ c2) (h1 : m1 ≤ 1000000) (h2 : m2 ≤ 1000000)
    (hn : n ≤ 9223372036854775807)
    (ht1 : TS w 5 A1 (nums .u8 z)) (hs2 : Sees w w.heap.size A2 (nums .u8 y)) (hb1 : ∀ b ∈ z, 0 ≤ b ∧ b ≤ 255) (hb2 : ∀ b ∈ y, 0 ≤ b ∧ b ≤ 255) :
    Calls Tryd.prog 31 #[.slice A1 m1 c1, .slice A2 m2 c2, .int .i64 n] w (FB w (torn z y n).length (torn z y n)) := by
  by_cases hle : m1 ≤ n
  · have ht : torn z y n = z := by unfold torn; rw [if_pos (by omega)]
    rw [ht, hl1]
    have hle' : (m1 : Int) ≤ (n : Int) := by omega
    go_enter Tryd.func31, Tryd.ntmps31
    go_wp2
    go_ret
    exact ⟨A1, c1, rfl, hc1, hm1, ht1, Below.refl _ _⟩
  · have hs1 := ht1.sees
    have ht : torn z y n = z.take n ++ y.drop n := by unfold torn; rw [if_neg (by omega)]
    have hq : y.drop n = y.drop (min n m2) := by
      by_cases h : n ≤ m2
      · rw [Nat.min_eq_left h]
      · rw [Nat.min_eq_right (by omega), List.drop_eq_nil_of_le (by omega), List.drop_eq_nil_of_le (by omega)]
    have mn : ∀ W, (Builtin.min_ #[3, 3] 3 #[.int .i64 (n : Int), .int .i64 (m2 : Int)]).run Tryd.prog W = .ok (.int .i64 ((min n m2 : Nat) : Int)) W := fun W => by
      rw [run_min_int2]; congr 2; split <;> omega
    have hqm : min n m2 ≤ m2 := by omega
    generalize min n m2 = q at *
    obtain ⟨k1, k2⟩ := slice_hiB A1 m1 c1 n (by omega)
    obtain ⟨A3, k3, k4, k5⟩ := slice_loB A2 m2 c2 q hqm hc2
    have hs3 := k5 w w.heap.size y hl2 hs2
    have hs0 : Sees w w.heap.size A1 (nums .u8 (z.take n)) := by
      rcases hs1 with h | ⟨b, o, ha, hb, hc⟩
      · exact .inl (by simp [nums] at h; simp [h, nums])
      · refine .inr ⟨b, o, ha, hb, fun j u hu => hc j u ?_⟩
        simp only [nums, List.getElem?_map, List.getElem?_take] at hu ⊢
        split at hu
        · exact hu
        · simp at hu
    have hz0 : (z.take n).length = n := by simp; omega
    have hy0 : (y.drop q).length = m2 - q := by simp; omega
    have HT : Hid (torn z y n = flatB [⟨A1, c1, z.take n⟩, ⟨A3, c2 - q, y.drop q⟩] ∧ (torn z y n).length = n + (m2 - q)) := Lib.hid ⟨by rw [ht, hq]; simp [flatB], by rw [ht, hq, List.length_append, hz0, hy0]⟩
    have HC : Hid (∀ W, Below w.heap.size w W → Calls Tryd.prog 42 #[.slice (some ⟨W.heap.size, 0, none⟩) 2 2] (W.alloc (.cells #[.slice A1 n c1, .slice A3 (m2 - q) (c2 - q)] 22)) (FB (W.alloc (.cells #[.slice A1 n c1, .slice A3 (m2 - q) (c2 - q)] 22)) (n + (m2 - q)) (torn z y n))) := Lib.hid fun W hW => by
      have h := bConcat_any 2 2 (n + (m2 - q)) (some ⟨W.heap.size, 0, none⟩) [⟨A1, c1, z.take n⟩, ⟨A3, c2 - q, y.drop q⟩] (W.alloc (.cells #[.slice A1 n c1, .slice A3 (m2 - q) (c2 - q)] 22)) rfl (by omega) (by rw [← HT.out.2, HT.out.1]; rfl) (by omega)
        (.inr ⟨W.heap.size, 0, rfl, by simp, fun j u hu => by
          rw [Nat.zero_add]
          refine (Bx.new W #[.slice A1 n c1, .slice A3 (m2 - q) (c2 - q)] 22).cell ?_
          have e : ([⟨A1, c1, z.take n⟩, ⟨A3, c2 - q, y.drop q⟩] : List RowV).map RowV.val = [.slice A1 n c1, .slice A3 (m2 - q) (c2 - q)] := by simp only [List.map_cons, List.map_nil, RowV.val, hz0, hy0]
          rw [e] at hu
          simpa using hu⟩)
        (fun r hr => by
          have hW2 : Below w.heap.size w (W.alloc (.cells #[.slice A1 n c1, .slice A3 (m2 - q) (c2 - q)] 22)) := hW.alloc hW.size _
          simp only [List.mem_cons, List.not_mem_nil, or_false] at hr
          rcases hr with rfl | rfl
          · exact ⟨by simp only; omega, sees_next hs0 hW2, fun b hb => hb1 b (List.mem_of_mem_take hb)⟩
          · exact ⟨by simp only; omega, sees_next hs3 hW2, fun b hb => hb2 b (List.mem_of_mem_drop hb)⟩)
      rwa [← HT.out.1] at h
    rw [HT.out.2]
    have hle' : ¬ (m1 : Int) ≤ (n : Int) := by omega
    clear hs0 hs3 hs1 ht1 hs2 hl1 hl2 hb1 hb2 ht hq k5 hz0 hy0 HT
    generalize torn z y n = t at *
    have hj : Hid (JS w [] w) := Lib.hid (J.start w)
    obtain ⟨r, hr⟩ : ∃ r, m2 - q = r := ⟨_, rfl⟩
    obtain ⟨d, hd⟩ : ∃ d, c2 - q = d := ⟨_, rfl⟩
    rw [hr, hd] at k3 k4 HC
    rw [hr]
    go_enter Tryd.func31, Tryd.ntmps31
    go_wp2
    refine wp_region_tail 9 _ JS.closed hj.out (by kernel_rfl) (by kernel_rfl) ?_
    simp only [List.take_succ_cons, List.take_zero, List.drop_succ_cons, List.drop_zero]
    apply Exists.intro
    refine ⟨fun w1 h1 => ?_, fun W1 hJ1 hb1 => ?_⟩
    · haveI := Ext.some h1
      repeat go_big_quiet_step (fail)
      exact wpQuiet_nil rfl
    · have HCW := Lib.hid (HC.out W1 (J.below hJ1))
      have hB := Lib.hid (J.below hJ1)
      clear HC hJ1 hb1 k1 k2 k3 k4 mn hj
      change wpList _ _ _ _ _ _
      go_wp2_with (go_at_call 42; (with_reducible refine HCW.out.mono ?_); rintro e w2 ⟨A5, c5, rfl, hc5, hm5, hs5, hb5⟩)
      go_ret
      exact ⟨A5, c5, rfl, hc5, hm5, hs5, (hB.out.alloc hB.out.size _).trans (hb5.mono (by have := hB.out.size; simp; omega))⟩

end Go.Proofs.YtjedkkkhficmoaaDoor.Jrn
