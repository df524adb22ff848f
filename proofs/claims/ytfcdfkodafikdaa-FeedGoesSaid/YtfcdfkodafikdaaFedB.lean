/- Contracts of layer 10's reference for the switch. -/
import Derived.Test.YtfcdfkodafikdaaFedA
namespace Go.Proofs.Ytfcdfkodafikdaa.Fed
open Go.RowKit Go.Proofs.Ytfcdfkodafikdaa.FedP Go.Proofs.Ytfcdfkodafikdaa.Box Go.Proofs.Ytfcdfkodafikdaa.Held
set_option linter.unusedVariables false

theorem of_any (f : F) (w : World) : Calls Try.prog 11 #[val f] w (Says w (val f)) := by
  obtain ⟨a, t, l⟩ := f
  unfold val
  simp only
  go_enter Try.func11, Try.ntmps11
  go_wp2
  refine bodyPost_ret (v := .agg #[.int .i64 a, .int .i64 t, .int .i64 l]) (by simp [results, Try.results11, go_sem, *]) rfl ⟨rfl, below_two⟩

set_option maxHeartbeats 800000 in
theorem refPower_any (f : F) (mains gen : Bool) (w : World) : Calls Try.prog 14 #[val f, .bool mains, .bool gen] w (Says w (.int .i64 (pw f.a mains gen))) := by
  obtain ⟨a, t, l⟩ := f
  unfold pw val
  simp only
  by_cases k1 : a = 1
  · rw [if_pos k1]
    subst k1
    cases mains <;>
    · simp only [if_true, Bool.false_eq_true, if_false]
      go_enter Try.func14, Try.ntmps14
      go_wp2
      go_ret
      exact ⟨rfl, below_box⟩
  · rw [if_neg k1]
    have j1 : (a == 1) = false := by simpa using k1
    by_cases k2 : a = 2
    · rw [if_pos k2]
      subst k2
      cases gen <;>
      · simp only [if_true, Bool.false_eq_true, if_false]
        go_enter Try.func14, Try.ntmps14
        go_wp2
        go_ret
        exact ⟨rfl, below_box⟩
    · rw [if_neg k2]
      have j2 : (a == 2) = false := by simpa using k2
      go_enter Try.func14, Try.ntmps14
      go_wp2
      go_ret
      exact ⟨rfl, below_box⟩

set_option maxHeartbeats 1600000 in
theorem refStep_any (f : F) (h : f.l < 9223372036854775808) (want : Int) (still : Bool) (dead : Int) (w : World) : Calls Try.prog 12 #[val f, .int .i64 want, .bool still, .int .i64 dead] w (Says w (val (st f want still dead))) := by
  obtain ⟨a, t, l⟩ := f
  simp only at h
  by_cases ha : a = 1 ∨ a = 2
  · obtain ⟨b, hb⟩ : ∃ b, (a == 1) = b := ⟨_, rfl⟩
    have hb2 : b = true ∨ (a == 2) = true := by rw [← hb]; simpa using ha
    have e0 : st ⟨a, t, l⟩ want still dead = if goes a want still = true then ⟨0, want, bd dead⟩ else ⟨a, t, l⟩ := by
      unfold st; rw [if_pos (by unfold src; simpa using ha)]
    rw [e0]
    clear e0 ha
    unfold goes val
    simp only
    by_cases k1 : want = a
    · rw [decide_eq_false (by simp [k1]), if_neg (by simp)]
      subst k1
      rcases hb2 with rfl | hb2
      all_goals
        go_enter Try.func12, Try.ntmps12
        go_wp2
        try cases b
        all_goals
          refine bodyPost_ret (v := .agg #[.int .i64 want, .int .i64 t, .int .i64 l]) (by simp [results, Try.results12, go_sem, *]) rfl ⟨rfl, below_two⟩
    · have j1 : (want == a) = false := by simpa using k1
      have fin : ∀ (x y z : Int), Hid ((if decide (¬ want = a ∧ src want = true ∧ still = true) = true then (⟨0, want, bd dead⟩ : F) else ⟨a, t, l⟩) = ⟨x, y, z⟩) → val (if decide (¬ want = a ∧ src want = true ∧ still = true) = true then (⟨0, want, bd dead⟩ : F) else ⟨a, t, l⟩) = .agg #[.int .i64 x, .int .i64 y, .int .i64 z] := fun x y z h => by rw [h.out]; rfl
      unfold val at fin
      by_cases k2 : want < 1
      · have e := fin a t l (Lib.hid (by rw [decide_eq_false, if_neg (by simp)]; unfold src; simp; omega))
        rw [e]
        clear e fin
        rcases hb2 with rfl | hb2
        all_goals
          go_enter Try.func12, Try.ntmps12
          go_wp2
          try cases b
          all_goals
            refine bodyPost_ret (v := .agg #[.int .i64 a, .int .i64 t, .int .i64 l]) (by simp [results, Try.results12, go_sem, *]) rfl ⟨rfl, below_two⟩
      · by_cases k3 : 2 < want
        · have e := fin a t l (Lib.hid (by rw [decide_eq_false, if_neg (by simp)]; unfold src; simp; omega))
          rw [e]
          clear e fin
          rcases hb2 with rfl | hb2
          all_goals
            go_enter Try.func12, Try.ntmps12
            go_wp2
            try cases b
            all_goals
              refine bodyPost_ret (v := .agg #[.int .i64 a, .int .i64 t, .int .i64 l]) (by simp [results, Try.results12, go_sem, *]) rfl ⟨rfl, below_two⟩
        · have hs : src want = true := by unfold src; simp; omega
          cases still with
          | false =>
            have e := fin a t l (Lib.hid (by rw [decide_eq_false (by simp), if_neg (by simp)]))
            rw [e]
            clear e fin hs
            rcases hb2 with rfl | hb2
            all_goals
              go_enter Try.func12, Try.ntmps12
              go_wp2
              try cases b
              all_goals
                refine bodyPost_ret (v := .agg #[.int .i64 a, .int .i64 t, .int .i64 l]) (by simp [results, Try.results12, go_sem, *]) rfl ⟨rfl, below_two⟩
          | true =>
            have e := fin 0 want (bd dead) (Lib.hid (by rw [decide_eq_true ⟨k1, hs, rfl⟩, if_pos rfl]))
            rw [e]
            clear e fin hs
            by_cases k4 : dead < 1
            · rw [show bd dead = 1 by unfold bd bo; omega]
              rcases hb2 with rfl | hb2
              all_goals
                go_enter Try.func12, Try.ntmps12
                go_wp2
                try cases b
                all_goals
                  refine bodyPost_ret (v := .agg #[.int .i64 0, .int .i64 want, .int .i64 1]) (by simp [results, Try.results12, go_sem, *]) rfl ⟨rfl, below_two⟩
            · by_cases k5 : 200 < dead
              · rw [show bd dead = 200 by unfold bd bo; omega]
                rcases hb2 with rfl | hb2
                all_goals
                  go_enter Try.func12, Try.ntmps12
                  go_wp2
                  try cases b
                  all_goals
                    refine bodyPost_ret (v := .agg #[.int .i64 0, .int .i64 want, .int .i64 200]) (by simp [results, Try.results12, go_sem, *]) rfl ⟨rfl, below_two⟩
              · rw [show bd dead = dead by unfold bd bo; omega]
                rcases hb2 with rfl | hb2
                all_goals
                  go_enter Try.func12, Try.ntmps12
                  go_wp2
                  try cases b
                  all_goals
                    refine bodyPost_ret (v := .agg #[.int .i64 0, .int .i64 want, .int .i64 dead]) (by simp [results, Try.results12, go_sem, *]) rfl ⟨rfl, below_two⟩
  · have j1 : (a == 1) = false := by simp; omega
    have j2 : (a == 2) = false := by simp; omega
    have e0 : st ⟨a, t, l⟩ want still dead = nr ⟨a, t, l⟩ := by
      unfold st; rw [if_neg (by unfold src; simpa using ha)]
    rw [e0]
    clear e0 ha
    unfold nr
    simp only
    by_cases k : 1 < l
    · rw [if_pos k]
      obtain ⟨m, hm⟩ : ∃ m, l - 1 = m := ⟨_, rfl⟩
      have e2 : IntKind.i64.wrap (l - 1) = m := by rw [hm]; exact IntWalk.i64_in _ (by omega)
      rw [hm]
      clear hm
      unfold val
      simp only
      go_enter Try.func12, Try.ntmps12
      go_wp2
      refine bodyPost_ret (v := .agg #[.int .i64 a, .int .i64 t, .int .i64 m]) (by simp [results, Try.results12, go_sem, *]) rfl ⟨rfl, below_two⟩
    · rw [if_neg k]
      by_cases k2 : t = 2
      · subst k2
        rw [if_pos src_2]
        unfold val
        simp only
        go_enter Try.func12, Try.ntmps12
        go_wp2
        refine bodyPost_ret (v := .agg #[.int .i64 2, .int .i64 0, .int .i64 0]) (by simp [results, Try.results12, go_sem, *]) rfl ⟨rfl, below_two⟩
      · have e : (if src t = true then (⟨t, 0, 0⟩ : F) else ⟨1, 0, 0⟩) = ⟨1, 0, 0⟩ := by
          split
          · rename_i h; rcases src_yes h with rfl | rfl
            · rfl
            · exact absurd rfl k2
          · rfl
        have j3 : (t == 2) = false := by simpa using k2
        rw [e]
        clear e
        unfold val
        simp only
        go_enter Try.func12, Try.ntmps12
        go_wp2
        refine bodyPost_ret (v := .agg #[.int .i64 1, .int .i64 0, .int .i64 0]) (by simp [results, Try.results12, go_sem, *]) rfl ⟨rfl, below_two⟩

end Go.Proofs.Ytfcdfkodafikdaa.Fed
