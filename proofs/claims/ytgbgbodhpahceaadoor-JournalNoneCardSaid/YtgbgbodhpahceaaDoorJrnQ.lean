/- Plain: what is told of two places behind writes. -/
import Derived.Test.YtgbgbodhpahceaaDoorJrnG
import Derived.Test.YtgbgbodhpahceaaDoorJrnK
namespace Go.Proofs.YtgbgbodhpahceaaDoor.Jrn
open Go.RowKit Go.Proofs.YtgbgbodhpahceaaDoor.Plain Go.Proofs.YtgbgbodhpahceaaDoor.Oct Go.Proofs.YtgbgbodhpahceaaDoor.Crc Go.Proofs.YtgbgbodhpahceaaDoor.JrnP Go.Proofs.YtgbgbodhpahceaaDoor.Open Go.Proofs.YtgbgbodhpahceaaDoor.LgrP
set_option linter.unusedVariables false
set_option maxRecDepth 100000

/-- bytes -/
def By (z : List Int) : Prop := ∀ b ∈ z, 0 ≤ b ∧ b ≤ 255
theorem By.nil : By [] := fun b h => by cases h
theorem parts_head {bs r0 : List Int} {rs : List (List Int)} (hb : By bs) (h : parts bs = some (r0 :: rs)) : ∃ N : Nat, r0 = (bs.drop 2).take N ∧ r0.length = N ∧ 2 + N ≤ bs.length ∧ parts (bs.drop (2 + N)) = some rs := by
  by_cases h0 : bs.length = 0
  · have : bs = [] := List.eq_nil_of_length_eq_zero h0
    subst this
    rw [parts_nil] at h
    cases h
  · by_cases h1 : bs.length = 1
    · rw [parts_one bs h1] at h; cases h
    · obtain ⟨N, hN, _⟩ := ofB_two bs (by omega) hb
      rw [parts_step bs N (by omega) hN] at h
      by_cases hf : bs.length < 2 + N
      · rw [if_pos hf] at h; cases h
      · rw [if_neg hf] at h
        rcases hq : parts (bs.drop (2 + N)) with _ | qs
        · rw [hq] at h; cases h
        · rw [hq] at h
          injection h with h
          injection h with h2 h3
          subst h2 h3
          exact ⟨N, rfl, by simp; omega, by omega, hq⟩
theorem opn_take {z pre : List Int} (h : opn z = some pre) : 4 ≤ z.length ∧ pre = z.take (z.length - 4) := by
  unfold opn at h
  split at h
  · rename_i hc
    injection h with h
    exact ⟨hc.1, h.symm⟩
  · cases h
/-- whose sum is theirs, and whose rows are a ledger's -/
theorem get_form {z : List Int} (hb : By z) (h : (JrnP.get z).e = 0) : 26 ≤ z.length ∧ (JrnP.get z).s = ofB ((z.drop 2).take 8) := by
  unfold JrnP.get at h ⊢
  split at h
  · exact absurd h (by decide)
  · rename_i pre hp
    have ho := opn_take hp
    have hbp : By pre := fun b hb2 => hb b (by rw [ho.2] at hb2; exact List.mem_of_mem_take hb2)
    have hl : pre.length = z.length - 4 := by rw [ho.2, List.length_take]; omega
    split at h
    · exact absurd h (by decide)
    · rename_i rows hr
      try rw [hr]
      try simp only
      by_cases hf : isF rows = true
      · obtain ⟨r0, r1, r2, rfl, h0, h1, h2⟩ := isF_rows hf
        obtain ⟨N0, e0, l0, k0, p0⟩ := parts_head hbp hr
        have hb0 : By (pre.drop (2 + N0)) := fun b hb2 => hbp b (List.mem_of_mem_drop hb2)
        obtain ⟨N1, e1, l1, k1, p1⟩ := parts_head hb0 p0
        have hb1 : By ((pre.drop (2 + N0)).drop (2 + N1)) := fun b hb2 => hb0 b (List.mem_of_mem_drop hb2)
        obtain ⟨N2, e2, l2, k2, p2⟩ := parts_head hb1 p1
        rw [List.length_drop] at k1
        rw [List.length_drop, List.length_drop] at k2
        refine ⟨by omega, ?_⟩
        have hN : N0 = 8 := by omega
        subst hN
        rw [getR_yes h0 h1 h2] at h ⊢
        split at h
        · rename_i hm
          rw [if_pos hm, e0, ho.2]
          simp only
          rw [List.drop_take, List.take_take]
          congr 2
          omega
        · exact absurd h (by decide)
      · rw [getR_no (by simpa using hf)] at h
        exact absurd h (by decide)
theorem get_short {z : List Int} (hb : By z) (h : z.length < 26) : (JrnP.get z).e ≠ 0 := fun he => by
  have := (get_form hb he).1
  omega

/-- who is told -/
theorem load_none {z0 z1 : List Int} (h0 : (JrnP.get z0).e ≠ 0) (h1 : (JrnP.get z1).e ≠ 0) : JrnP.load z0 z1 = bad 0 := by
  unfold JrnP.load
  rw [best_no (.inl h0), best_no (.inl h1)]
theorem best_ge {p : Int} {x y : G} : x.s ≤ (best p x y).s := by
  unfold best
  split
  · rename_i h; exact Int.le_of_lt h.2.2
  · exact Int.le_refl _
theorem best_ge2 {p : Int} {x y : G} (h1 : y.e = 0) (h2 : y.s % 2 = p) : y.s ≤ (best p x y).s := by
  unfold best
  split
  · exact Int.le_refl _
  · rename_i h
    exact Int.not_lt.1 fun hlt => h ⟨h1, h2, hlt⟩
theorem load_ge0 {z0 z1 : List Int} (h1 : (JrnP.get z0).e = 0) (h2 : (JrnP.get z0).s % 2 = 0) : (JrnP.get z0).s ≤ (JrnP.load z0 z1).s := Int.le_trans (best_ge2 h1 h2) best_ge
theorem load_ge1 {z0 z1 : List Int} (h1 : (JrnP.get z1).e = 0) (h2 : (JrnP.get z1).s % 2 = 1) : (JrnP.get z1).s ≤ (JrnP.load z0 z1).s := best_ge2 h1 h2
theorem load_even {z0 z1 : List Int} {b m s : Int} {l : List Pm} (h0 : JrnP.get z0 = ⟨0, b, m, l, s⟩) (hs : s % 2 = 0) (hp : 0 < s) (h1 : (JrnP.get z1).e = 0 → (JrnP.get z1).s % 2 = 1 → (JrnP.get z1).s ≤ s) : JrnP.load z0 z1 = ⟨0, b, m, l, s⟩ := by
  unfold JrnP.load
  have e0 : best 0 (bad 0) (JrnP.get z0) = ⟨0, b, m, l, s⟩ := by rw [h0]; exact best_yes rfl hs hp
  rw [e0]
  refine best_no ?_
  by_cases h2 : (JrnP.get z1).e = 0
  · by_cases h3 : (JrnP.get z1).s % 2 = 1
    · exact .inr (.inr (by have := h1 h2 h3; simp only; omega))
    · exact .inr (.inl h3)
  · exact .inl h2
theorem load_odd {z0 z1 : List Int} {b m s : Int} {l : List Pm} (h1 : JrnP.get z1 = ⟨0, b, m, l, s⟩) (hs : s % 2 = 1) (hp : 0 < s) (h0 : (JrnP.get z0).e = 0 → (JrnP.get z0).s % 2 = 0 → (JrnP.get z0).s < s) : JrnP.load z0 z1 = ⟨0, b, m, l, s⟩ := by
  unfold JrnP.load
  rw [h1]
  refine best_yes rfl hs ?_
  simp only
  by_cases hc : (JrnP.get z0).e = 0 ∧ (JrnP.get z0).s % 2 = 0 ∧ (bad 0).s < (JrnP.get z0).s
  · rw [best_yes hc.1 hc.2.1 hc.2.2]
    exact h0 hc.1 hc.2.1
  · rw [show best 0 (bad 0) (JrnP.get z0) = bad 0 from if_neg hc]
    exact hp

/-- behind a write -/
theorem load_in {z0 z1 : List Int} (h0 : By z0) (h1 : By z1) : 0 ≤ (JrnP.load z0 z1).s ∧ (JrnP.load z0 z1).s ≤ 18446744073709551615 := fold_in z0 z1 h0 h1 2
theorem nxt_eq {z0 z1 : List Int} (h0 : By z0) (h1 : By z1) (h : (JrnP.load z0 z1).s < 18446744073709551615) : nxt z0 z1 = (JrnP.load z0 z1).s + 1 := by
  have := load_in h0 h1
  unfold nxt u
  omega
theorem wr_by {z0 z1 : List Int} (h0 : By z0) (h1 : By z1) (b m : Int) (l : List Pm) : By (wr0 z0 z1 b m l) ∧ By (wr1 z0 z1 b m l) := by
  unfold wr0 wr1
  refine ⟨?_, ?_⟩ <;> split
  · exact put_in _ _ _ _
  · exact h0
  · exact h1
  · exact put_in _ _ _ _
theorem wr_load {z0 z1 : List Int} (h0 : By z0) (h1 : By z1) (h : (JrnP.load z0 z1).s < 18446744073709551615) {b m : Int} {l : List Pm} (hm : may b m l = true) (hl : l.length ≤ 8000) :
    JrnP.load (wr0 z0 z1 b m l) (wr1 z0 z1 b m l) = ⟨0, b, m, l, (JrnP.load z0 z1).s + 1⟩ := by
  have hn := nxt_eq h0 h1 h
  have hi := load_in h0 h1
  have hg := get_put (b := b) (m := m) (l := l) (s := (JrnP.load z0 z1).s + 1) hm hl (by omega)
  unfold wr0 wr1
  rw [hn]
  by_cases hp : ((JrnP.load z0 z1).s + 1) % 2 = 0
  · rw [if_pos hp, if_pos hp]
    exact load_even hg hp (by omega) fun a c => by have := load_ge1 (z0 := z0) a c; omega
  · rw [if_neg hp, if_neg hp]
    exact load_odd hg (by omega) (by omega) fun a c => by have := load_ge0 (z1 := z1) a c; omega
theorem may_of {x : Lg} (h : mayB x = true) : may x.b x.m x.l = true := by
  unfold may
  unfold mayB at h ⊢
  simp only [Bool.and_eq_true] at h ⊢
  exact ⟨⟨⟨⟨h.1.1.1.1, h.1.1.1.2⟩, by decide⟩, h.1.2⟩, h.2⟩

end Go.Proofs.YtgbgbodhpahceaaDoor.Jrn
