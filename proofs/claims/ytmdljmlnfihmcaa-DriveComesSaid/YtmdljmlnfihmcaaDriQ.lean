/- Plain mathematics of a run: a car that is driven from rest to a floor, tick by tick. No program is named here. -/
import Derived.Test.YtmdljmlnfihmcaaDriP
namespace Go.Proofs.Ytmdljmlnfihmcaa.DriP
open Go.RowKit Go.Proofs.Ytmdljmlnfihmcaa.CarP
set_option linter.unusedVariables false

/-- from where to where, which way, how far, how fast at most, in which shaft -/
structure Trip (s far p0 f m N : Int) : Prop where
  hs : (s = 1 ∧ 0 < far) ∨ (s = -1 ∧ 0 < far) ∨ (s = 0 ∧ far = 0)
  hw : f * 8 - p0 = s * far
  a0 : 0 ≤ p0
  a1 : p0 ≤ 8 * N - 8
  f0 : 0 ≤ f
  f1 : f ≤ N - 1
  n2 : 2 ≤ N
  n3 : N ≤ 32
  m1 : 1 ≤ m
  m8 : m ≤ 8

/-- on the way, or braked at its end -/
def Run (s far p0 f m p v : Int) (n : Nat) : Prop :=
  (∃ g u : Int, p = p0 + s * g ∧ v = s * u ∧ PlaP.Safe m u (far - g) ∧ 0 ≤ g ∧ n + PlaP.S m u (far - g) = PlaP.S m 0 far ∧ (far = 0 → u = 0)) ∨
  (p = f * 8 ∧ v = 0 ∧ n = PlaP.S m 0 far + 1 ∧ 0 < far)

theorem run_start {s far p0 f m N : Int} (h : Trip s far p0 f m N) : Run s far p0 f m p0 0 0 := by
  have hf : 0 ≤ far := by rcases h.hs with k | k | k <;> omega
  refine .inl ⟨0, 0, by rw [Int.mul_zero]; omega, by rw [Int.mul_zero], ?_, Int.le_refl _, by rw [Int.sub_zero, Nat.zero_add], fun _ => rfl⟩
  rw [Int.sub_zero]
  exact PlaP.Safe.new h.m1 h.m8 hf

theorem tp_in {N : Int} (h : 2 ≤ N) (k : N ≤ 32) : tp N = 8 * N - 8 := by unfold tp; rw [cl_id h k]; omega
theorem tick_go {p v x N : Int} (hx : v - 1 ≤ x) (hx1 : x ≤ v + 1) (h8 : -8 ≤ x) (h9 : x ≤ 8) (h0 : 0 ≤ p + x) (h1 : p + x ≤ tp N) : tick ⟨p, v, 0⟩ x false N = ⟨p + x, x, 0⟩ := by
  have e : mg v x = x := by unfold mg; rw [cl_id hx hx1, cl_id h8 h9]
  show go ⟨p, v, 0⟩ x N = _
  unfold go
  simp only [e]
  rw [cl_id h0 h1, if_pos rfl]

theorem run_cases {s far p0 f m N p v : Int} {n : Nat} (hx : Trip s far p0 f m N) (h : Run s far p0 f m p v n) :
    (0 ≤ p ∧ p ≤ 248) ∧ (-8 ≤ v ∧ v ≤ 8) ∧ (n : Int) ≤ far + 1 ∧
    ((th ⟨p, v, 0⟩ f = true ∧ n ≤ PlaP.S m 0 far + 1 ∧ PlaP.S m 0 far ≤ n ∧ (0 < far ∨ n = 0)) ∨
     (th ⟨p, v, 0⟩ f = false ∧ ∃ p' v', tick ⟨p, v, 0⟩ (vl ⟨p, v, 0⟩ f m true) (br ⟨p, v, 0⟩ f m true) N = ⟨p', v', 0⟩ ∧
       0 ≤ vl ⟨p, v, 0⟩ f m true * s ∧ vl ⟨p, v, 0⟩ f m true * s ≤ m ∧ (br ⟨p, v, 0⟩ f m true = true ∨ (br ⟨p, v, 0⟩ f m true = false ∧ v' = vl ⟨p, v, 0⟩ f m true)) ∧
       0 ≤ (p' - p) * s ∧ (p' - p) * s ≤ 8 ∧ Run s far p0 f m p' v' (n + 1))) := by
  obtain ⟨hs, hw, a0, a1, f0, f1, n2, n3, m1, m8⟩ := hx
  have hf : 0 ≤ far := by rcases hs with k | k | k <;> omega
  have hT := (PlaP.S_le far.toNat (PlaP.Safe.new m1 m8 hf) (by omega)).1
  rcases h with ⟨g, u, hp, hv, hsafe, g0, hn, hu⟩ | ⟨hp, hv, hn, hfar⟩
  · have hl0 := hsafe.l0
    have hu0 := hsafe.v0
    have hum := hsafe.vm
    have hnn : (n : Int) ≤ far + 1 := by omega
    have hpb : 0 ≤ p ∧ p ≤ 248 := by rcases hs with ⟨k, _⟩ | ⟨k, _⟩ | ⟨k, k2⟩ <;> subst k <;> omega
    have hvb : -8 ≤ v ∧ v ≤ 8 := by rcases hs with ⟨k, _⟩ | ⟨k, _⟩ | ⟨k, k2⟩ <;> subst k <;> omega
    have hwy : wy ⟨p, v, 0⟩ f = f * 8 - p := rfl
    refine ⟨hpb, hvb, hnn, ?_⟩
    by_cases hl : 0 < far - g
    · right
      obtain ⟨q1, q2, q3, q4⟩ := hsafe.next
      have hst := PlaP.S_step hsafe hl
      have hx1 := q1.v0
      have hxm := q1.vm
      have hxl := q1.l0
      have hnx : nn ⟨p, v, 0⟩ f m = PlaP.nx u (far - g) m := by
        have e1 : sz (K.v ⟨p, v, 0⟩) = u := by
          show sz v = u
          unfold sz
          rcases hs with ⟨k, _⟩ | ⟨k, _⟩ | ⟨k, k2⟩ <;> subst k <;> split <;> omega
        have e2 : sz (wy ⟨p, v, 0⟩ f) = far - g := by
          rw [hwy]
          unfold sz
          rcases hs with ⟨k, _⟩ | ⟨k, _⟩ | ⟨k, k2⟩ <;> subst k <;> split <;> omega
        unfold nn
        rw [e1, e2]
        exact PlaP.Nx_id hu0 (by omega) hl0 (by rcases hs with ⟨k, _⟩ | ⟨k, _⟩ | ⟨k, k2⟩ <;> subst k <;> omega) m1 m8
      have hvl := vl_cases ⟨p, v, 0⟩ f m
      rw [hnx, hwy] at hvl
      have hrun : Run s far p0 f m (p + s * PlaP.nx u (far - g) m) (s * PlaP.nx u (far - g) m) (n + 1) := by
        refine .inl ⟨g + PlaP.nx u (far - g) m, PlaP.nx u (far - g) m, by rw [hp, Int.mul_add]; omega, rfl, ?_, by omega, ?_, fun k => by omega⟩
        · rw [show far - (g + PlaP.nx u (far - g) m) = far - g - PlaP.nx u (far - g) m by omega]; exact q1
        · rw [show far - (g + PlaP.nx u (far - g) m) = far - g - PlaP.nx u (far - g) m by omega]; omega
      have hth : th ⟨p, v, 0⟩ f = false := by
        have : ¬ wy ⟨p, v, 0⟩ f = 0 := by rw [hwy]; rcases hs with ⟨k, _⟩ | ⟨k, _⟩ | ⟨k, k2⟩ <;> subst k <;> omega
        unfold th; simp [this]
      refine ⟨hth, ?_⟩
      generalize PlaP.nx u (far - g) m = x at *
      have hx0 : 0 < x := by omega
      have hdx : decide (x = 0) = false := by simp; omega
      rw [hdx] at hvl
      rcases hs with ⟨k, kf⟩ | ⟨k, kf⟩ | ⟨k, k2⟩
      · subst k
        have hV : vl ⟨p, v, 0⟩ f m true = x ∧ br ⟨p, v, 0⟩ f m true = false := by
          rcases hvl with h | h | h | h | h
          · exfalso; omega
          · exfalso; have := h.2.1; simp only at this; omega
          · exfalso; omega
          · exact ⟨h.2.2.1, h.2.2.2⟩
          · exfalso; omega
        rw [hV.1, hV.2]
        rw [Int.one_mul] at hrun
        exact ⟨p + x, x, tick_go (by omega) (by omega) (by omega) (by omega) (by omega) (by rw [tp_in n2 n3]; omega), by omega, by omega, .inr ⟨rfl, rfl⟩, by omega, by omega, hrun⟩
      · subst k
        have hV : vl ⟨p, v, 0⟩ f m true = -x ∧ br ⟨p, v, 0⟩ f m true = false := by
          rcases hvl with h | h | h | h | h
          · exfalso; omega
          · exfalso; omega
          · exfalso; have := h.2.1; simp only at this; omega
          · exfalso; omega
          · exact ⟨h.2.2.1, h.2.2.2⟩
        rw [hV.1, hV.2]
        rw [show -1 * x = -x by omega] at hrun
        exact ⟨p + -x, -x, tick_go (by omega) (by omega) (by omega) (by omega) (by omega) (by rw [tp_in n2 n3]; omega), by omega, by omega, .inr ⟨rfl, rfl⟩, by omega, by omega, hrun⟩
      · exfalso; omega
    · have hg : far - g = 0 := by omega
      rw [hg] at hsafe hn
      have hS0 : PlaP.S m u 0 = 0 := PlaP.S_nil (Int.le_refl _)
      have hu1 := hsafe.stop
      have hp8 : p = f * 8 := by rcases hs with ⟨k, _⟩ | ⟨k, _⟩ | ⟨k, k2⟩ <;> subst k <;> omega
      have hw0 : wy ⟨p, v, 0⟩ f = 0 := by rw [hwy]; omega
      by_cases hu00 : u = 0
      · left
        have hv0 : v = 0 := by rw [hv, hu00, Int.mul_zero]
        refine ⟨by unfold th; rw [hw0]; simp [hv0], by omega, by omega, ?_⟩
        rcases hs with ⟨k, kf⟩ | ⟨k, kf⟩ | ⟨k, k2⟩
        · exact .inl kf
        · exact .inl kf
        · right
          rw [hS0, k2, PlaP.S_nil (Int.le_refl _)] at hn
          omega
      · right
        have hfar : 0 < far := by
          rcases hs with ⟨k, kf⟩ | ⟨k, kf⟩ | ⟨k, k2⟩
          · exact kf
          · exact kf
          · exact absurd (hu k2) hu00
        have hv0 : v ≠ 0 := by rcases hs with ⟨k, _⟩ | ⟨k, _⟩ | ⟨k, k2⟩ <;> subst k <;> omega
        have hV : vl ⟨p, v, 0⟩ f m true = 0 ∧ br ⟨p, v, 0⟩ f m true = true := by
          rcases vl_cases ⟨p, v, 0⟩ f m with h | h | h | h | h
          · exact ⟨h.2.1, h.2.2⟩
          all_goals exfalso; omega
        rw [hV.1, hV.2]
        refine ⟨by unfold th; simp [hv0], p, 0, rfl, by omega, by omega, .inl rfl, by rw [Int.sub_self]; omega, by rw [Int.sub_self]; omega, .inr ⟨hp8, rfl, by omega, hfar⟩⟩
  · have hw0 : wy ⟨p, v, 0⟩ f = 0 := by show f * 8 - p = 0; omega
    exact ⟨by omega, by omega, by omega, .inl ⟨by unfold th; rw [hw0]; simp [hv], by omega, by omega, .inl hfar⟩⟩

end Go.Proofs.Ytmdljmlnfihmcaa.DriP
