/- A region that draws its order, some of whose operations change the world one behind the other: by what holds of each operation's value, and of the world as far as the region is. -/
import Derived.Test.YtkicijgempccfaaInv
namespace Go.Proofs.Ytkicijgempccfaa.Inv
open Go Go.RowKit
set_option linter.unusedVariables false

section
variable {P : Program} {ops : Array Oper} {Q : Exit → Act → World → Prop} {md : Region.Mode}

/-- what has come up has come behind what it waits for -/
def Closed (ops : Array Oper) (L : Array Bool) : Prop := ∀ j oj, ops[j]? = some oj → L.getD j false = true → ∀ e ∈ oj.after, Region.binds .any e = true → L.getD e.on false = true
theorem Closed.set {L : Array Bool} {i : Nat} (h : Closed ops L) (hi : i ∈ Region.ready .any ops L) : Closed ops (L.setIfInBounds i true) := by
  obtain ⟨_, oi, hoi, hall⟩ := mem_ready.1 hi
  intro j oj hj hl e he hb
  by_cases hij : i = j
  · subst hij
    have : oj = oi := Option.some.inj (hj.symm.trans hoi)
    subst this
    exact getD_set_true (hall e he hb)
  · rw [getD_set_ne false hij] at hl
    exact getD_set_true (h j oj hj hl e he hb)
theorem getD_set_far {L : Array Bool} {i j : Nat} (h : i ≠ j) : (L.setIfInBounds i true).getD j false = L.getD j false := getD_set_ne false h
theorem getD_set_here {L : Array Bool} {i : Nat} (h : i < L.size) : (L.setIfInBounds i true).getD i false = true := by simp [h]
theorem getD_both' {L : Array Bool} {i : Nat} (h : L.getD i true = false) : L.getD i false = false := by
  rcases Nat.lt_or_ge i L.size with h' | h'
  · simp [h'] at h ⊢; exact h
  · simp [Array.getElem?_eq_none h'] at h

/-- THE RULE. F k: what holds of operation k's value; T: what holds of the world, by what has come up. -/
theorem wp_region_stage {id : Nat} {a : Act} {w : World} {l : List Oper} (F : Nat → Value → Prop) (T : Array Bool → (Nat → Value) → World → Prop) (hm : P.follows .mixedOrders = true) (hD : downB .any l.toArray = true) (hA : apartB l = true)
    (h0 : ∀ x, T (Array.replicate l.length false) x w.drew)
    (hstep : ∀ (i : Nat) (o : Oper) (L : Array Bool) (x : Nat → Value) (w' : World) (K : Act → World → Prop), l[i]? = some o → L.size = l.length → Closed l.toArray L → L.getD i false = false → (∀ e ∈ o.after, Region.binds .any e = true → L.getD e.on false = true ∧ F e.on (x e.on)) → (∀ k, L.getD k false = true → F k (x k)) → T L x w' →
      (∀ v w'', F i v → T (L.setIfInBounds i true) (upd x i v) w'' → K ((fill l 0 x a).put o.dst v) w'') → wpOp P l.toArray Q i K (fill l 0 x a) w')
    (hend : ∀ (x : Nat → Value) (L : Array Bool) (w' : World), (∀ k, k < l.length → L.getD k false = true) → T L x w' → (∀ k, k < l.length → F k (x k)) → Q .normal (fill l 0 x a) w') :
    (Code.region id l.toArray true).wp P Q a w := by
  refine wp_region_any hm (wpAny_inv (fun L a' w' => L.size = l.length ∧ Closed l.toArray L ∧ ∃ x, a' = fill l 0 x a ∧ (∀ k, L.getD k false = true → F k (x k)) ∧ T L x w') ?_ ?_ _ _ _ _ ?_ ?_)
  · rintro L a' w' i ⟨hs, hc, x, rfl, hx, hT⟩ hi
    obtain ⟨hun, o, ho, hdep⟩ := mem_ready.1 hi
    have ho' : l[i]? = some o := by simpa using ho
    refine wpOp_mono ?_ (hstep i o L x w' (fun a' w'' => ∃ v, a' = (fill l 0 x a).put o.dst v ∧ F i v ∧ T (L.setIfInBounds i true) (upd x i v) w'') ho' hs hc (getD_both' hun) (fun e he hbi => ⟨hdep e he hbi, hx e.on (hdep e he hbi)⟩) hx hT (fun v w'' h1 h2 => ⟨v, rfl, h1, h2⟩))
    rintro a'' w'' ⟨v, rfl, hv, hT2⟩
    refine ⟨by simpa using hs, hc.set hi, upd x i v, ?_, fun k hk => ?_, hT2⟩
    · have := fill_put l 0 x a i o v hA ho'
      rwa [Nat.zero_add] at this
    · by_cases hki : k = i
      · subst hki
        simpa [upd] using hv
      · rw [getD_set_ne false (Ne.symm hki)] at hk
        simp only [upd]
        rw [if_neg hki]
        exact hx k hk
  · rintro L a' w' ⟨hs, hc, x, rfl, hx, hT⟩ hr
    have hall := fun k (hk : k < l.length) => all_listed hD (by simpa using hs) hr (k + 1) k (by omega) (by simpa using hk)
    exact hend x L w' hall hT (fun k hk => hx k (hall k hk))
  · unfold left
    simp
  · refine ⟨by simp, ?_, fun k => match l[k]? with | some o => (match o.dst with | some d => a.tmps.getD d undef | none => undef) | none => undef, (fill_self l 0 a _ (fun k o d hk hd => by simp [hk, hd])).symm, fun k hk => ?_, ?_⟩
    · intro j oj hj hl
      exfalso
      by_cases h : j < l.length <;> simp [h] at hl
    · exfalso
      by_cases h : k < l.length <;> simp [h] at hk
    · have := h0 (fun k => match l[k]? with | some o => (match o.dst with | some d => a.tmps.getD d undef | none => undef) | none => undef)
      simpa using this
end

end Go.Proofs.Ytkicijgempccfaa.Inv
