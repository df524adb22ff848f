/- A region that draws its order, whatever it stores: by one obligation an operation. -/
import Derived.Test.YthpbcbbiampamaaGreatDoorInv
namespace Go.Proofs.YthpbcbbiampamaaGreatDoor.Inv
set_option linter.unusedVariables false

section
variable {P : Program} {Q : Exit → Act → World → Prop}
/-- THE RULE: R is so of every world in between; F k says what holds of operation k's value; what an operation leaves is told by it itself -/
theorem wp_region_free {id : Nat} {a : Act} {w : World} {l : List Oper} (R : World → Prop) (F : Nat → Value → World → Prop) (h0 : R w.drew) (hm : P.follows .mixedOrders = true) (hD : downB .any l.toArray = true) (hA : apartB l = true)
    (hstep : ∀ (i : Nat) (o : Oper) (x : Nat → Value) (w' : World) (K : Act → World → Prop), l[i]? = some o → R w' → (∀ e ∈ o.after, Region.binds .any e = true → F e.on (x e.on) w') →
      (∀ v w'', R w'' → (∀ k u, F k u w' → F k u w'') → F i v w'' → K ((fill l 0 x a).put o.dst v) w'') → wpOp P l.toArray Q i K (fill l 0 x a) w')
    (hend : ∀ (x : Nat → Value) (w' : World), R w' → (∀ k, k < l.length → F k (x k) w') → Q .normal (fill l 0 x a) w') :
    (Code.region id l.toArray true).wp P Q a w := by
  refine wp_region_any hm (wpAny_inv (fun L a' w' => L.size = l.length ∧ R w' ∧ ∃ x, a' = fill l 0 x a ∧ ∀ k, L.getD k false = true → F k (x k) w') ?_ ?_ _ _ _ _ ?_ ?_)
  · rintro L a' w' i ⟨hs, hb, x, rfl, hx⟩ hi
    obtain ⟨hun, o, ho, hdep⟩ := mem_ready.1 hi
    have ho' : l[i]? = some o := by simpa using ho
    refine wpOp_mono ?_ (hstep i o x w' (fun a' w'' => ∃ v, a' = (fill l 0 x a).put o.dst v ∧ R w'' ∧ (∀ k u, F k u w' → F k u w'') ∧ F i v w'') ho' hb (fun e he hbi => hx e.on (hdep e he hbi)) (fun v w'' h1 h2 h3 => ⟨v, rfl, h1, h2, h3⟩))
    rintro a'' w'' ⟨v, rfl, hb2, hk2, hv⟩
    refine ⟨by simpa using hs, hb2, upd x i v, ?_, fun k hk => ?_⟩
    · have := fill_put l 0 x a i o v hA ho'
      rwa [Nat.zero_add] at this
    · by_cases hki : k = i
      · subst hki
        simpa [upd] using hv
      · rw [getD_set_ne false (Ne.symm hki)] at hk
        simp only [upd]
        rw [if_neg hki]
        exact hk2 k _ (hx k hk)
  · rintro L a' w' ⟨hs, hb, x, rfl, hx⟩ hr
    refine hend x w' hb (fun k hk => hx k (all_listed hD (by simpa using hs) hr (k + 1) k (by omega) (by simpa using hk)))
  · unfold left
    simp
  · refine ⟨by simp, h0, fun k => match l[k]? with | some o => (match o.dst with | some d => a.tmps.getD d undef | none => undef) | none => undef, (fill_self l 0 a _ (fun k o d hk hd => by simp [hk, hd])).symm, fun k hk => by
      exfalso
      by_cases h : k < l.length <;> simp [h] at hk⟩
end
end Go.Proofs.YthpbcbbiampamaaGreatDoor.Inv
