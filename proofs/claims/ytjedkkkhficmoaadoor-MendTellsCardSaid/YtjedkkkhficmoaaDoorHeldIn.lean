/- The rule for a region that draws its order, inside a fence, where no operation calls a function. -/
import Derived.Test.YtjedkkkhficmoaaDoorHeld
import Derived.OrdersIn
namespace Go.Proofs.YtjedkkkhficmoaaDoor.Held
open Go Go.RowKit Go.Proofs.YtjedkkkhficmoaaDoor.Inv Go.Proofs.YtjedkkkhficmoaaDoor.Box
set_option linter.unusedVariables false

/-- operations that call no function -/
def calmB (o : Oper) : Bool := match o.op with
  | .move _ | .assign _ | .load _ _ | .store _ _ _ | .fieldAddr _ _ _ | .indexAddr _ _ _ | .convert _ _ _ | .build _ _ | .buildSlice _ _ _ | .alloc _ | .slice _ _ _ _ _ | .index _ _ _ => true
  | .call c => (match c.callee with | .builtin b => (match b with | .append | .len | .cap | .min | .max => true | _ => false) | _ => false)
  | _ => false

section
variable {P : Program} {Q : Exit → Act → World → Prop} {F : Fence} {n : Nat}
theorem upon_v {o : Oper} {a : Act} {K : Act → World → Prop} {w : World} (s : Sem Value) (h : o.upon P a K Q ((do pure (.value (← s)) : Sem Next).run P w)) : o.uponIn F n P a K Q ((do pure (.value (← s)) : Sem Next).run P w) := by
  simp only [Sem.run_bind, Sem.run_pure] at h ⊢
  generalize s.run P w = r at *
  cases r with
  | ok v w' => exact h
  | halt x w' => cases x <;> exact h
theorem upon_u {o : Oper} {a : Act} {K : Act → World → Prop} {w : World} (s : Sem Unit) (h : o.upon P a K Q ((do s; pure .skip : Sem Next).run P w)) : o.uponIn F n P a K Q ((do s; pure .skip : Sem Next).run P w) := by
  simp only [Sem.run_bind, Sem.run_pure] at h ⊢
  generalize s.run P w = r at *
  cases r with
  | ok v w' => exact h
  | halt x w' => cases x <;> exact h

theorem calm_about {o : Oper} (hc : calmB o = true) {ρ : Operand → Value} {w : World} : ∀ f, o.about P w ρ = some f → F.fn f := by
  intro f hf
  cases ho : o.op <;> (unfold calmB at hc; rw [ho] at hc; simp only [Bool.false_eq_true] at hc)
  all_goals first
    | (simp [Oper.about, ho] at hf; done)
    | skip
  rename_i c
  obtain ⟨callee, args, ats⟩ := c
  cases callee with
  | builtin b => simp [Oper.about, ho, resolve, Target.leads] at hf
  | _ => simp at hc

theorem calm_in {o : Oper} (hc : calmB o = true) {a : Act} {w : World} {K : Act → World → Prop} (h : o.wp P a w K Q) : o.wpIn F n P a w K Q := by
  unfold Oper.wp at h
  have hd : ∀ c, o.op ≠ .defer c := fun c e => by unfold calmB at hc; rw [e] at hc; simp at hc
  unfold Oper.wpIn
  rw [Oper.semAt_eq _ _ _ hd]
  cases ho : o.op <;> (unfold calmB at hc; rw [ho] at hc; simp only [Bool.false_eq_true] at hc) <;> (unfold execOp at h ⊢; rw [ho] at h ⊢; simp only at h ⊢)
  all_goals first
    | exact ⟨fun f hf => by simp [Oper.about, ho] at hf, h⟩
    | exact ⟨fun f hf => by simp [Oper.about, ho] at hf, upon_v _ h⟩
    | exact ⟨fun f hf => by simp [Oper.about, ho] at hf, upon_u _ h⟩
    | skip
  rename_i c
  obtain ⟨callee, args, ats⟩ := c
  cases callee with
  | builtin b =>
    simp only [resolve, invoke, builtin, Sem.run_bind, Sem.run_pure, Result.andThen_ok] at h ⊢
    refine ⟨fun f hf => ?_, ?_⟩
    · simp [Oper.about, ho, resolve, Target.leads] at hf
    · cases b <;> first | exact upon_v _ h | (simp at hc)
  | _ => simp at hc

theorem any_in {l : List Oper} (hc : (l.all calmB) = true) (hno : ¬ LetsOut Q) : ∀ (fuel : Nat) (L : Array Bool) (a : Act) (w : World), wpAny P .any l.toArray Q fuel L a w → wpAnyIn F n P .any l.toArray Q fuel L a w := by
  intro fuel
  induction fuel with
  | zero => exact fun L a w h => h
  | succ fuel ih =>
    intro L a w h
    refine ⟨h.1, fun i hi => ?_⟩
    have h1 := h.2 i hi
    refine wpOpIn_mono (fun a w => ih _ a w) ?_
    unfold wpOp at h1
    unfold wpOpIn
    cases ho : l.toArray[i]? with
    | none => simp only [ho] at h1 ⊢; exact h1
    | some o =>
      simp only [ho] at h1 ⊢
      have hco : calmB o = true := List.all_eq_true.1 hc o (by
        have : l[i]? = some o := by simpa using ho
        exact List.mem_of_getElem? this)
      by_cases hw : Region.wanted o (yielded l.toArray a.tmps) = true
      · rw [if_pos hw] at h1 ⊢
        rcases h1 with h1 | h1
        · exact calm_in hco h1
        · exact (hno h1.2).elim
      · rw [if_neg hw] at h1 ⊢
        exact ⟨fun f hf => calm_about hco f hf, h1⟩

/-- behind n operations some that wait for all, inside a fence -/
theorem wpIn_region_tail {id : Nat} {a : Act} {W : World} {l : List Oper} (k : Nat) (S : World → Prop) (hS : Closed S) (h0 : S W)
    (hm : P.follows .mixedOrders = true) (hB : headB l k k a.tmps.size = true) (hc : (l.all calmB) = true) (hno : ¬ LetsOut Q)
    (h : ∃ aE, (∀ w1, S w1 → wpQuiet P (l.take k).toArray (fun w' => ∃ i : Ext S w1, w' = i.W) (fun a' => a' = aE) (l.take k) a) ∧ ∀ w', S w' → Below W.heap.size W w' → wpList P l.toArray Q (l.drop k) aE w') :
    (Code.region id l.toArray true).wpIn F n P Q a W :=
  wpIn_region_any hm (any_in hc hno _ _ _ _ (any_tail k S hS h0 hB h))
/-- behind n operations one that builds a new row of known cells, inside a fence -/
theorem wpIn_region_build {id : Nat} {a : Act} {W : World} {l : List Oper} (j : Nat) (S : World → Prop) (cs : Array Value) (t : TypeId) (k : Nat) (o : Oper) (d : Tmp) (hS : Closed S) (h0 : S W)
    (hm : P.follows .mixedOrders = true) (hB : headB l j (j + 1) a.tmps.size = true) (hc : (l.all calmB) = true) (hno : ¬ LetsOut Q) (hL : looks1B l j (j + 1) j = true) (ho : l[j]? = some o) (hd : o.dst = some d) (hg : o.guard = none)
    (h : ∃ aE, (∀ w1, S w1 → wpQuiet P (l.take j).toArray (fun w' => ∃ i : Ext S w1, w' = i.W) (fun a' => a' = aE) (l.take j) a) ∧
      (∀ w' : World, (execOp aE.eval o).run P w' = .ok (.value (.slice (some ⟨w'.heap.size, 0, none⟩) k k)) (w'.alloc (.cells cs t))) ∧
      ∀ B w', S w' → Below W.heap.size W w' → W.heap.size ≤ B → Bx w' B cs → wpList P l.toArray Q (l.drop (j + 1)) (aE.put (some d) (.slice (some ⟨B, 0, none⟩) k k)) w') :
    (Code.region id l.toArray true).wpIn F n P Q a W :=
  wpIn_region_any hm (any_in hc hno _ _ _ _ (any_build j S cs t k o d hS h0 hB hL ho hd hg h))
end
end Go.Proofs.YtjedkkkhficmoaaDoor.Held
