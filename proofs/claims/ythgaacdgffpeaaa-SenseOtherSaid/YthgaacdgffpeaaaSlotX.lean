import Derived.Test.YthgaacdgffpeaaaHeld

/- A region that draws its order, its frame a letter: an operation is told by the slots that it reads. -/
namespace Go.Proofs.Ythgaacdgffpeaaa.Slot
open Go Go.RowKit Go.Proofs.Ythgaacdgffpeaaa.Inv Go.Proofs.Ythgaacdgffpeaaa.Held
set_option linter.unusedVariables false

section
variable {P : Program} {Q : Exit → Act → World → Prop} {l : List Oper} {K : Act → World → Prop} {A : Act} {W : World} {o p : Oper} {i j : Nat} {d : Tmp} {b : Bool} {v : Value}

/-- all slots lie in the frame -/
def inB (l : List Oper) (n : Nat) : Bool := l.all fun o => match o.dst with | some d => decide (d < n) | none => true
theorem in_of {n : Nat} (h : inB l n = true) {k : Nat} (hk : l[k]? = some o) (hd : o.dst = some d) : d < n := by
  have h1 := List.all_eq_true.1 h o (List.mem_of_getElem? hk)
  rw [hd] at h1
  simpa using h1
theorem put_other {a : Act} {e : Option Tmp} (h : e ≠ some d) : (a.put e v).tmps[d]? = a.tmps[d]? := by
  cases e with
  | none => rfl
  | some e => simp only [Act.put]; exact Array.getElem?_setIfInBounds_ne fun hh => h (by rw [hh])
theorem fill_other (r : List Oper) : ∀ i x a, (∀ p ∈ r, p.dst ≠ some d) → (fill r i x a).tmps[d]? = a.tmps[d]? := by
  induction r with
  | nil => intro i x a _; rfl
  | cons o r ih => intro i x a h; rw [fill, ih _ _ _ fun p hp => h p (List.mem_cons_of_mem _ hp), put_other (h o List.mem_cons_self)]
theorem eval_at {a : Act} (h : a.tmps[d]? = some v) : a.eval (.tmp d) = v := by simp [Act.eval, h]

theorem wp_region_slots {id : Nat} {a : Act} {w : World} (F : Nat → Value → World → Prop) (hm : P.follows .mixedOrders = true) (hD : downB .any l.toArray = true) (hA : apartB l = true) (hI : inB l a.tmps.size = true)
    (hF : ∀ k v w' w'', Below w.heap.size w w' → F k v w' → Below w'.heap.size w' w'' → F k v w'')
    (hstep : ∀ (i : Nat) (o : Oper) (x : Nat → Value) (w' : World) (K : Act → World → Prop) (A : Act), l[i]? = some o → Below w.heap.size w w' → (∀ e ∈ o.after, Region.binds .any e = true → F e.on (x e.on) w') →
      (∀ k p d, l[k]? = some p → p.dst = some d → A.tmps[d]? = some (x k)) → (∀ d, (∀ p ∈ l, p.dst ≠ some d) → A.tmps[d]? = a.tmps[d]?) →
      (∀ v w'', Below w'.heap.size w' w'' → F i v w'' → K (A.put o.dst v) w'') → wpOp P l.toArray Q i K A w')
    (hend : ∀ (x : Nat → Value) (w' : World), Below w.heap.size w w' → (∀ k, k < l.length → F k (x k) w') → Q .normal (fill l 0 x a) w') :
    (Code.region id l.toArray true).wp P Q a w :=
  Inv.wp_region_inv F hm hD hA hF (fun i o x w' K ho hB hd hK => hstep i o x w' K _ ho hB hd
    (fun k p d hk hp => by have := fill_at l 0 x a k p hA hk hp (in_of hI hk hp); rwa [Nat.zero_add] at this) (fun d h => fill_other l 0 x a h) hK) hend

theorem op_go (ho : l[i]? = some o) (hg : o.guard = none) (h : o.wp P A W K Q) : wpOp P l.toArray Q i K A W := by
  unfold wpOp
  rw [show l.toArray[i]? = some o by simpa using ho]
  dsimp only
  rw [if_pos (by simp [Region.wanted, hg])]
  exact .inl h
theorem op_if (ho : l[i]? = some o) (hg : o.guard = some (j, b)) (hj : l[j]? = some p) (hd : p.dst = some d) (hv : A.tmps[d]? = some (.bool b)) (h : o.wp P A W K Q) : wpOp P l.toArray Q i K A W := by
  unfold wpOp
  rw [show l.toArray[i]? = some o by simpa using ho]
  dsimp only
  rw [if_pos (by simp [Region.wanted, hg, yielded, hj, hd, hv])]
  exact .inl h
theorem op_not (ho : l[i]? = some o) (hg : o.guard = some (j, b)) (hj : l[j]? = some p) (hd : p.dst = some d) (hv : A.tmps[d]? = some (.bool !b)) (h : K (A.put o.dst undef) W) : wpOp P l.toArray Q i K A W := by
  unfold wpOp
  rw [show l.toArray[i]? = some o by simpa using ho]
  dsimp only
  rw [if_neg (by cases b <;> simp [Region.wanted, hg, yielded, hj, hd, hv])]
  exact h
theorem op_none (ho : l[i]? = some o) (hg : o.guard = some (j, b)) (hj : l[j]? = some p) (hd : p.dst = some d) (hv : A.tmps[d]? = some undef) (h : K (A.put o.dst undef) W) : wpOp P l.toArray Q i K A W := by
  unfold wpOp
  rw [show l.toArray[i]? = some o by simpa using ho]
  dsimp only
  rw [if_neg (by simp [Region.wanted, hg, yielded, hj, hd, hv, undef])]
  exact h

theorem wp_value {W' : World} (hr : (execOp A.eval o).run P W = .ok (.value v) W') (h : K (A.put o.dst v) W') : o.wp P A W K Q := by
  unfold Oper.wp
  rw [hr]
  exact h
theorem wp_call {f : FuncId} {args args' : Array Value} {R : Ending → World → Prop} (hr : (execOp A.eval o).run P W = .ok (.enter f args') W) (ha : args' = args) (hc : Calls P f args W R)
    (h : ∀ e w', R e w' → ∃ v, e = .returned v ∧ K (A.put o.dst v) w') : o.wp P A W K Q := by
  unfold Oper.wp
  rw [hr, Oper.upon_enter]
  rw [ha]
  refine hc.mono fun e w' hr => ?_
  obtain ⟨v, rfl, hk⟩ := h e w' hr
  exact hk

/-- what holds of each operation's value, as a row -/
def row : List (Value → World → Prop) → Nat → Value → World → Prop
  | [], _ => fun _ _ => True
  | f :: _, 0 => f
  | _ :: l, n + 1 => row l n
/-- each entry stands under new memory -/
def rowC : List (Value → World → Prop) → Prop
  | [] => True
  | f :: l => (∀ v W W', f v W → Below W.heap.size W W' → f v W') ∧ rowC l
theorem row_next {l : List (Value → World → Prop)} (h : rowC l) : ∀ k v W W', row l k v W → Below W.heap.size W W' → row l k v W' := by
  induction l with
  | nil => intro k v W W' _ _; trivial
  | cons f l ih =>
    intro k
    cases k with
    | zero => exact h.1
    | succ k => exact ih h.2 k
def offB (l : List Oper) (d : Tmp) : Bool := l.all fun p => p.dst != some d
theorem off_of (h : offB l d = true) : ∀ p ∈ l, p.dst ≠ some d := fun p hp e => by
  have := List.all_eq_true.1 h p hp
  simp [e] at this
theorem run_convert {ρ : Operand → Value} {s t : TypeId} {x : Operand} {u : Value} (ho : o.op = .convert s t x) (hx : ρ x = u) (h : (convert s t u).run P W = .ok v W) : (execOp ρ o).run P W = .ok (.value v) W := by
  unfold execOp
  rw [ho]
  simp only [hx]
  simp [go_sem, h]
theorem run_move {ρ : Operand → Value} {x : Operand} (ho : o.op = .move x) (hx : ρ x = v) : (execOp ρ o).run P W = .ok (.value v) W := by
  unfold execOp
  rw [ho, ← hx]
  rfl
theorem run_assign {ρ : Operand → Value} {x : Operand} (ho : o.op = .assign x) (hx : ρ x = v) : (execOp ρ o).run P W = .ok (.value v) W := by
  unfold execOp
  rw [ho, ← hx]
  rfl
theorem run_pick {ρ : Operand → Value} {c x y : Operand} (ho : o.op = .pick c x y) (hc : ρ c = .bool b) (hx : (if b then ρ x else ρ y) = v) : (execOp ρ o).run P W = .ok (.value v) W := by
  unfold execOp
  rw [ho, ← hx]
  simp only [hc, go_sem]
  cases b <;> rfl
end
end Go.Proofs.Ythgaacdgffpeaaa.Slot

/- A region that draws its order, with operations behind that wait for all, its frame a letter. -/
namespace Go.Proofs.Ythgaacdgffpeaaa.Slot
open Go Go.RowKit Go.Proofs.Ythgaacdgffpeaaa.Inv Go.Proofs.Ythgaacdgffpeaaa.Held
set_option linter.unusedVariables false

section
variable {P : Program} {Q : Exit → Act → World → Prop} {l : List Oper}
/-- the same, ahead of operations that wait for all -/
theorem wp_region_slotst {id : Nat} {a : Act} {w : World} (m : Nat) (F : Nat → Value → World → Prop) (hm : P.follows .mixedOrders = true) (hB : headB l 0 m a.tmps.size = true) (hA : apartB (l.take m) = true) (hI : inB (l.take m) a.tmps.size = true)
    (hF : ∀ k v w' w'', F k v w' → Below w'.heap.size w' w'' → F k v w'')
    (hstep : ∀ (i : Nat) (o : Oper) (x : Nat → Value) (w' : World) (K : Act → World → Prop) (A : Act), i < m → l[i]? = some o → Below w.heap.size w w' → (∀ e ∈ o.after, Region.binds .any e = true → F e.on (x e.on) w') →
      (∀ k p d, (l.take m)[k]? = some p → p.dst = some d → A.tmps[d]? = some (x k)) → (∀ d, (∀ p ∈ l.take m, p.dst ≠ some d) → A.tmps[d]? = a.tmps[d]?) →
      (∀ v w'', Below w'.heap.size w' w'' → F i v w'' → K (A.put o.dst v) w'') → wpOp P l.toArray Q i K A w')
    (hend : ∀ (x : Nat → Value) (w' : World), Below w.heap.size w w' → (∀ k, k < m → F k (x k) w') → wpList P l.toArray Q (l.drop m) (fill (l.take m) 0 x a) w') :
    (Code.region id l.toArray true).wp P Q a w :=
  Held.wp_region_invt m F hm hB hF (fun i o x w' K hi ho hB2 hd hK => hstep i o x w' K _ hi ho hB2 hd
    (fun k p d hk hp => by have := fill_at (l.take m) 0 x a k p hA hk hp (in_of hI hk hp); rwa [Nat.zero_add] at this) (fun d h => fill_other (l.take m) 0 x a h) hK) hend

end
end Go.Proofs.Ythgaacdgffpeaaa.Slot
