/- A region that draws its order, walked by what holds of each operation's value, once an operation: for regions that lay several blocks and call functions on them. -/
import Derived.Orders
import Derived.Below
namespace Go.Proofs.YthpbcbbiampamaaGreatDoor.Inv
open Go Go.RowKit
set_option linter.unusedVariables false

section
variable {P : Program} {ops : Array Oper} {Q : Exit → Act → World → Prop} {md : Region.Mode}

/-- how many have not come up -/
def left (l : Array Bool) : Nat := l.toList.count false
theorem left_zero {l : Array Bool} (h : left l = 0) (j : Nat) : l.getD j true = true := by
  unfold left at h
  rw [List.count_eq_zero] at h
  by_cases hj : j < l.size
  · have hx : l[j] ≠ false := fun e => h (by rw [← e]; simp)
    simp [hj]
    simpa using hx
  · simp [hj]
theorem left_set {l : Array Bool} {i : Nat} (h : l.getD i true = false) : left (l.setIfInBounds i true) + 1 = left l := by
  have hi : i < l.size := by
    rcases Nat.lt_or_ge i l.size with h' | h'
    · exact h'
    · simp [Array.getElem?_eq_none h'] at h
  have hx : l[i] = false := by simpa [hi] using h
  unfold left
  rw [Array.toList_setIfInBounds, List.set_eq_take_append_cons_drop, if_pos (by simpa using hi)]
  have e : l.toList = l.toList.take i ++ l[i] :: l.toList.drop (i + 1) := by
    have := List.drop_eq_getElem_cons (l := l.toList) (i := i) (by simpa using hi)
    rw [← Array.getElem_toList (h := hi), ← this, List.take_append_drop]
  conv => rhs; rw [e]
  rw [hx]
  simp [List.count_append]
  omega

theorem wpAny_inv (I : Array Bool → Act → World → Prop)
    (hstep : ∀ l a w i, I l a w → i ∈ Region.ready md ops l → wpOp P ops Q i (I (l.setIfInBounds i true)) a w)
    (hend : ∀ l a w, I l a w → Region.ready md ops l = [] → Q .normal a w) :
    ∀ fuel l a w, left l ≤ fuel → I l a w → wpAny P md ops Q fuel l a w := by
  intro fuel
  induction fuel with
  | zero =>
    intro l a w hl hI
    have hr : Region.ready md ops l = [] := by
      rw [List.eq_nil_iff_forall_not_mem]
      intro i hi
      have := (mem_ready.1 hi).1
      rw [left_zero (by omega)] at this
      cases this
    exact ⟨hr, hend l a w hI hr⟩
  | succ fuel ih =>
    intro l a w hl hI
    refine ⟨fun hr => hend l a w hI hr, fun i hi => wpOp_mono (fun a' w' h => ih _ a' w' ?_ h) (hstep l a w i hI hi)⟩
    have := left_set (mem_ready.1 hi).1
    omega

/-- each operation waits for earlier ones alone -/
def downB (md : Region.Mode) (ops : Array Oper) : Bool := (List.range ops.size).all fun i => match ops[i]? with | some o => o.after.all fun e => !Region.binds md e || decide (e.on < i) | none => true
theorem all_listed (hB : downB md ops = true) {l : Array Bool} (hs : l.size = ops.size) (hr : Region.ready md ops l = []) : ∀ n i, i < n → i < ops.size → l.getD i false = true := by
  intro n
  induction n with
  | zero => intro i h; omega
  | succ n ih =>
    intro i hi hio
    by_cases hl : l.getD i true = true
    · have : i < l.size := by omega
      simp [this] at hl ⊢
      exact hl
    · exfalso
      have hm : i ∈ Region.ready md ops l := by
        refine mem_ready.2 ⟨by simpa using hl, ops[i], by simp [hio], fun e he hb => ?_⟩
        have h1 := List.all_eq_true.1 hB i (List.mem_range.2 hio)
        rw [show ops[i]? = some ops[i] by simp [hio]] at h1
        have h2 := Array.all_eq_true_iff_forall_mem.1 h1 e he
        simp [hb] at h2
        exact ih e.on (by omega) (by omega)
      rw [hr] at hm
      cases hm

/-- the frame with a value for each operation's slot -/
def fill : List Oper → Nat → (Nat → Value) → Act → Act
  | [], _, _, a => a
  | o :: l, i, x, a => fill l (i + 1) x (a.put o.dst (x i))

/-- the slots differ -/
def apartB : List Oper → Bool
  | [] => true
  | o :: l => (match o.dst with | some d => l.all fun p => p.dst != some d | none => true) && apartB l

theorem put_put (a : Act) (d : Option Tmp) (u v : Value) : (a.put d u).put d v = a.put d v := by
  cases d with
  | none => rfl
  | some d => simp [Act.put]
theorem fill_put_far (l : List Oper) : ∀ (i : Nat) (x : Nat → Value) (a : Act) (d : Option Tmp) (v : Value), (∀ e, d = some e → ∀ p ∈ l, p.dst ≠ some e) → (fill l i x a).put d v = fill l i x (a.put d v) := by
  induction l with
  | nil => intro i x a d v _; rfl
  | cons o l ih =>
    intro i x a d v h
    simp only [fill]
    rw [ih _ _ _ _ _ (fun e he p hp => h e he p (List.mem_cons_of_mem _ hp)), Act.put_comm a (x i) v]
    intro e he hd
    exact h e hd o List.mem_cons_self he
theorem fill_congr (l : List Oper) : ∀ (i : Nat) (x y : Nat → Value) (a : Act), (∀ j, i ≤ j → x j = y j) → fill l i x a = fill l i y a := by
  induction l with
  | nil => intro i x y a _; rfl
  | cons o l ih =>
    intro i x y a h
    simp only [fill]
    rw [h i (Nat.le_refl i)]
    exact ih _ _ _ _ (fun j hj => h j (by omega))
def upd (x : Nat → Value) (k : Nat) (v : Value) : Nat → Value := fun j => if j = k then v else x j
theorem fill_put (l : List Oper) : ∀ (i : Nat) (x : Nat → Value) (a : Act) (k : Nat) (o : Oper) (v : Value), apartB l = true → l[k]? = some o → (fill l i x a).put o.dst v = fill l i (upd x (i + k) v) a := by
  induction l with
  | nil => intro i x a k o v _ h; simp at h
  | cons p l ih =>
    intro i x a k o v hB hk
    simp only [apartB, Bool.and_eq_true] at hB
    cases k with
    | zero =>
      simp at hk
      subst hk
      simp only [fill]
      rw [fill_put_far l _ _ _ _ _ (fun e he q hq => by
        have h1 := hB.1
        rw [he] at h1
        have := List.all_eq_true.1 h1 q hq
        simpa using this), put_put]
      have e : upd x (i + 0) v i = v := by simp [upd]
      rw [e]
      exact fill_congr l _ _ _ _ (fun j hj => by simp only [upd]; rw [if_neg (by omega)])
    | succ k =>
      simp at hk
      simp only [fill]
      have e : upd x (i + (k + 1)) v i = x i := by simp only [upd]; rw [if_neg (by omega)]
      rw [ih (i + 1) x _ k o v hB.2 hk, e, show i + 1 + k = i + (k + 1) by omega]
theorem fill_self (l : List Oper) : ∀ (i : Nat) (a : Act) (x : Nat → Value), (∀ k o d, l[k]? = some o → o.dst = some d → x (i + k) = a.tmps.getD d undef) → fill l i x a = a := by
  induction l with
  | nil => intro i a x _; rfl
  | cons o l ih =>
    intro i a x h
    simp only [fill]
    have e : a.put o.dst (x i) = a := by
      cases hd : o.dst with
      | none => rfl
      | some d =>
        rw [show x i = a.tmps.getD d undef from h 0 o d rfl hd]
        obtain ⟨t, f⟩ := a
        simp only [Act.put]
        congr 1
        apply Array.ext_getElem?
        intro j
        by_cases hj : d = j
        · subst hj
          by_cases hlt : d < t.size
          · simp [hlt]
          · have hge : t.size ≤ d := Nat.not_lt.1 hlt
            rw [Array.setIfInBounds_eq_of_size_le hge]
        · rw [Array.getElem?_setIfInBounds_ne hj]
    rw [e]
    exact ih (i + 1) a x (fun k p d hk hd => by rw [show i + 1 + k = i + (k + 1) by omega]; exact h (k + 1) p d (by simpa using hk) hd)

/-- THE RULE: F k says what holds of operation k's value, in any world behind it. -/
theorem wp_region_inv {id : Nat} {a : Act} {w : World} {l : List Oper} (F : Nat → Value → World → Prop) (hm : P.follows .mixedOrders = true) (hD : downB .any l.toArray = true) (hA : apartB l = true)
    (hF : ∀ k v w' w'', Below w.heap.size w w' → F k v w' → Below w'.heap.size w' w'' → F k v w'')
    (hstep : ∀ (i : Nat) (o : Oper) (x : Nat → Value) (w' : World) (K : Act → World → Prop), l[i]? = some o → Below w.heap.size w w' → (∀ e ∈ o.after, Region.binds .any e = true → F e.on (x e.on) w') →
      (∀ v w'', Below w'.heap.size w' w'' → F i v w'' → K ((fill l 0 x a).put o.dst v) w'') → wpOp P l.toArray Q i K (fill l 0 x a) w')
    (hend : ∀ (x : Nat → Value) (w' : World), Below w.heap.size w w' → (∀ k, k < l.length → F k (x k) w') → Q .normal (fill l 0 x a) w') :
    (Code.region id l.toArray true).wp P Q a w := by
  refine wp_region_any hm (wpAny_inv (fun L a' w' => L.size = l.length ∧ Below w.heap.size w w' ∧ ∃ x, a' = fill l 0 x a ∧ ∀ k, L.getD k false = true → F k (x k) w') ?_ ?_ _ _ _ _ ?_ ?_)
  · rintro L a' w' i ⟨hs, hb, x, rfl, hx⟩ hi
    obtain ⟨hun, o, ho, hdep⟩ := mem_ready.1 hi
    have ho' : l[i]? = some o := by simpa using ho
    refine wpOp_mono ?_ (hstep i o x w' (fun a' w'' => ∃ v, a' = (fill l 0 x a).put o.dst v ∧ Below w'.heap.size w' w'' ∧ F i v w'') ho' hb (fun e he hbi => hx e.on (hdep e he hbi)) (fun v w'' h1 h2 => ⟨v, rfl, h1, h2⟩))
    rintro a'' w'' ⟨v, rfl, hb2, hv⟩
    refine ⟨by simpa using hs, hb.trans (hb2.mono hb.size), upd x i v, ?_, fun k hk => ?_⟩
    · have := fill_put l 0 x a i o v hA ho'
      rwa [Nat.zero_add] at this
    · by_cases hki : k = i
      · subst hki
        simpa [upd] using hv
      · rw [getD_set_ne false (Ne.symm hki)] at hk
        simp only [upd]
        rw [if_neg hki]
        exact hF k _ w' w'' hb (hx k hk) hb2
  · rintro L a' w' ⟨hs, hb, x, rfl, hx⟩ hr
    refine hend x w' hb (fun k hk => hx k (all_listed hD (by simpa using hs) hr (k + 1) k (by omega) (by simpa using hk)))
  · unfold left
    simp
  · refine ⟨by simp, ⟨rfl, rfl, rfl, Nat.le_refl _, fun _ _ => rfl⟩, fun k => match l[k]? with | some o => (match o.dst with | some d => a.tmps.getD d undef | none => undef) | none => undef, (fill_self l 0 a _ (fun k o d hk hd => by simp [hk, hd])).symm, fun k hk => by
      exfalso
      by_cases h : k < l.length <;> simp [h] at hk⟩
end

end Go.Proofs.YthpbcbbiampamaaGreatDoor.Inv
