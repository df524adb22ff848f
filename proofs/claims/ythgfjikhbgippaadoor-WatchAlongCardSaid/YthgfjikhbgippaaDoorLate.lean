/- A region that draws its order whose store may come ahead of some operations that only read: a rule beside Held's. -/
import Derived.Test.YthgfjikhbgippaaDoorHeld
namespace Go.Proofs.YthgfjikhbgippaaDoor.Held
open Go Go.RowKit Go.Proofs.YthgfjikhbgippaaDoor.Inv Go.Proofs.YthgfjikhbgippaaDoor.Box
set_option linter.unusedVariables false
section
variable {P : Program} {Q : Exit → Act → World → Prop}

/-- the late ones yield, behind the store, what they yield ahead of it -/
def lateAll (P : Program) (l : List Oper) (aE : Act) (w' : World) : List Nat → Prop
  | [] => True
  | i :: E => (∀ o d, l[i]? = some o → o.dst = some d → (execOp aE.eval o).run P w' = .ok (.value (aE.tmps[d]?.getD undef)) w') ∧ lateAll P l aE w' E
theorem lateAll.at_ {l : List Oper} {aE : Act} {w' : World} : ∀ {E : List Nat}, lateAll P l aE w' E → ∀ i ∈ E, ∀ o d, l[i]? = some o → o.dst = some d → (execOp aE.eval o).run P w' = .ok (.value (aE.tmps[d]?.getD undef)) w' := by
  intro E
  induction E with
  | nil => intro _ i hi; cases hi
  | cons j E ih =>
    intro h i hi
    rcases List.mem_cons.1 hi with rfl | hi
    · exact h.1
    · exact ih h.2 i hi
/-- what holds behind the store -/
def Late (P : Program) (Q : Exit → Act → World → Prop) (l : List Oper) (E : List Nat) (rest : List Oper) (aE : Act) (e : Exit) (a' : Act) (w' : World) : Prop :=
  e = .normal ∧ a' = aE ∧ lateAll P l aE w' E ∧ wpList P l.toArray Q rest aE w'

def storeB (l : List Oper) (m : Nat) (E : List Nat) : Bool := match l[m]? with
  | some o => (match o.op with | .store .. => true | _ => false) && o.dst.isNone && o.guard.isNone && (o.looksAt l.toArray).all fun t => E.all fun j => (l[j]?.bind (·.dst)) != some t
  | none => false
def lateB (l : List Oper) (n m N : Nat) (E : List Nat) : Bool :=
  decide (n ≤ m) && decide (m ≤ l.length) && Region.noSelect l.toArray && downB .any l.toArray && apartB (l.take m) && dstB l m N && guardB l n && looksB l n m &&
  (storeB l m E && (E.all fun i => decide (i < n) && (match l[i]? with | some o => o.guard.isNone | none => false)) &&
    ((List.range m).all fun i => E.contains i || reachB l 5 m i) && (decide (l.length ≤ m + 1) || (List.range (m + 1)).all fun i => reachB l 5 (m + 1) i) && (List.range l.length).all fun t => decide (t ≤ m + 1) || reachB l 5 t (t - 1))

theorem store_run {ρ : Operand → Value} {o : Oper} {w : World} (h : (match o.op with | .store .. => true | _ => false) = true) : (∃ w', (execOp ρ o).run P w = .ok .skip w') ∨ ∃ y w', (execOp ρ o).run P w = .halt y w' := by
  revert h
  cases ho : o.op <;> simp only [Bool.false_eq_true, false_implies]
  rename_i t p x
  intro _
  simp only [execOp, ho, Sem.run_bind]
  cases (Instr.storeAt t (ρ p) (ρ x)).run P w with
  | ok u w' => exact .inl ⟨w', by simp [Result.andThen]⟩
  | halt y w' => exact .inr ⟨y, w', rfl⟩

/-- THE RULE -/
theorem wp_region_late {id : Nat} {a : Act} {W : World} {l : List Oper} (S : World → Prop) (n m : Nat) (E : List Nat) (F : Nat → Value → World → Prop) (hS : Closed S) (hF : ∀ k v, Closed (F k v)) (h0 : S W)
    (hm : P.follows .mixedOrders = true) (hB : lateB l n m a.tmps.size E = true)
    (hmid : ∀ k o w' a' (K : Act → World → Prop), n ≤ k → k < m → l[k]? = some o → S w' → Below W.heap.size W w' → (∀ v w'', Below w'.heap.size w' w'' → F k v w'' → K (a'.put o.dst v) w'') → wpOp P l.toArray Q k K a' w')
    (h : ∃ aE, (∀ w1, S w1 → wpQuiet P (l.take n).toArray (fun w' => ∃ i : Ext S w1, w' = i.W) (fun a' => a' = aE) (l.take n) a) ∧
      ∀ x w', S w' → Below W.heap.size W w' → (∀ k, n ≤ k → k < m → F k (x k) w') → wpList P l.toArray (Late P Q l E (l.drop (m + 1)) (fill ((l.take m).drop n) n x aE)) ((l.drop m).take 1) (fill ((l.take m).drop n) n x aE) w') :
    (Code.region id l.toArray true).wp P Q a W := by
  obtain ⟨aE, hw, hend⟩ := h
  unfold lateB at hB
  rw [Bool.and_eq_true] at hB
  obtain ⟨hB, hBt⟩ := hB
  simp only [Bool.and_eq_true, decide_eq_true_eq] at hB
  obtain ⟨⟨⟨⟨⟨⟨⟨hnm, hml⟩, hsel⟩, hD⟩, hA⟩, hDst⟩, hG⟩, hL⟩ := hB
  rw [Bool.and_eq_true, Bool.and_eq_true, Bool.and_eq_true, Bool.and_eq_true] at hBt
  obtain ⟨⟨⟨⟨hSt, hEs⟩, hTm⟩, hTm1⟩, hTt⟩ := hBt
  have hdst : ∀ k o, k < m → l[k]? = some o → ∃ d, o.dst = some d ∧ d < a.tmps.size := by
    intro k o hk ho
    have hmem : o ∈ l.take m := List.mem_of_getElem? (i := k) (by rw [List.getElem?_take_of_lt hk]; exact ho)
    have h1 := List.all_eq_true.1 hDst o hmem
    cases hd : o.dst with
    | none => rw [hd] at h1; cases h1
    | some d => rw [hd] at h1; exact ⟨d, rfl, by simpa using h1⟩
  have hsplit : l.take m = l.take n ++ (l.take m).drop n := by
    have := (List.take_append_drop n (l.take m)).symm
    rwa [List.take_take, Nat.min_eq_left hnm] at this
  have hAn : apartB (l.take n) = true := by
    rw [hsplit] at hA
    exact apart_left _ _ hA
  let val : Nat → Value := fun k => match l[k]? with | some o => (match o.dst with | some d => aE.tmps[d]?.getD undef | none => undef) | none => undef
  have hval : ∀ j o d, (l.take n)[j]? = some o → o.dst = some d → val (0 + j) = aE.tmps[d]?.getD undef := by
    intro j o d hj hd
    have hjn : j < n := by
      have := (List.getElem?_eq_some_iff.1 hj).1
      simp at this; omega
    rw [List.getElem?_take_of_lt hjn] at hj
    show (match l[0 + j]? with | some o => (match o.dst with | some d => aE.tmps[d]?.getD undef | none => undef) | none => undef) = _
    rw [Nat.zero_add, hj]
    simp only [hd]
  have hlex : ∀ w1, S w1 → aE = fill (l.take n) 0 val a ∧ ∀ j o, (l.take n)[j]? = some o → YieldsIn P (l.take n).toArray (fun w' => ∃ i : Ext S w1, w' = i.W) o (val j) (fill ((l.take n).take j) 0 val a) := by
    intro w1 h1
    have := lex_walk (opsH := (l.take n).toArray) val (l.take n) 0 a hAn (fun o ho => by
      obtain ⟨k, hk⟩ := List.mem_iff_getElem?.1 ho
      have hkn : k < n := by
        have := (List.getElem?_eq_some_iff.1 hk).1
        simp at this; omega
      rw [List.getElem?_take_of_lt hkn] at hk
      exact hdst k o (by omega) hk) hval (hw w1 h1)
    refine ⟨this.1, fun j o hj => ?_⟩
    have h2 := this.2 j o hj
    rwa [Nat.zero_add] at h2
  have hselN : ∀ o ∈ l, ∀ cs b, o.op ≠ .select cs b := fun o ho cs b => by
    obtain ⟨k, hk⟩ := List.mem_iff_getElem?.1 ho
    exact Region.noSelect_spec hsel k o cs b (by simpa using hk)
  -- an operation ahead, met in any frame of the region
  have hop : ∀ (i : Nat) (o : Oper) (x : Nat → Value) (w' : World) (K : Act → World → Prop), i < n → l[i]? = some o → S w' → (∀ j, Region.waitsFor .any l.toArray i j = true → j < n → x j = val j) →
      (∀ w'', S w'' → Below w'.heap.size w' w'' → K ((fill (l.take m) 0 x a).put o.dst (val i)) w'') → wpOp P l.toArray Q i K (fill (l.take m) 0 x a) w' := by
    intro i o x w' K hi ho hSw hx hK
    have hin : (l.take n)[i]? = some o := by rw [List.getElem?_take_of_lt hi]; exact ho
    have hmem : o ∈ l := List.mem_of_getElem? ho
    obtain ⟨hE, hY⟩ := hlex w' hSw
    have hy := hY i o hin
    have hguard : ∀ g b, o.guard = some (g, b) → g < n := by
      intro g b hg
      have h1 := List.all_eq_true.1 hG o (List.mem_of_getElem? hin)
      rw [hg] at h1
      simpa using h1
    have hlooks : ∀ t ∈ o.looksAt l.toArray, (fill (l.take m) 0 x a).tmps[t]? = (fill ((l.take n).take i) 0 val a).tmps[t]? := by
      intro t ht
      have h1 := List.all_eq_true.1 hL i (List.mem_range.2 hi)
      rw [ho] at h1
      have h2 := List.all_eq_true.1 h1 t ht
      rw [List.all_eq_true] at h2
      rw [List.take_take, Nat.min_eq_left (by omega)]
      rcases dst_cases (l.take m) t with hn | ⟨k, p, hk, hd⟩
      · rw [fill_off _ _ _ _ hn, fill_off _ _ _ _ (fun q hq => hn q (by
          have : l.take i = (l.take m).take i := by rw [List.take_take, Nat.min_eq_left (by omega)]
          rw [this] at hq
          exact List.mem_of_mem_take hq))]
      · have hkm : k < m := by
          have := (List.getElem?_eq_some_iff.1 hk).1
          simp at this; omega
        have hk' : l[k]? = some p := by rwa [List.getElem?_take_of_lt hkm] at hk
        obtain ⟨d, hd', hlt⟩ := hdst k p hkm hk'
        have hdt : d = t := by rw [hd] at hd'; injection hd' with e; exact e.symm
        subst hdt
        have h3 := h2 k (List.mem_range.2 hkm)
        rw [hk'] at h3
        simp only [Option.bind_some, hd, bne_self_eq_false, Bool.false_or, Bool.and_eq_true, decide_eq_true_eq] at h3
        rw [fill_at (l.take m) 0 x a k p hA hk hd hlt, Nat.zero_add, hx k h3.2 (by omega)]
        have hAi : apartB (l.take i) = true := by
          have e : l.take m = l.take i ++ (l.take m).drop i := by
            have := (List.take_append_drop i (l.take m)).symm
            rwa [List.take_take, Nat.min_eq_left (by omega)] at this
          rw [e] at hA
          exact apart_left _ _ hA
        rw [fill_at (l.take i) 0 val a k p hAi (by rw [List.getElem?_take_of_lt h3.1]; exact hk') hd hlt, Nat.zero_add]
    obtain ⟨he, hwd⟩ := exec_agree (hselN o hmem) hlooks
    unfold wpOp
    have ho' : l.toArray[i]? = some o := by simpa using ho
    simp only [ho']
    rcases hy with ⟨h1, h2⟩ | ⟨h1, h2⟩
    · rw [hwd, ← wanted_take hguard, h1, if_pos rfl]
      left
      have h3 := h2 w' ⟨⟨w', hSw, Below.refl _ _⟩, rfl⟩
      unfold Oper.quietAt at h3
      unfold Oper.wp
      rw [he]
      generalize (execOp (fill ((l.take n).take i) 0 val a).eval o).run P w' = r at *
      cases r with
      | ok nx w'' =>
        cases nx <;> simp only [Oper.quietUpon] at h3 <;> simp only [Oper.upon]
        case value u =>
          obtain ⟨e1, e2⟩ := h3
          rw [e1, e2]
          exact hK _ hSw (Below.refl _ _)
        case skip =>
          obtain ⟨e1, e2⟩ := h3
          rw [e1, ← e2]
          exact hK _ hSw (Below.refl _ _)
        case enter f args =>
          obtain ⟨e1, hc⟩ := h3
          rw [e1]
          exact hc.mono fun e w3 ⟨he, ⟨i', hi'⟩⟩ => by subst he; subst hi'; exact hK _ i'.h i'.hb
      | halt y w'' => simp only [Oper.quietUpon] at h3
    · rw [hwd, ← wanted_take hguard, h1, if_neg Bool.false_ne_true, ← h2]
      exact hK _ hSw (Below.refl _ _)
  have hEq : ∀ x, (∀ k, k < n → x k = val k) → fill (l.take m) 0 x a = fill ((l.take m).drop n) n x aE := by
    intro x hx
    have e := (hlex W h0).1
    have : fill (l.take m) 0 x a = fill (l.take n ++ (l.take m).drop n) 0 x a := by rw [← hsplit]
    rw [this, fill_append, Nat.zero_add, e, List.length_take, Nat.min_eq_left (by omega)]
    congr 1
    exact fill_upto _ _ _ _ _ (fun j _ hj => hx j (by simp at hj; omega))
  have hput : ∀ i o x v, i < m → l[i]? = some o → (fill (l.take m) 0 x a).put o.dst v = fill (l.take m) 0 (upd x i v) a := by
    intro i o x v hi ho
    have := fill_put (l.take m) 0 x a i o v hA (by rw [List.getElem?_take_of_lt hi]; exact ho)
    rwa [Nat.zero_add] at this
  obtain ⟨om, hom⟩ : ∃ o, l[m]? = some o := by
    unfold storeB at hSt
    cases h : l[m]? with
    | some o => exact ⟨o, rfl⟩
    | none => rw [h] at hSt; cases hSt
  have hmlt : m < l.length := (List.getElem?_eq_some_iff.1 hom).1
  unfold storeB at hSt
  rw [hom] at hSt
  simp only [Bool.and_eq_true] at hSt
  obtain ⟨⟨⟨hSop, hSd⟩, hSg⟩, hSl⟩ := hSt
  have hSd' : om.dst = none := by simpa using hSd
  have hSg' : om.guard = none := by simpa using hSg
  have hE : ∀ i ∈ E, i < n ∧ ∃ o, l[i]? = some o ∧ o.guard = none := by
    intro i hi
    have h1 := List.all_eq_true.1 hEs i hi
    simp only [Bool.and_eq_true, decide_eq_true_eq] at h1
    refine ⟨h1.1, ?_⟩
    have h2 := h1.2
    cases h : l[i]? with
    | some o => rw [h] at h2; exact ⟨o, rfl, by simpa using h2⟩
    | none => rw [h] at h2; cases h2
  have htm : ∀ i, i < m → i ∈ E ∨ reachB l 5 m i = true := by
    intro i hi
    have h1 := List.all_eq_true.1 hTm i (List.mem_range.2 hi)
    simpa using h1
  have htm1 : ∀ i, m + 1 < l.length → i ≤ m → reachB l 5 (m + 1) i = true := by
    intro i hlt hi
    simp only [Bool.or_eq_true, decide_eq_true_eq] at hTm1
    exact List.all_eq_true.1 (hTm1.resolve_left (by omega)) i (List.mem_range.2 (by omega))
  have htail : ∀ t, m + 1 < t → t < l.length → reachB l 5 t (t - 1) = true := by
    intro t ht hlt
    have h1 := List.all_eq_true.1 hTt t (List.mem_range.2 hlt)
    simp only [Bool.or_eq_true, decide_eq_true_eq] at h1
    exact h1.resolve_left (by omega)
  let aX : (Nat → Value) → Act := fun x => fill ((l.take m).drop n) n x aE
  let xv : (Nat → Value) → Nat → Value := fun x k => if k < n then val k else x k
  have haX : ∀ x, aX x = fill (l.take m) 0 (xv x) a := by
    intro x
    rw [hEq (xv x) (fun k hk => if_pos hk)]
    exact fill_upto _ _ _ _ _ (fun j hj _ => (if_neg (show ¬ j < n by omega)).symm)
  have haXu : ∀ x i v, i < n → aX (upd x i v) = aX x := by
    intro x i v hi
    exact fill_upto _ _ _ _ _ (fun j hj _ => by simp only [upd]; rw [if_neg (by omega)])
  -- frames that agree with the last one where an operation looks
  have hsame : ∀ x (t : Tmp), (∀ k p, k < n → l[k]? = some p → p.dst = some t → x k = val k) → (fill (l.take m) 0 x a).tmps[t]? = (aX x).tmps[t]? := by
    intro x t ht
    rw [haX]
    rcases dst_cases (l.take m) t with hn | ⟨k, p, hk, hd⟩
    · rw [fill_off _ _ _ _ hn, fill_off _ _ _ _ hn]
    · have hkm : k < m := by
        have := (List.getElem?_eq_some_iff.1 hk).1
        simp at this; omega
      have hk' : l[k]? = some p := by rwa [List.getElem?_take_of_lt hkm] at hk
      obtain ⟨d, hd', hlt⟩ := hdst k p hkm hk'
      have hdt : d = t := by rw [hd] at hd'; injection hd' with e; exact e.symm
      subst hdt
      rw [fill_at (l.take m) 0 x a k p hA hk hd hlt, fill_at (l.take m) 0 (xv x) a k p hA hk hd hlt, Nat.zero_add]
      congr 1
      show x k = if k < n then val k else x k
      by_cases hkn : k < n
      · rw [if_pos hkn]; exact ht k p hkn hk' hd
      · rw [if_neg hkn]
  let I : Array Bool → Act → World → Prop := fun L a' w' => L.size = l.length ∧ Down l L ∧
    ((S w' ∧ Below W.heap.size W w' ∧ (∀ t, m ≤ t → L.getD t false = false) ∧ ∃ x, a' = fill (l.take m) 0 x a ∧ (∀ k, L.getD k false = true → k < n → x k = val k) ∧ (∀ k, L.getD k false = true → n ≤ k → k < m → F k (x k) w')) ∨
     (L.getD m false = true ∧ (∀ t, m < t → L.getD t false = false) ∧ (∀ k, k < m → k ∉ E → L.getD k false = true) ∧ ∃ x, a' = fill (l.take m) 0 x a ∧ (∀ k, L.getD k false = true → k < n → x k = val k) ∧ lateAll P l (aX x) w' E ∧ wpList P l.toArray Q (l.drop (m + 1)) (aX x) w') ∨
     (∃ t, m + 1 ≤ t ∧ (∀ k, k < t → k < l.length → L.getD k false = true) ∧ (∀ k, t ≤ k → L.getD k false = false) ∧ wpList P l.toArray Q (l.drop t) a' w'))
  have hseq : ∀ (t : Nat) (o : Oper) (L : Array Bool) (a' : Act) (w' : World), l[t]? = some o → L.size = l.length → Down l (L.setIfInBounds t true) → m + 1 ≤ t → (∀ k, k < t → k < l.length → L.getD k false = true) → (∀ k, t ≤ k → L.getD k false = false) → wpList P l.toArray Q (l.drop t) a' w' → wpOp P l.toArray Q t (I (L.setIfInBounds t true)) a' w' := by
    intro t o L a' w' ho hs hdn hmt h1 h2 h3
    have hlt := (List.getElem?_eq_some_iff.1 ho).1
    have hd : l.drop t = o :: l.drop (t + 1) := by
      rw [List.drop_eq_getElem_cons hlt]
      congr 1
      have := (List.getElem?_eq_some_iff.1 ho).2
      exact this
    rw [hd] at h3
    have hw : wpOp P l.toArray Q t (wpList P l.toArray Q (l.drop (t + 1))) a' w' := by
      unfold wpOp
      have ho' : l.toArray[t]? = some o := by simpa using ho
      simp only [ho']
      exact h3
    refine wpOp_mono (fun a2 w2 h4 => ?_) hw
    refine ⟨by simpa using hs, hdn, .inr (.inr ⟨t + 1, by omega, fun k hk hkl => ?_, fun k hk => ?_, h4⟩)⟩
    · by_cases e : k = t
      · subst e
        exact getD_set_here' (by omega)
      · exact getD_set_true (h1 k (by omega) hkl)
    · rw [getD_set_ne false (by omega)]
      exact h2 k (by omega)
  refine wp_region_any hm (wpAny_inv I ?_ ?_ _ _ _ _ ?_ ?_)
  · rintro L a' w' i ⟨hs, hdn, hI⟩ hi
    obtain ⟨hun, o, ho, hdep⟩ := mem_ready.1 hi
    have ho' : l[i]? = some o := by simpa using ho
    have hil := (List.getElem?_eq_some_iff.1 ho').1
    have hunf : L.getD i false = false := getD_both hun
    have hwait : ∀ j, Region.waitsFor .any l.toArray i j = true → L.getD j false = true := fun j hj => waits_spec hj ho' hdep
    rcases hI with ⟨hSw, hbl, hT0, x, rfl, hx, hF0⟩ | ⟨hLm, hT0, hLk, x, rfl, hx, hlate, hrest⟩ | ⟨t, hmt, h1, h2, h3⟩
    · rcases Nat.lt_or_ge i n with hin | hin
      · refine hop i o x w' _ hin ho' hSw (fun j hj hjn => hx j (hwait j hj) hjn) (fun w'' hS2 hb2 => ?_)
        rw [hput i o x _ (by omega) ho']
        refine ⟨by simpa using hs, hdn.set hwait, .inl ⟨hS2, hbl.trans (hb2.mono hbl.size), fun t ht => by rw [getD_set_ne false (by omega)]; exact hT0 t ht, _, rfl, fun k hk hkn => ?_, fun k hk hkn hkm => ?_⟩⟩
        · by_cases e : k = i
          · subst e; simp [upd]
          · rw [getD_set_ne false (Ne.symm e)] at hk
            simp only [upd]; rw [if_neg e]
            exact hx k hk hkn
        · have e : k ≠ i := by omega
          rw [getD_set_ne false (Ne.symm e)] at hk
          simp only [upd]; rw [if_neg e]
          exact hF k _ _ _ (hF0 k hk hkn hkm) hb2
      · rcases Nat.lt_or_ge i m with him | him
        · refine hmid i o w' _ _ hin him ho' hSw hbl (fun v w'' hb2 hv => ?_)
          rw [hput i o x _ him ho']
          refine ⟨by simpa using hs, hdn.set hwait, .inl ⟨hS _ _ hSw hb2, hbl.trans (hb2.mono hbl.size), fun t ht => by rw [getD_set_ne false (by omega)]; exact hT0 t ht, _, rfl, fun k hk hkn => ?_, fun k hk hkn hkm => ?_⟩⟩
          · have e : k ≠ i := by omega
            rw [getD_set_ne false (Ne.symm e)] at hk
            simp only [upd]; rw [if_neg e]
            exact hx k hk hkn
          · by_cases e : k = i
            · subst e; simpa [upd] using hv
            · rw [getD_set_ne false (Ne.symm e)] at hk
              simp only [upd]; rw [if_neg e]
              exact hF k _ _ _ (hF0 k hk hkn hkm) hb2
        · have him' : i = m := by
            rcases Nat.lt_or_ge m i with h' | h'
            · exfalso
              rcases Nat.lt_or_ge (m + 1) i with h'' | h''
              · have := hdn.from hwait 5 (i - 1) (htail i h'' hil)
                rw [hT0 (i - 1) (by omega)] at this
                cases this
              · have e : i = m + 1 := by omega
                subst e
                have := hdn.from hwait 5 m (htm1 m hil (Nat.le_refl _))
                rw [hT0 m (Nat.le_refl _)] at this
                cases this
            · omega
          subst him'
          have hoo : o = om := by rw [ho'] at hom; injection hom
          subst hoo
          have hall : ∀ k, k < i → k ∉ E → L.getD k false = true := fun k hk hkE => hdn.from hwait 5 k ((htm k hk).resolve_left hkE)
          have hmidE : ∀ k, n ≤ k → k ∉ E := fun k hk hkE => by have := (hE k hkE).1; omega
          have h4 := hend x w' hSw hbl (fun k hk hkm => hF0 k (hall k hkm (hmidE k hk)) hk hkm)
          have hlooks : ∀ t ∈ o.looksAt l.toArray, (fill (l.take i) 0 x a).tmps[t]? = (aX x).tmps[t]? := by
            intro t ht
            refine hsame x t (fun k p hkn hk hd => hx k (hall k (by omega) (fun hkE => ?_)) hkn)
            have h5 := List.all_eq_true.1 (List.all_eq_true.1 hSl t ht) k hkE
            rw [hk] at h5
            simp [hd] at h5
          obtain ⟨he, _⟩ := exec_agree (hselN o (List.mem_of_getElem? ho')) hlooks
          have hd1 : (l.drop i).take 1 = [o] := by
            rw [List.drop_eq_getElem_cons hil]
            have := (List.getElem?_eq_some_iff.1 ho').2
            simp [this]
          rw [hd1] at h4
          have hwt : ∀ tm, Region.wanted o (yielded l.toArray tm) = true := fun tm => by unfold Region.wanted; rw [hSg']
          rw [wpList, hwt, if_pos rfl] at h4
          unfold wpOp
          simp only [ho, hwt, if_pos]
          left
          rcases h4 with h4 | ⟨_, a0, w0, h4, _⟩
          · unfold Oper.wp at h4 ⊢
            rw [he]
            rcases store_run (P := P) (ρ := (aX x).eval) (w := w') hSop with ⟨w'', hr⟩ | ⟨y, w'', hr⟩
            · have hr' : (execOp (Act.eval (fill ((l.take i).drop n) n x aE)) o).run P w' = .ok .skip w'' := hr
              rw [hr'] at h4
              rw [hr]
              simp only [Oper.upon, hSd', Act.put, wpList] at h4 ⊢
              obtain ⟨_, _, h5, h6⟩ := h4
              refine ⟨by simpa using hs, hdn.set hwait, .inr (.inl ⟨getD_set_here' (by omega), fun t ht => ?_, fun k hk hkE => getD_set_true' (hall k hk hkE), x, rfl, fun k hk hkn => ?_, h5, h6⟩)⟩
              · rw [getD_set_ne false (by omega)]; exact hT0 t (by omega)
              · rw [getD_set_ne false (by omega)] at hk
                exact hx k hk hkn
            · exfalso
              have hr' : (execOp (Act.eval (fill ((l.take i).drop n) n x aE)) o).run P w' = .halt y w'' := hr
              rw [hr'] at h4
              cases y <;> simp [Oper.upon, Late] at h4
          · cases h4
    · have hiE : i < m → i ∈ E := fun him => by
        by_cases h : i ∈ E
        · exact h
        · rw [hLk i him h] at hunf; cases hunf
      rcases Nat.lt_or_ge i m with him | him
      · have hie := hiE him
        obtain ⟨hin, o2, ho2, hg2⟩ := hE i hie
        have hoo : o2 = o := by rw [ho'] at ho2; injection ho2 with e; exact e.symm
        subst hoo
        obtain ⟨d, hd, hlt⟩ := hdst i o2 him ho'
        have hrun := hlate.at_ i hie o2 d ho' hd
        have hlooks : ∀ t ∈ o2.looksAt l.toArray, (fill (l.take m) 0 x a).tmps[t]? = (aX x).tmps[t]? := by
          intro t ht
          have h1 := List.all_eq_true.1 hL i (List.mem_range.2 hin)
          rw [ho'] at h1
          have h2 := List.all_eq_true.1 h1 t ht
          rw [List.all_eq_true] at h2
          refine hsame x t (fun k p hkn hk hd => hx k ?_ hkn)
          have h3 := h2 k (List.mem_range.2 (by omega))
          rw [hk] at h3
          simp only [Option.bind_some, hd, bne_self_eq_false, Bool.false_or, Bool.and_eq_true, decide_eq_true_eq] at h3
          exact hwait k h3.2
        obtain ⟨he, _⟩ := exec_agree (hselN o2 (List.mem_of_getElem? ho')) hlooks
        have hv : (aX x).tmps[d]?.getD undef = val i := by
          rw [haX, fill_at (l.take m) 0 (xv x) a i o2 hA (by rw [List.getElem?_take_of_lt him]; exact ho') hd hlt, Nat.zero_add]
          show (some (if i < n then val i else x i)).getD undef = _
          rw [if_pos hin]; rfl
        rw [hv] at hrun
        have hwt : ∀ tm, Region.wanted o2 (yielded l.toArray tm) = true := fun tm => by unfold Region.wanted; rw [hg2]
        unfold wpOp
        simp only [ho, hwt, if_pos]
        left
        unfold Oper.wp
        rw [he, hrun]
        simp only [Oper.upon]
        rw [hput i o2 x _ him ho']
        refine ⟨by simpa using hs, hdn.set hwait, .inr (.inl ⟨getD_set_true' hLm, fun t ht => ?_, fun k hk hkE => getD_set_true' (hLk k hk hkE), _, rfl, fun k hk hkn => ?_, ?_, ?_⟩)⟩
        · rw [getD_set_ne false (by omega)]; exact hT0 t ht
        · by_cases e : k = i
          · subst e; simp [upd]
          · rw [getD_set_ne false (Ne.symm e)] at hk
            simp only [upd]; rw [if_neg e]
            exact hx k hk hkn
        · rw [haXu x i _ hin]; exact hlate
        · rw [haXu x i _ hin]; exact hrest
      · have him1 : i = m + 1 := by
          rcases Nat.lt_or_ge (m + 1) i with h' | h'
          · exfalso
            have := hdn.from hwait 5 (i - 1) (htail i h' hil)
            rw [hT0 (i - 1) (by omega)] at this
            cases this
          · rcases Nat.lt_or_ge i (m + 1) with h'' | h''
            · exfalso
              have e : i = m := by omega
              subst e
              rw [hLm] at hunf; cases hunf
            · omega
        subst him1
        have hall : ∀ k, k < m + 1 → L.getD k false = true := fun k hk => hdn.from hwait 5 k (htm1 k hil (by omega))
        have he := hEq x (fun k hk => hx k (hall k (by omega)) hk)
        rw [he]
        exact hseq (m + 1) o L _ w' ho' hs (hdn.set hwait) (Nat.le_refl _) (fun k hk _ => hall k hk) (fun k hk => hT0 k (by omega)) hrest
    · have hti : t ≤ i := by
        rcases Nat.lt_or_ge i t with h' | h'
        · rw [h1 i h' hil] at hunf; cases hunf
        · exact h'
      have hit : i = t := by
        rcases Nat.lt_or_ge t i with h' | h'
        · have := hdn.from hwait 5 (i - 1) (htail i (by omega) hil)
          rw [h2 (i - 1) (by omega)] at this
          cases this
        · omega
      subst hit
      exact hseq i o L _ w' ho' hs (hdn.set hwait) hmt h1 h2 h3
  · rintro L a' w' ⟨hs, hdn, hI⟩ hr
    have hall : ∀ k, k < l.length → L.getD k false = true := fun k hk => all_listed hD (by simpa using hs) hr (k + 1) k (by omega) (by simpa using hk)
    rcases hI with ⟨hSw, hbl, hT0, x, rfl, hx, hF0⟩ | ⟨hLm, hT0, hLk, x, rfl, hx, hlate, hrest⟩ | ⟨t, hmt, h1, h2, h3⟩
    · exfalso
      have := hall m hmlt
      rw [hT0 m (Nat.le_refl _)] at this
      cases this
    · have he := hEq x (fun k hk => hx k (hall k (by omega)) hk)
      have hml' : m + 1 = l.length := by
        rcases Nat.lt_or_ge (m + 1) l.length with h' | h'
        · have := hall (m + 1) h'
          rw [hT0 (m + 1) (by omega)] at this
          cases this
        · omega
      have h4 : wpList P l.toArray Q (l.drop (m + 1)) (fill (l.take m) 0 x a) w' := by rw [he]; exact hrest
      rw [hml', List.drop_length] at h4
      exact h4
    · have : l.drop t = [] := by
        rcases Nat.lt_or_ge t l.length with h' | h'
        · have := hall t h'
          rw [h2 t (Nat.le_refl _)] at this
          cases this
        · exact List.drop_eq_nil_of_le h'
      rw [this] at h3
      exact h3
  · unfold left
    simp
  · refine ⟨by simp, fun i j hi _ => ?_, .inl ⟨hS _ _ h0 ⟨rfl, rfl, rfl, Nat.le_refl _, fun _ _ => rfl⟩, ⟨rfl, rfl, rfl, Nat.le_refl _, fun _ _ => rfl⟩, fun t _ => ?_, fun k => match l[k]? with | some o => (match o.dst with | some d => a.tmps.getD d undef | none => undef) | none => undef, (fill_self (l.take m) 0 a _ (fun k o d hk hd => ?_)).symm, fun k hk => ?_, fun k hk => ?_⟩⟩
    · exfalso
      by_cases h : i < l.length <;> simp [h] at hi
    · by_cases h : t < l.length <;> simp [h]
    · have hkm : k < m := by
        have := (List.getElem?_eq_some_iff.1 hk).1
        simp at this; omega
      rw [List.getElem?_take_of_lt hkm] at hk
      rw [Nat.zero_add]
      simp only [hk, hd]
    · exfalso
      by_cases h : k < l.length <;> simp [h] at hk
    · exfalso
      by_cases h : k < l.length <;> simp [h] at hk

/-- no block is laid: n operations, then the store -/
theorem wp_region_tail_late {id : Nat} {a : Act} {W : World} {l : List Oper} (n : Nat) (E : List Nat) (S : World → Prop) (hS : Closed S) (h0 : S W)
    (hm : P.follows .mixedOrders = true) (hB : lateB l n n a.tmps.size E = true)
    (h : ∃ aE, (∀ w1, S w1 → wpQuiet P (l.take n).toArray (fun w' => ∃ i : Ext S w1, w' = i.W) (fun a' => a' = aE) (l.take n) a) ∧ ∀ w', S w' → Below W.heap.size W w' → wpList P l.toArray (Late P Q l E (l.drop (n + 1)) aE) ((l.drop n).take 1) aE w') :
    (Code.region id l.toArray true).wp P Q a W := by
  obtain ⟨aE, h1, h2⟩ := h
  refine wp_region_late S n n E (fun _ _ _ => True) hS (fun _ _ _ _ _ _ => trivial) h0 hm hB (fun k o w' a' K hk hk2 => by omega) ⟨aE, h1, fun x w' hs hb _ => ?_⟩
  have e : (l.take n).drop n = [] := List.drop_eq_nil_of_le (by simp; omega)
  rw [e]
  exact h2 w' hs hb

/-- n operations, one that lays a block, whenever it comes, then the store -/
theorem wp_region_lay_late {id : Nat} {a : Act} {W : World} {l : List Oper} (n : Nat) (E : List Nat) (S : World → Prop) (cs : Array Value) (t : TypeId) (o : Oper) (d : Tmp) (hS : Closed S) (h0 : S W)
    (hm : P.follows .mixedOrders = true) (hB : lateB l n (n + 1) a.tmps.size E = true) (ho : l[n]? = some o) (hd : o.dst = some d) (hg : o.guard = none)
    (hrun : ∀ (ρ : Operand → Value) (w' : World), (execOp ρ o).run P w' = .ok (.value (.pointer (some ⟨w'.heap.size, 0, none⟩))) (w'.alloc (.cells cs t)))
    (h : ∃ aE, (∀ w1, S w1 → wpQuiet P (l.take n).toArray (fun w' => ∃ i : Ext S w1, w' = i.W) (fun a' => a' = aE) (l.take n) a) ∧
      ∀ B w', S w' → Below W.heap.size W w' → W.heap.size ≤ B → Bx w' B cs → ∀ aF, aE.put (some d) (.pointer (some ⟨B, 0, none⟩)) = aF → wpList P l.toArray (Late P Q l E (l.drop (n + 1 + 1)) aF) ((l.drop (n + 1)).take 1) aF w') :
    (Code.region id l.toArray true).wp P Q a W := by
  obtain ⟨aE, h1, h2⟩ := h
  refine wp_region_late S n (n + 1) E (fun _ v w' => ∃ B, v = .pointer (some ⟨B, 0, none⟩) ∧ W.heap.size ≤ B ∧ Bx w' B cs) hS
    (fun k v w w' ⟨B, e, hB, hb⟩ hbl => ⟨B, e, hB, hb.next hbl⟩) h0 hm hB (fun k p w' a' K hk hk2 hp hs hb hK => ?_) ⟨aE, h1, fun x w' hs hb hx => ?_⟩
  · have hkn : k = n := by omega
    subst hkn
    rw [ho] at hp
    injection hp with hp
    subst hp
    unfold wpOp
    have ho' : l.toArray[k]? = some o := by simpa using ho
    simp only [ho']
    have hw : Region.wanted o (yielded l.toArray a'.tmps) = true := by unfold Region.wanted; rw [hg]
    rw [hw, if_pos rfl]
    left
    unfold Oper.wp
    rw [hrun]
    exact hK _ _ below_box ⟨w'.heap.size, rfl, hb.size, Bx.new w' cs t⟩
  · have hlt := (List.getElem?_eq_some_iff.1 ho).1
    have e : (l.take (n + 1)).drop n = [o] := by
      rw [List.drop_take, Nat.add_sub_cancel_left]
      rw [List.drop_eq_getElem_cons hlt]
      have := (List.getElem?_eq_some_iff.1 ho).2
      simp [this]
    obtain ⟨B, hx1, hx2, hx3⟩ := hx n (Nat.le_refl _) (by omega)
    rw [e]
    simp only [fill, hd, hx1]
    exact h2 B w' hs hb hx2 hx3 _ rfl

end
end Go.Proofs.YthgfjikhbgippaaDoor.Held
