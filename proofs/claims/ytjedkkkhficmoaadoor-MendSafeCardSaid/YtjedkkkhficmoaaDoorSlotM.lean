/- The same where the late ones' values are told by the others' (`x, y := f()`: the second value may be taken behind the store of the first). -/
import Derived.Test.YtjedkkkhficmoaaDoorSlotY
namespace Go.Proofs.YtjedkkkhficmoaaDoor.Held
open Go Go.RowKit Go.Proofs.YtjedkkkhficmoaaDoor.Inv Go.Proofs.YtjedkkkhficmoaaDoor.Box
set_option linter.unusedVariables false
section
variable {P : Program} {Q : Exit → Act → World → Prop}
/-- the late ones yield, behind the store, what they would yield ahead of it -/
def lateX (P : Program) (l : List Oper) (E : List Nat) (c : Nat → (Nat → Value) → Value) (x : Nat → Value) (aE : Act) (w' : World) : Prop :=
  ∀ i ∈ E, x i = c i x → ∀ o d, l[i]? = some o → o.dst = some d → (execOp aE.eval o).run P w' = .ok (.value (x i)) w'
def LateX (P : Program) (Q : Exit → Act → World → Prop) (l : List Oper) (E : List Nat) (c : Nat → (Nat → Value) → Value) (x : Nat → Value) (rest : List Oper) (aE : Act) (e : Exit) (a' : Act) (w' : World) : Prop :=
  e = .normal ∧ a' = aE ∧ lateX P l E c x aE w' ∧ wpList P l.toArray Q rest aE w'

theorem wp_region_invm {id : Nat} {a : Act} {W : World} {l : List Oper} (m : Nat) (E : List Nat) (c : Nat → (Nat → Value) → Value) (F : Nat → Value → World → Prop) (hm : P.follows .mixedOrders = true) (hB : latB l m a.tmps.size E = true)
    (hF : ∀ k v w' w'', F k v w' → Below w'.heap.size w' w'' → F k v w'') (hc : ∀ i ∈ E, ∀ x w', (∀ k, k < m → k ∉ E → F k (x k) w') → F i (c i x) w') (hx : ∀ i ∈ E, ∀ x y : Nat → Value, (∀ k, k ∉ E → x k = y k) → c i x = c i y)
    (hstep : ∀ (i : Nat) (o : Oper) (x : Nat → Value) (w' : World) (K : Act → World → Prop), i < m → l[i]? = some o → Below W.heap.size W w' → (∀ e ∈ o.after, Region.binds .any e = true → F e.on (x e.on) w') →
      (∀ v w'', Below w'.heap.size w' w'' → F i v w'' → K ((fill (l.take m) 0 x a).put o.dst v) w'') → wpOp P l.toArray Q i K (fill (l.take m) 0 x a) w')
    (hend : ∀ (x : Nat → Value) (w' : World), Below W.heap.size W w' → (∀ k, k < m → F k (x k) w') → wpList P l.toArray (LateX P Q l E c x (l.drop (m + 1)) (fill (l.take m) 0 x a)) ((l.drop m).take 1) (fill (l.take m) 0 x a) w') :
    (Code.region id l.toArray true).wp P Q a W := by
  unfold latB at hB
  simp only [Bool.and_eq_true, decide_eq_true_eq] at hB
  obtain ⟨⟨⟨⟨⟨hml, hsel⟩, hD⟩, hA⟩, hDst⟩, ⟨⟨⟨⟨hSt, hEs⟩, hTm⟩, hTm1⟩, hTt⟩⟩ := hB
  have hdst : ∀ k o, k < m → l[k]? = some o → ∃ d, o.dst = some d ∧ d < a.tmps.size := by
    intro k o hk ho
    have hmem : o ∈ l.take m := List.mem_of_getElem? (i := k) (by rw [List.getElem?_take_of_lt hk]; exact ho)
    have h1 := List.all_eq_true.1 hDst o hmem
    cases hd : o.dst with
    | none => rw [hd] at h1; cases h1
    | some d => rw [hd] at h1; exact ⟨d, rfl, by simpa using h1⟩
  have hselN : ∀ o ∈ l, ∀ cs b, o.op ≠ .select cs b := fun o ho cs b => by
    obtain ⟨k, hk⟩ := List.mem_iff_getElem?.1 ho
    exact Region.noSelect_spec hsel k o cs b (by simpa using hk)
  have hput : ∀ i o x v, i < m → l[i]? = some o → (fill (l.take m) 0 x a).put o.dst v = fill (l.take m) 0 (upd x i v) a := by
    intro i o x v hi ho
    have := fill_put (l.take m) 0 x a i o v hA (by rw [List.getElem?_take_of_lt hi]; exact ho)
    rwa [Nat.zero_add] at this
  obtain ⟨om, hom⟩ : ∃ o, l[m]? = some o := by
    unfold storeB at hSt
    cases h : l[m]? with
    | some o => exact ⟨o, rfl⟩
    | none => rw [h] at hSt; cases hSt
  have hmlt : m < l.length := (List.getElem?_eq_some_iff.1 hom).1
  unfold storeB at hSt
  rw [hom] at hSt
  simp only [Bool.and_eq_true] at hSt
  obtain ⟨⟨⟨hSop, hSd⟩, hSg⟩, hSl⟩ := hSt
  have hSd' : om.dst = none := by simpa using hSd
  have hSg' : om.guard = none := by simpa using hSg
  have hE : ∀ i ∈ E, i < m ∧ (∃ o, l[i]? = some o ∧ o.guard = none) ∧ lookE l m i = true := by
    intro i hi
    have h1 := List.all_eq_true.1 hEs i hi
    simp only [Bool.and_eq_true, decide_eq_true_eq] at h1
    refine ⟨h1.1.1, ?_, h1.2⟩
    have h2 := h1.1.2
    cases h : l[i]? with
    | some o => rw [h] at h2; exact ⟨o, rfl, by simpa using h2⟩
    | none => rw [h] at h2; cases h2
  have htm : ∀ i, i < m → i ∈ E ∨ reachB l 5 m i = true ∨ reachB l 9 m i = true := by
    intro i hi
    have h1 := List.all_eq_true.1 hTm i (List.mem_range.2 hi)
    simp only [Bool.or_eq_true] at h1
    rcases h1 with (h1 | h1) | h1
    · exact .inl (by simpa using h1)
    · exact .inr (.inl h1)
    · exact .inr (.inr h1)
  have htm1 : ∀ i, m + 1 < l.length → i ≤ m → reachB l 5 (m + 1) i = true := by
    intro i hlt hi
    simp only [Bool.or_eq_true, decide_eq_true_eq] at hTm1
    exact List.all_eq_true.1 (hTm1.resolve_left (by omega)) i (List.mem_range.2 (by omega))
  have htail : ∀ t, m + 1 < t → t < l.length → reachB l 5 t (t - 1) = true := by
    intro t ht hlt
    have h1 := List.all_eq_true.1 hTt t (List.mem_range.2 hlt)
    simp only [Bool.or_eq_true, decide_eq_true_eq] at h1
    exact h1.resolve_left (by omega)
  have hsame : ∀ (x y : Nat → Value) (t : Tmp), (∀ k p, k < m → l[k]? = some p → p.dst = some t → x k = y k) → (fill (l.take m) 0 x a).tmps[t]? = (fill (l.take m) 0 y a).tmps[t]? := by
    intro x y t ht
    rcases dst_cases (l.take m) t with hn | ⟨k, p, hk, hd⟩
    · rw [fill_off _ _ _ _ hn, fill_off _ _ _ _ hn]
    · have hkm : k < m := by
        have := (List.getElem?_eq_some_iff.1 hk).1
        simp at this; omega
      have hk' : l[k]? = some p := by rwa [List.getElem?_take_of_lt hkm] at hk
      obtain ⟨d, hd', hlt⟩ := hdst k p hkm hk'
      have hdt : d = t := by rw [hd] at hd'; injection hd' with e; exact e.symm
      subst hdt
      rw [fill_at (l.take m) 0 x a k p hA hk hd hlt, fill_at (l.take m) 0 y a k p hA hk hd hlt, Nat.zero_add]
      congr 1
      exact ht k p hkm hk' hd
  let I : Array Bool → Act → World → Prop := fun L a' w' => L.size = l.length ∧ Down l L ∧
    ((Below W.heap.size W w' ∧ (∀ t, m ≤ t → L.getD t false = false) ∧ ∃ x, a' = fill (l.take m) 0 x a ∧ (∀ k, L.getD k false = true → k < m → F k (x k) w')) ∨
     (L.getD m false = true ∧ (∀ t, m < t → L.getD t false = false) ∧ (∀ k, k < m → k ∉ E → L.getD k false = true) ∧ ∃ x y, a' = fill (l.take m) 0 x a ∧ (∀ k, k ∉ E → x k = y k) ∧ (∀ k, L.getD k false = true → k ∈ E → x k = y k) ∧ (∀ k, L.getD k false = false → k ∈ E → y k = c k y) ∧ lateX P l E c y (fill (l.take m) 0 y a) w' ∧ wpList P l.toArray Q (l.drop (m + 1)) (fill (l.take m) 0 y a) w') ∨
     (∃ t, m + 1 ≤ t ∧ (∀ k, k < t → k < l.length → L.getD k false = true) ∧ (∀ k, t ≤ k → L.getD k false = false) ∧ wpList P l.toArray Q (l.drop t) a' w'))
  have hseq : ∀ (t : Nat) (o : Oper) (L : Array Bool) (a' : Act) (w' : World), l[t]? = some o → L.size = l.length → Down l (L.setIfInBounds t true) → m + 1 ≤ t → (∀ k, k < t → k < l.length → L.getD k false = true) → (∀ k, t ≤ k → L.getD k false = false) → wpList P l.toArray Q (l.drop t) a' w' → wpOp P l.toArray Q t (I (L.setIfInBounds t true)) a' w' := by
    intro t o L a' w' ho hs hdn hmt h1 h2 h3
    have hlt := (List.getElem?_eq_some_iff.1 ho).1
    have hd : l.drop t = o :: l.drop (t + 1) := by
      rw [List.drop_eq_getElem_cons hlt]
      congr 1
      have := (List.getElem?_eq_some_iff.1 ho).2
      exact this
    rw [hd] at h3
    have hw : wpOp P l.toArray Q t (wpList P l.toArray Q (l.drop (t + 1))) a' w' := by
      unfold wpOp
      have ho' : l.toArray[t]? = some o := by simpa using ho
      simp only [ho']
      exact h3
    refine wpOp_mono (fun a2 w2 h4 => ?_) hw
    refine ⟨by simpa using hs, hdn, .inr (.inr ⟨t + 1, by omega, fun k hk hkl => ?_, fun k hk => ?_, h4⟩)⟩
    · by_cases e : k = t
      · subst e
        exact getD_set_here' (by omega)
      · exact getD_set_true (h1 k (by omega) hkl)
    · rw [getD_set_ne false (by omega)]
      exact h2 k (by omega)
  refine wp_region_any hm (wpAny_inv I ?_ ?_ _ _ _ _ ?_ ?_)
  · rintro L a' w' i ⟨hs, hdn, hI⟩ hi
    obtain ⟨hun, o, ho, hdep⟩ := mem_ready.1 hi
    have ho' : l[i]? = some o := by simpa using ho
    have hil := (List.getElem?_eq_some_iff.1 ho').1
    have hunf : L.getD i false = false := getD_both hun
    have hwait : ∀ j, Region.waitsFor .any l.toArray i j = true → L.getD j false = true := fun j hj => waits_spec hj ho' hdep
    rcases hI with ⟨hbl, hT0, x, rfl, hF0⟩ | ⟨hLm, hT0, hLk, x, y, rfl, hxy, hxE, hyc, hlate, hrest⟩ | ⟨t, hmt, h1, h2, h3⟩
    · rcases Nat.lt_or_ge i m with him | him
      · refine hstep i o x w' _ him ho' hbl (fun e he hb => ?_) (fun v w'' hb2 hv => ?_)
        · have h1 := hdep e he hb
          refine hF0 e.on h1 ?_
          rcases Nat.lt_or_ge e.on m with h2 | h2
          · exact h2
          · rw [hT0 e.on h2] at h1; cases h1
        · rw [hput i o x _ him ho']
          refine ⟨by simpa using hs, hdn.set hwait, .inl ⟨hbl.trans (hb2.mono hbl.size), fun t ht => by rw [getD_set_ne false (by omega)]; exact hT0 t ht, _, rfl, fun k hk hkm => ?_⟩⟩
          by_cases e : k = i
          · subst e; simpa [upd] using hv
          · rw [getD_set_ne false (Ne.symm e)] at hk
            simp only [upd]; rw [if_neg e]
            exact hF k _ _ _ (hF0 k hk hkm) hb2
      · have him' : i = m := by
          rcases Nat.lt_or_ge m i with h' | h'
          · exfalso
            rcases Nat.lt_or_ge (m + 1) i with h'' | h''
            · have := hdn.from hwait 5 (i - 1) (htail i h'' hil)
              rw [hT0 (i - 1) (by omega)] at this
              cases this
            · have e : i = m + 1 := by omega
              subst e
              have := hdn.from hwait 5 m (htm1 m hil (Nat.le_refl _))
              rw [hT0 m (Nat.le_refl _)] at this
              cases this
          · omega
        subst him'
        have hoo : o = om := by rw [ho'] at hom; injection hom
        subst hoo
        have hall : ∀ k, k < i → k ∉ E → L.getD k false = true := fun k hk hkE => by
          rcases htm k hk with h | h | h
          · exact absurd h hkE
          · exact hdn.from hwait 5 k h
          · exact hdn.from hwait 9 k h
        obtain ⟨y, hy⟩ : ∃ y : Nat → Value, y = fun k => if k ∈ E ∧ L.getD k false = false then c k x else x k := ⟨_, rfl⟩
        have hxy : ∀ k, k ∉ E → x k = y k := fun k hk => by rw [hy]; exact (if_neg fun h => hk h.1).symm
        have hxE : ∀ k, L.getD k false = true → k ∈ E → x k = y k := fun k hk _ => by rw [hy]; exact (if_neg fun h => by rw [hk] at h; cases h.2).symm
        have hyc : ∀ k, L.getD k false = false → k ∈ E → y k = c k y := fun k hk hkE => by
          have e1 : y k = c k x := by rw [hy]; exact if_pos ⟨hkE, hk⟩
          rw [e1]
          exact hx k hkE x y hxy
        have h4 := hend y w' hbl (fun k hk => by
          by_cases hkE : k ∈ E
          · cases hLk : L.getD k false
            · have e1 : y k = c k x := by rw [hy]; exact if_pos ⟨hkE, hLk⟩
              rw [e1]
              exact hc k hkE x w' fun j hj hjE => hF0 j (hall j hj hjE) hj
            · rw [← hxE k hLk hkE]
              exact hF0 k hLk hk
          · rw [← hxy k hkE]
            exact hF0 k (hall k hk hkE) hk)
        have hlooks : ∀ t ∈ o.looksAt l.toArray, (fill (l.take i) 0 x a).tmps[t]? = (fill (l.take i) 0 y a).tmps[t]? := by
          intro t ht
          refine hsame x y t (fun k p hk1 hk hd => ?_)
          by_cases hkE : k ∈ E
          · exfalso
            have h5 := List.all_eq_true.1 (List.all_eq_true.1 hSl t ht) k hkE
            rw [hk] at h5
            simp [hd] at h5
          · exact hxy k hkE
        obtain ⟨he, _⟩ := exec_agree (hselN o (List.mem_of_getElem? ho')) hlooks
        have hd1 : (l.drop i).take 1 = [o] := by
          rw [List.drop_eq_getElem_cons hil]
          have := (List.getElem?_eq_some_iff.1 ho').2
          simp [this]
        rw [hd1] at h4
        have hwt : ∀ tm, Region.wanted o (yielded l.toArray tm) = true := fun tm => by unfold Region.wanted; rw [hSg']
        rw [wpList, hwt, if_pos rfl] at h4
        unfold wpOp
        simp only [ho, hwt, if_pos]
        left
        rcases h4 with h4 | ⟨_, a0, w0, h4, _⟩
        · unfold Oper.wp at h4 ⊢
          rw [he]
          rcases store_run (P := P) (ρ := (fill (l.take i) 0 y a).eval) (w := w') hSop with ⟨w'', hr⟩ | ⟨y9, w'', hr⟩
          · have hr' : (execOp (Act.eval (fill (l.take i) 0 y a)) o).run P w' = .ok .skip w'' := hr
            rw [hr'] at h4
            rw [hr]
            simp only [Oper.upon, hSd', Act.put, wpList] at h4 ⊢
            obtain ⟨_, _, h5, h6⟩ := h4
            refine ⟨by simpa using hs, hdn.set hwait, .inr (.inl ⟨getD_set_here' (by omega), fun t ht => ?_, fun k hk hkE => getD_set_true' (hall k hk hkE), x, y, rfl, hxy, fun k hk hkE => ?_, fun k hk hkE => ?_, h5, h6⟩)⟩
            · rw [getD_set_ne false (by omega)]; exact hT0 t (by omega)
            · rw [getD_set_ne false (by have := (hE k hkE).1; omega)] at hk
              exact hxE k hk hkE
            · rw [getD_set_ne false (by have := (hE k hkE).1; omega)] at hk
              exact hyc k hk hkE
          · exfalso
            have hr' : (execOp (Act.eval (fill (l.take i) 0 y a)) o).run P w' = .halt y9 w'' := hr
            rw [hr'] at h4
            cases y9 <;> simp [Oper.upon, LateX] at h4
        · cases h4
    · have hiE : i < m → i ∈ E := fun him => by
        by_cases h : i ∈ E
        · exact h
        · rw [hLk i him h] at hunf; cases hunf
      rcases Nat.lt_or_ge i m with him | him
      · have hie := hiE him
        obtain ⟨_, ⟨o2, ho2, hg2⟩, hlk⟩ := hE i hie
        have hoo : o2 = o := by rw [ho'] at ho2; injection ho2 with e; exact e.symm
        subst hoo
        obtain ⟨d, hd, hlt⟩ := hdst i o2 him ho'
        have hrun := hlate i hie (hyc i hunf hie) o2 d ho' hd
        have hlooks : ∀ t ∈ o2.looksAt l.toArray, (fill (l.take m) 0 x a).tmps[t]? = (fill (l.take m) 0 y a).tmps[t]? := by
          intro t ht
          unfold lookE at hlk
          rw [ho'] at hlk
          have h2 := List.all_eq_true.1 hlk t ht
          rw [List.all_eq_true] at h2
          refine hsame x y t (fun k p hkm hk hd => ?_)
          by_cases hkE : k ∈ E
          · have h3 := h2 k (List.mem_range.2 hkm)
            rw [hk] at h3
            simp only [Option.bind_some, hd, bne_self_eq_false, Bool.false_or, Bool.and_eq_true, decide_eq_true_eq] at h3
            exact hxE k (hwait k h3.2) hkE
          · exact hxy k hkE
        obtain ⟨he, _⟩ := exec_agree (hselN o2 (List.mem_of_getElem? ho')) hlooks
        have hwt : ∀ tm, Region.wanted o2 (yielded l.toArray tm) = true := fun tm => by unfold Region.wanted; rw [hg2]
        unfold wpOp
        simp only [ho, hwt, if_pos]
        left
        unfold Oper.wp
        rw [he, hrun]
        simp only [Oper.upon]
        rw [hput i o2 x _ him ho']
        refine ⟨by simpa using hs, hdn.set hwait, .inr (.inl ⟨getD_set_true' hLm, fun t ht => ?_, fun k hk hkE => getD_set_true' (hLk k hk hkE), _, y, rfl, fun k hkE => ?_, fun k hk hkE => ?_, fun k hk hkE => ?_, hlate, hrest⟩)⟩
        · rw [getD_set_ne false (by omega)]; exact hT0 t ht
        · simp only [upd]
          rw [if_neg (fun h9 : k = i => hkE (by rw [h9]; exact hie))]
          exact hxy k hkE
        · by_cases e : k = i
          · subst e; simp [upd]
          · rw [getD_set_ne false (Ne.symm e)] at hk
            simp only [upd]; rw [if_neg e]
            exact hxE k hk hkE
        · have e : k ≠ i := fun e => by
            subst e
            rw [getD_set_here' (by rw [hs]; omega)] at hk
            cases hk
          rw [getD_set_ne false (Ne.symm e)] at hk
          exact hyc k hk hkE
      · have him1 : i = m + 1 := by
          rcases Nat.lt_or_ge (m + 1) i with h' | h'
          · exfalso
            have := hdn.from hwait 5 (i - 1) (htail i h' hil)
            rw [hT0 (i - 1) (by omega)] at this
            cases this
          · rcases Nat.lt_or_ge i (m + 1) with h'' | h''
            · exfalso
              have e : i = m := by omega
              subst e
              rw [hLm] at hunf; cases hunf
            · omega
        subst him1
        have hall : ∀ k, k < m + 1 → L.getD k false = true := fun k hk => hdn.from hwait 5 k (htm1 k hil (by omega))
        have he : x = y := by
          funext k
          by_cases hkE : k ∈ E
          · exact hxE k (hall k (by have := (hE k hkE).1; omega)) hkE
          · exact hxy k hkE
        rw [he]
        exact hseq (m + 1) o L _ w' ho' hs (hdn.set hwait) (Nat.le_refl _) (fun k hk _ => hall k hk) (fun k hk => hT0 k (by omega)) hrest
    · have hti : t ≤ i := by
        rcases Nat.lt_or_ge i t with h' | h'
        · rw [h1 i h' hil] at hunf; cases hunf
        · exact h'
      have hit : i = t := by
        rcases Nat.lt_or_ge t i with h' | h'
        · have := hdn.from hwait 5 (i - 1) (htail i (by omega) hil)
          rw [h2 (i - 1) (by omega)] at this
          cases this
        · omega
      subst hit
      exact hseq i o L _ w' ho' hs (hdn.set hwait) hmt h1 h2 h3
  · rintro L a' w' ⟨hs, hdn, hI⟩ hr
    have hall : ∀ k, k < l.length → L.getD k false = true := fun k hk => all_listed hD (by simpa using hs) hr (k + 1) k (by omega) (by simpa using hk)
    rcases hI with ⟨hbl, hT0, x, rfl, hF0⟩ | ⟨hLm, hT0, hLk, x, y, rfl, hxy, hxE, hyc, hlate, hrest⟩ | ⟨t, hmt, h1, h2, h3⟩
    · exfalso
      have := hall m hmlt
      rw [hT0 m (Nat.le_refl _)] at this
      cases this
    · have he : x = y := by
        funext k
        by_cases hkE : k ∈ E
        · exact hxE k (hall k (by have := (hE k hkE).1; omega)) hkE
        · exact hxy k hkE
      have hml' : m + 1 = l.length := by
        rcases Nat.lt_or_ge (m + 1) l.length with h' | h'
        · have := hall (m + 1) h'
          rw [hT0 (m + 1) (by omega)] at this
          cases this
        · omega
      have h4 : wpList P l.toArray Q (l.drop (m + 1)) (fill (l.take m) 0 x a) w' := by rw [he]; exact hrest
      rw [hml', List.drop_length] at h4
      exact h4
    · have : l.drop t = [] := by
        rcases Nat.lt_or_ge t l.length with h' | h'
        · have := hall t h'
          rw [h2 t (Nat.le_refl _)] at this
          cases this
        · exact List.drop_eq_nil_of_le h'
      rw [this] at h3
      exact h3
  · unfold left
    simp
  · refine ⟨by simp, fun i j hi _ => ?_, .inl ⟨⟨rfl, rfl, rfl, Nat.le_refl _, fun _ _ => rfl⟩, fun t _ => ?_, fun k => match l[k]? with | some o => (match o.dst with | some d => a.tmps.getD d undef | none => undef) | none => undef, (fill_self (l.take m) 0 a _ (fun k o d hk hd => ?_)).symm, fun k hk _ => ?_⟩⟩
    · exfalso
      by_cases h : i < l.length <;> simp [h] at hi
    · by_cases h : t < l.length <;> simp [h]
    · have hkm : k < m := by
        have := (List.getElem?_eq_some_iff.1 hk).1
        simp at this; omega
      rw [List.getElem?_take_of_lt hkm] at hk
      rw [Nat.zero_add]
      simp only [hk, hd]
    · exfalso
      by_cases h : k < l.length <;> simp [h] at hk

end
end Go.Proofs.YtjedkkkhficmoaaDoor.Held
namespace Go.Proofs.YtjedkkkhficmoaaDoor.Slot
open Go Go.RowKit Go.Proofs.YtjedkkkhficmoaaDoor.Inv Go.Proofs.YtjedkkkhficmoaaDoor.Held
section
variable {P : Program} {Q : Exit → Act → World → Prop} {l : List Oper}
/-- the same, its frame a letter -/
theorem wp_region_slotsm {id : Nat} {a : Act} {w : World} (m : Nat) (E : List Nat) (c : Nat → (Nat → Value) → Value) (F : Nat → Value → World → Prop) (hm : P.follows .mixedOrders = true) (hB : latB l m a.tmps.size E = true) (hA : apartB (l.take m) = true) (hI : inB (l.take m) a.tmps.size = true)
    (hF : ∀ k v w' w'', F k v w' → Below w'.heap.size w' w'' → F k v w'') (hc : ∀ i ∈ E, ∀ x w', (∀ k, k < m → k ∉ E → F k (x k) w') → F i (c i x) w') (hx : ∀ i ∈ E, ∀ x y : Nat → Value, (∀ k, k ∉ E → x k = y k) → c i x = c i y)
    (hstep : ∀ (i : Nat) (o : Oper) (x : Nat → Value) (w' : World) (K : Act → World → Prop) (A : Act), i < m → l[i]? = some o → Below w.heap.size w w' → (∀ e ∈ o.after, Region.binds .any e = true → F e.on (x e.on) w') →
      (∀ k p d, (l.take m)[k]? = some p → p.dst = some d → A.tmps[d]? = some (x k)) → (∀ d, (∀ p ∈ l.take m, p.dst ≠ some d) → A.tmps[d]? = a.tmps[d]?) →
      (∀ v w'', Below w'.heap.size w' w'' → F i v w'' → K (A.put o.dst v) w'') → wpOp P l.toArray Q i K A w')
    (hend : ∀ (x : Nat → Value) (w' : World), Below w.heap.size w w' → (∀ k, k < m → F k (x k) w') → wpList P l.toArray (LateX P Q l E c x (l.drop (m + 1)) (fill (l.take m) 0 x a)) ((l.drop m).take 1) (fill (l.take m) 0 x a) w') :
    (Code.region id l.toArray true).wp P Q a w :=
  Held.wp_region_invm m E c F hm hB hF hc hx (fun i o x w' K hi ho hB2 hd hK => hstep i o x w' K _ hi ho hB2 hd
    (fun k p d hk hp => by have := fill_at (l.take m) 0 x a k p hA hk hp (in_of hI hk hp); rwa [Nat.zero_add] at this) (fun d h => fill_other (l.take m) 0 x a h) hK) hend
end
end Go.Proofs.YtjedkkkhficmoaaDoor.Slot
