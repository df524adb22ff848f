/- Plain: a ledger as it is made up again. -/
import Derived.Test.YtjedkkkhficmoaaDoorLgrP
import Derived.Test.YtjedkkkhficmoaaDoorMndO
namespace Go.Proofs.YtjedkkkhficmoaaDoor.MndP
open Go.Proofs.YtjedkkkhficmoaaDoor.LgrP Go.Proofs.YtjedkkkhficmoaaDoor.SatP Go.Proofs.YtjedkkkhficmoaaDoor.Open
set_option linter.unusedVariables false
set_option maxRecDepth 100000

/-- as they are made up: permits, who must stop, who was named -/
structure St where
  l : List Pm
  s : List Int
  n : List Int
/-- a number within what may be drawn -/
def cut (n : Int) : Int := max 0 (min n 1048576)
theorem cut_in (n : Int) : 0 ≤ cut n ∧ cut n ≤ 1048576 := by unfold cut; omega
/-- a car's permit -/
def had (t : List Pm) (c : Int) : Pm := if idx t c < 0 then ⟨0, 0⟩ else (t[(idx t c).toNat]?).getD ⟨0, 0⟩
/-- what a car that moves may draw -/
def dr (t : List Pm) (m : Mv) : Int := cut (max m.p (had t m.c).p)
theorem dr_in (t : List Pm) (m : Mv) : 0 ≤ dr t m ∧ dr t m ≤ 1048576 := cut_in _
/-- is a car's number one? -/
def inC (c : Int) : Bool := decide (0 ≤ c) && decide (c < 64)
theorem inC_iff {c : Int} : inC c = true ↔ 0 ≤ c ∧ c < 64 := by unfold inC; simp
def step (t : List Pm) (b : Int) (x : St) (m : Mv) : St :=
  if inC m.c = true ∧ m.c ∉ x.n then
    if tot (pk x.l) + dr t m ≤ b then ⟨x.l ++ [⟨m.c, dr t m⟩], x.s, x.n ++ [m.c]⟩ else ⟨x.l, x.s ++ [m.c], x.n ++ [m.c]⟩
  else x
def run (t : List Pm) (b : Int) (l : List Mv) : St := l.foldl (step t b) ⟨[], [], []⟩
theorem run_nil (t : List Pm) (b : Int) : run t b [] = ⟨[], [], []⟩ := rfl
theorem run_snoc (t : List Pm) (b : Int) (l : List Mv) (m : Mv) : run t b (l ++ [m]) = step t b (run t b l) m := by simp [run]
theorem run_take {l : List Mv} {k : Nat} {m : Mv} (t : List Pm) (b : Int) (h : l[k]? = some m) : run t b (l.take (k + 1)) = step t b (run t b (l.take k)) m := by
  rw [List.take_add_one, h]
  exact run_snoc t b _ m
theorem step_out {t : List Pm} {b : Int} {x : St} {m : Mv} (h : inC m.c = false ∨ m.c ∈ x.n) : step t b x m = x := if_neg fun ⟨h1, h2⟩ => by
  rcases h with h | h
  · rw [h] at h1; cases h1
  · exact h2 h
theorem step_yes {t : List Pm} {b : Int} {x : St} {m : Mv} (h1 : inC m.c = true) (h2 : m.c ∉ x.n) (h3 : tot (pk x.l) + dr t m ≤ b) : step t b x m = ⟨x.l ++ [⟨m.c, dr t m⟩], x.s, x.n ++ [m.c]⟩ := by
  unfold step
  rw [if_pos ⟨h1, h2⟩, if_pos h3]
theorem step_no {t : List Pm} {b : Int} {x : St} {m : Mv} (h1 : inC m.c = true) (h2 : m.c ∉ x.n) (h3 : ¬ tot (pk x.l) + dr t m ≤ b) : step t b x m = ⟨x.l, x.s ++ [m.c], x.n ++ [m.c]⟩ := by
  unfold step
  rw [if_pos ⟨h1, h2⟩, if_neg h3]

/-- what holds all along -/
structure Ok (b : Int) (x : St) : Prop where
  p : ∀ q ∈ x.l, (0 ≤ q.c ∧ q.c < 64) ∧ 0 ≤ q.p ∧ q.p ≤ 1048576
  lc : ∀ q ∈ x.l, q.c ∈ x.n
  ld : (x.l.map Pm.c).Nodup
  sc : ∀ c ∈ x.s, c ∈ x.n
  sl : ∀ c ∈ x.s, ∀ q ∈ x.l, q.c ≠ c
  nd : x.n.Nodup
  ni : ∀ c ∈ x.n, 0 ≤ c ∧ c < 64
  len : x.n.length = x.l.length + x.s.length
  bud : 0 ≤ b → tot (pk x.l) ≤ b
theorem Ok.start (b : Int) : Ok b ⟨[], [], []⟩ := ⟨by simp, by simp, by simp, by simp, by simp, by simp, by simp, rfl, fun h => by simpa [pk, tot] using h⟩
theorem nodup_snoc' (l : List Int) (x : Int) : (l ++ [x]).Nodup ↔ l.Nodup ∧ x ∉ l := by
  rw [List.nodup_append]
  constructor
  · exact fun ⟨h1, _, h3⟩ => ⟨h1, fun hx => h3 x hx x (by simp) rfl⟩
  · exact fun ⟨h1, h2⟩ => ⟨h1, by simp, fun a ha b hb => by simp at hb; subst hb; exact fun e => h2 (e ▸ ha)⟩
theorem Ok.step {b : Int} {x : St} (h : Ok b x) (t : List Pm) (m : Mv) : Ok b (step t b x m) := by
  by_cases h1 : inC m.c = true
  · by_cases h2 : m.c ∈ x.n
    · rw [step_out (.inr h2)]; exact h
    · have hc := inC_iff.1 h1
      have hni : ∀ c ∈ x.n ++ [m.c], 0 ≤ c ∧ c < 64 := fun c hc' => by
        rcases List.mem_append.1 hc' with h' | h'
        · exact h.ni c h'
        · simp at h'; subst h'; exact hc
      by_cases h3 : tot (pk x.l) + dr t m ≤ b
      · rw [step_yes h1 h2 h3]
        refine ⟨fun q hq => ?_, fun q hq => ?_, ?_, fun c hc' => List.mem_append_left _ (h.sc c hc'), fun c hc' q hq => ?_, (nodup_snoc' _ _).2 ⟨h.nd, h2⟩, hni, by simp only [List.length_append, List.length_singleton]; have := h.len; omega, fun hb => ?_⟩
        · rcases List.mem_append.1 hq with h' | h'
          · exact h.p q h'
          · simp at h'; subst h'; exact ⟨hc, dr_in t m⟩
        · rcases List.mem_append.1 hq with h' | h'
          · exact List.mem_append_left _ (h.lc q h')
          · simp at h'; subst h'; simp
        · simp only [List.map_append, List.map_cons, List.map_nil]
          refine (nodup_snoc' _ _).2 ⟨h.ld, fun hm => ?_⟩
          obtain ⟨q, hq, e⟩ := List.mem_map.1 hm
          exact h2 (e ▸ h.lc q hq)
        · rcases List.mem_append.1 hq with h' | h'
          · exact h.sl c hc' q h'
          · simp at h'; subst h'
            exact fun e => h2 (by simp only at e; rw [e]; exact h.sc c hc')
        · rw [pk_append, tot_append]
          have e1 : tot (pk [⟨m.c, dr t m⟩]) = dr t m := by simp [pk, tot]
          rw [e1]
          exact h3
      · rw [step_no h1 h2 h3]
        refine ⟨h.p, fun q hq => List.mem_append_left _ (h.lc q hq), h.ld, fun c hc' => ?_, fun c hc' q hq => ?_, (nodup_snoc' _ _).2 ⟨h.nd, h2⟩, hni, by simp only [List.length_append, List.length_singleton]; have := h.len; omega, h.bud⟩
        · rcases List.mem_append.1 hc' with h' | h'
          · exact List.mem_append_left _ (h.sc c h')
          · exact List.mem_append_right _ h'
        · rcases List.mem_append.1 hc' with h' | h'
          · exact h.sl c h' q hq
          · simp at h'; subst h'
            exact fun e => h2 (e ▸ h.lc q hq)
  · rw [step_out (.inl (by simpa using h1))]; exact h
theorem ok_fold (t : List Pm) (b : Int) : ∀ (l : List Mv) (x : St), Ok b x → Ok b (l.foldl (step t b) x) := by
  intro l
  induction l with
  | nil => exact fun x h => h
  | cons m l ih => exact fun x h => ih _ (h.step t m)
theorem ok_run (t : List Pm) (b : Int) (l : List Mv) : Ok b (run t b l) := ok_fold t b l _ (Ok.start b)

/-- numbers of cars, none twice, are no more than cars -/
theorem few_cars : ∀ (N : Nat) (l : List Int), l.Nodup → (∀ c ∈ l, 0 ≤ c ∧ c < (N : Int)) → l.length ≤ N := by
  intro N
  induction N with
  | zero =>
    intro l _ h
    cases l with
    | nil => exact Nat.le_refl _
    | cons c l => have := h c (by simp); omega
  | succ N ih =>
    intro l hd h
    have h1 := ih (l.erase (N : Int)) (hd.erase _) fun c hc => by
      have h2 := h c (List.mem_of_mem_erase hc)
      have h3 : c ≠ (N : Int) := fun e => by
        rw [e] at hc
        exact (List.Nodup.mem_erase_iff hd).1 hc |>.1 rfl
      omega
    have h2 := List.length_erase (a := (N : Int)) (l := l)
    split at h2 <;> omega
theorem Ok.few {b : Int} {x : St} (h : Ok b x) : x.n.length ≤ 64 := few_cars 64 x.n h.nd fun c hc => h.ni c hc
theorem Ok.few_l {b : Int} {x : St} (h : Ok b x) : x.l.length ≤ 64 := by have := h.few; have := h.len; omega
theorem Ok.few_s {b : Int} {x : St} (h : Ok b x) : x.s.length ≤ 64 := by have := h.few; have := h.len; omega
theorem Ok.pp {b : Int} {x : St} (h : Ok b x) : ∀ q ∈ x.l, 0 ≤ q.p ∧ q.p ≤ 1048576 := fun q hq => (h.p q hq).2
theorem Ok.sm {b : Int} {x : St} (h : Ok b x) : sm x.l = tot (pk x.l) := sm_tot (by have := h.few_l; omega) h.pp
/-- what Grant tells on the way -/
theorem Ok.ge {b : Int} {x : St} (h : Ok b x) (A : Option Addr) (cap : Nat) (t : List Pm) {m : Mv} (h1 : inC m.c = true) (h2 : m.c ∉ x.n) :
    ge ⟨b, 0, 0, A, cap, x.l⟩ m.c (dr t m) = if tot (pk x.l) + dr t m ≤ b then 0 else 20 := by
  have hc := inC_iff.1 h1
  have hd := dr_in t m
  have e1 : okP ⟨m.c, dr t m⟩ = true := okP_iff.2 ⟨hc, hd⟩
  have e2 : idx x.l m.c = -1 := idx_miss fun j q hj e => h2 (e ▸ h.lc q (List.mem_of_getElem? hj))
  have e3 : fr ⟨b, 0, 0, A, cap, x.l⟩ = 0 := by unfold fr; split <;> simp
  unfold LgrP.ge
  simp only [e1, e2, e3, h.sm]
  by_cases h3 : tot (pk x.l) + dr t m ≤ b
  · rw [if_pos h3, if_neg (by simp), if_neg (by omega), if_neg (by omega)]
  · rw [if_neg h3, if_neg (by simp), if_neg (by omega), if_pos (by omega)]

/-- who is named first is served first -/
theorem step_pre (t : List Pm) (b : Int) (x : St) (m : Mv) : (∃ r, (step t b x m).l = x.l ++ r) ∧ ∃ r, (step t b x m).s = x.s ++ r := by
  unfold step
  split
  · split
    · exact ⟨⟨_, rfl⟩, [], by simp⟩
    · exact ⟨⟨[], by simp⟩, _, rfl⟩
  · exact ⟨⟨[], by simp⟩, [], by simp⟩
theorem fold_pre (t : List Pm) (b : Int) : ∀ (l : List Mv) (x : St), (∃ r, (l.foldl (step t b) x).l = x.l ++ r) ∧ ∃ r, (l.foldl (step t b) x).s = x.s ++ r := by
  intro l
  induction l with
  | nil => exact fun x => ⟨⟨[], by simp⟩, [], by simp⟩
  | cons m l ih =>
    intro x
    obtain ⟨⟨r1, h1⟩, r2, h2⟩ := step_pre t b x m
    obtain ⟨⟨r3, h3⟩, r4, h4⟩ := ih (step t b x m)
    exact ⟨⟨r1 ++ r3, by rw [List.foldl_cons, h3, h1, List.append_assoc]⟩, r2 ++ r4, by rw [List.foldl_cons, h4, h2, List.append_assoc]⟩
theorem run_append (t : List Pm) (b : Int) (l r : List Mv) : (∃ q, (run t b (l ++ r)).l = (run t b l).l ++ q) ∧ ∃ q, (run t b (l ++ r)).s = (run t b l).s ++ q := by
  have := fold_pre t b r (run t b l)
  unfold run at this ⊢
  rw [List.foldl_append]
  exact this

/-- where the budget bears all nobody must stop -/
def ask (l : List Mv) : Int := tot (l.map fun m => max (min m.p 1048576) 0)
theorem ask_snoc (l : List Mv) (m : Mv) : ask (l ++ [m]) = ask l + max (min m.p 1048576) 0 := by
  unfold ask
  rw [List.map_append, tot_append]
  simp [tot]
theorem ask_nn (l : List Mv) : 0 ≤ ask l ∧ ask l ≤ 1048576 * (l.length : Int) := by
  induction l with
  | nil => simp [ask, tot]
  | cons m l ih => simp only [ask, tot, List.map_cons, List.foldr_cons, List.length_cons] at *; omega
theorem ask_take {l : List Mv} {k : Nat} {m : Mv} (h : l[k]? = some m) : ask (l.take (k + 1)) = ask (l.take k) + max (min m.p 1048576) 0 := by
  rw [List.take_add_one, h]
  exact ask_snoc _ m
theorem ask_take_le (l : List Mv) (k : Nat) : ask (l.take k) ≤ ask l := by
  have e : l.map (fun m => max (min m.p 1048576) 0) = (l.take k).map (fun m => max (min m.p 1048576) 0) ++ (l.drop k).map (fun m => max (min m.p 1048576) 0) := by rw [← List.map_append, List.take_append_drop]
  have h := (ask_nn (l.drop k)).1
  unfold ask at *
  rw [e, tot_append]
  omega
theorem dr_nil (m : Mv) : dr [] m = max (min m.p 1048576) 0 := by
  have : had [] m.c = ⟨0, 0⟩ := rfl
  unfold dr cut
  rw [this]
  simp only
  omega
theorem all_of {l : List Mv} {b : Int} (h : ask l ≤ b) : (run [] b l).s = [] ∧ tot (pk (run [] b l).l) ≤ ask l := by
  have key : ∀ k, k ≤ l.length → (run [] b (l.take k)).s = [] ∧ tot (pk (run [] b (l.take k)).l) ≤ ask (l.take k) := by
    intro k
    induction k with
    | zero => intro _; simp [run_nil, pk, tot, ask]
    | succ k ih =>
      intro hk
      obtain ⟨h1, h2⟩ := ih (by omega)
      have hm : l[k]? = some l[k] := List.getElem?_eq_getElem (by omega)
      have hle := ask_take_le l (k + 1)
      rw [run_take [] b hm]
      rw [ask_take hm] at hle ⊢
      have hd := dr_nil l[k]
      by_cases c1 : inC l[k].c = true
      · by_cases c2 : l[k].c ∈ (run [] b (l.take k)).n
        · rw [step_out (.inr c2)]; exact ⟨h1, by omega⟩
        · rw [step_yes c1 c2 (by omega)]
          refine ⟨h1, ?_⟩
          rw [pk_append, tot_append]
          have e1 : tot (pk [⟨l[k].c, dr [] l[k]⟩]) = dr [] l[k] := by simp [pk, tot]
          rw [e1]
          omega
      · rw [step_out (.inl (by simpa using c1))]; exact ⟨h1, by omega⟩
  have := key l.length (Nat.le_refl _)
  rwa [List.take_of_length_le (Nat.le_refl _)] at this

/-- who was named is among those that move -/
theorem mem_n {t : List Pm} {b : Int} {c : Int} (hc : inC c = true) (l : List Mv) : ∀ k, k ≤ l.length → (c ∈ (run t b (l.take k)).n ↔ ∃ (j : Nat) (m : Mv), j < k ∧ l[j]? = some m ∧ m.c = c) := by
  intro k
  induction k with
  | zero => intro _; simp [run_nil]
  | succ k ih =>
    intro hk
    have ih := ih (by omega)
    have hm : l[k]? = some l[k] := List.getElem?_eq_getElem (by omega)
    rw [run_take t b hm]
    by_cases c1 : l[k].c = c
    · refine iff_of_true ?_ ⟨k, _, by omega, hm, c1⟩
      by_cases c2 : l[k].c ∈ (run t b (l.take k)).n
      · rw [step_out (.inr c2)]; exact c1 ▸ c2
      · have c3 : inC l[k].c = true := by rw [c1]; exact hc
        by_cases c4 : tot (pk (run t b (l.take k)).l) + dr t l[k] ≤ b
        · rw [step_yes c3 c2 c4]; simp [c1]
        · rw [step_no c3 c2 c4]; simp [c1]
    · have e1 : (∃ (j : Nat) (m : Mv), j < k + 1 ∧ l[j]? = some m ∧ m.c = c) ↔ ∃ (j : Nat) (m : Mv), j < k ∧ l[j]? = some m ∧ m.c = c := by
        constructor
        · rintro ⟨j, m, h1, h2, h3⟩
          by_cases e : j = k
          · subst e; rw [hm] at h2; injection h2 with h2; subst h2; exact absurd h3 c1
          · exact ⟨j, m, by omega, h2, h3⟩
        · rintro ⟨j, m, h1, h2, h3⟩
          exact ⟨j, m, by omega, h2, h3⟩
      rw [e1, ← ih]
      unfold step
      split
      · split <;> simp [Ne.symm c1]
      · exact Iff.rfl
/-- whoever is first of a number: a permit of what it may draw, or it must stop -/
theorem first_fate {t : List Pm} {b : Int} {l : List Mv} {k : Nat} {m : Mv} (hk : l[k]? = some m) (hc : inC m.c = true) (hf : ∀ (j : Nat) (q : Mv), j < k → l[j]? = some q → q.c ≠ m.c) :
    (⟨m.c, dr t m⟩ ∈ (run t b l).l ∧ m.c ∉ (run t b l).s) ∨ (m.c ∈ (run t b l).s ∧ ∀ q ∈ (run t b l).l, q.c ≠ m.c) := by
  have hl := (List.getElem?_eq_some_iff.1 hk).1
  have h2 : m.c ∉ (run t b (l.take k)).n := fun h => by
    obtain ⟨j, q, h3, h4, h5⟩ := (mem_n hc l k (by omega)).1 h
    exact hf j q h3 h4 h5
  have h3 := run_take t b hk
  have hp := run_append t b (l.take (k + 1)) (l.drop (k + 1))
  rw [List.take_append_drop] at hp
  obtain ⟨⟨r1, e1⟩, r2, e2⟩ := hp
  have ok := ok_run t b l
  by_cases h4 : tot (pk (run t b (l.take k)).l) + dr t m ≤ b
  · have hm : (⟨m.c, dr t m⟩ : Pm) ∈ (run t b l).l := by rw [e1, h3, step_yes hc h2 h4]; simp
    exact .inl ⟨hm, fun h => ok.sl _ h _ hm rfl⟩
  · have hm : m.c ∈ (run t b l).s := by rw [e2, h3, step_no hc h2 h4]; simp
    exact .inr ⟨hm, fun q hq => ok.sl _ hm q hq⟩
/-- of permits no two of which are one car's a car's is found -/
theorem had_mem {l : List Pm} (hd : (l.map Pm.c).Nodup) {p : Pm} (hp : p ∈ l) : had l p.c = p ∧ 0 ≤ idx l p.c := by
  obtain ⟨k, hk⟩ := List.getElem?_of_mem hp
  have e : idx l p.c = k := idx_hit hk rfl fun j q hj hq e => by
    have h1 : (l.map Pm.c)[j]? = some q.c := by simp [hq]
    have h2 : (l.map Pm.c)[k]? = some p.c := by simp [hk]
    have hjl := (List.getElem?_eq_some_iff.1 hq).1
    have := (List.getElem?_inj (by simpa using hjl) hd).1 (h1.trans (by rw [e]; exact h2.symm))
    omega
  refine ⟨?_, by omega⟩
  unfold had
  rw [e, if_neg (by omega)]
  simp [hk]
theorem had_none {l : List Pm} {c : Int} (h : ∀ q ∈ l, q.c ≠ c) : idx l c = -1 := idx_miss fun j q hj => h q (List.mem_of_getElem? hj)
/-- a ledger as it is made up may be one -/
theorem apart_of : ∀ (l pre : List Pm), (∀ q ∈ l, okP q = true) → ((pre ++ l).map Pm.c).Nodup → apart pre l = true := by
  intro l
  induction l with
  | nil => intro pre _ _; rfl
  | cons p l ih =>
    intro pre h1 h2
    unfold apart
    have e1 := h1 p (by simp)
    have e2 : idx pre p.c = -1 := had_none fun q hq e => by
      rw [List.map_append, List.nodup_append] at h2
      exact h2.2.2 q.c (List.mem_map.2 ⟨q, hq, rfl⟩) p.c (by simp) e
    rw [e1, e2, ih (pre ++ [p]) (fun q hq => h1 q (List.mem_cons_of_mem _ hq)) (by simpa using h2)]
    decide
theorem Ok.may {b : Int} {x : St} (h : Ok b x) (hb : 0 ≤ b ∧ b ≤ 1048576) {m : Int} (hm : 0 ≤ m ∧ m ≤ 1048576) (A : Option Addr) (c : Nat) : mayB ⟨b, m, 0, A, c, x.l⟩ = true := by
  have e1 := apart_of x.l [] (fun q hq => okP_iff.2 (h.p q hq)) (by simpa using h.ld)
  have e2 := pwr_iff.2 hb
  have e3 := pwr_iff.2 hm
  unfold mayB
  simp only [e1, e2, e3, h.sm]
  simpa [pwr] using h.bud hb.1
theorem run_len (t : List Pm) (b : Int) (l : List Mv) : (run t b l).n.length ≤ l.length := by
  have key : ∀ k, k ≤ l.length → (run t b (l.take k)).n.length ≤ k := by
    intro k
    induction k with
    | zero => intro _; simp [run_nil]
    | succ k ih =>
      intro hk
      have h1 := ih (by omega)
      rw [run_take t b (List.getElem?_eq_getElem (by omega : k < l.length))]
      unfold step
      split
      · split <;> simp <;> omega
      · omega
  have := key l.length (Nat.le_refl _)
  rwa [List.take_of_length_le (Nat.le_refl _)] at this

end Go.Proofs.YtjedkkkhficmoaaDoor.MndP
