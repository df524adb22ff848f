/- Plain mathematics of phases: which may follow which, which may be at one time, which rows follow each other: no program is named here. -/
import Derived.Test.YthgfjikhbgippaaDoorPlain
namespace Go.Proofs.YthgfjikhbgippaaDoor.PhaP
set_option linter.unusedVariables false

/-- a phase's number -/
def kn (p : Int) : Bool := decide (0 ≤ p) && decide (p < 6)
/-- what may follow it, as bits -/
def tb (p : Int) : Nat := if p = 0 then 35 else if p = 1 then 39 else if p = 2 then 46 else if p = 3 then 59 else if p = 4 then 59 else 35
def my (a b : Int) : Bool := kn a && kn b && (tb a).testBit b.toNat
/-- recalled, or serving -/
def gn (p : Int) : Bool := p == 2 || p == 4
/-- normal, or out -/
def qt (p : Int) : Bool := p == 0 || p == 5
/-- may be at one time -/
def ft (l : List Int) : Bool := l.all kn && (!l.contains 0 || l.all qt) && decide (l.countP gn ≤ 1)
/-- may follow in one tick -/
def fo (l m : List Int) : Bool := decide (l.length = m.length) && ft l && ft m && (l.zip m).all fun p => my p.1 p.2
/-- row number j fits, or follows the one ahead of it -/
def gd (rs : List (List Int)) (j : Nat) : Bool := if j = 0 then ft (rs[j]?.getD []) else fo (rs[j - 1]?.getD []) (rs[j]?.getD [])
/-- n rows follow each other, and no more -/
structure Ac (rs : List (List Int)) (n : Nat) : Prop where
  le : n ≤ rs.length
  all : ∀ j, j < n → gd rs j = true
  no : n < rs.length → gd rs n = false

theorem kn_iff {p : Int} : kn p = true ↔ 0 ≤ p ∧ p < 6 := by unfold kn; simp
theorem kn_no {p : Int} : kn p = false ↔ ¬ (0 ≤ p ∧ p < 6) := by rw [← kn_iff]; simp
theorem kn_six {p : Int} (h : kn p = true) : p = 0 ∨ p = 1 ∨ p = 2 ∨ p = 3 ∨ p = 4 ∨ p = 5 := by have := kn_iff.1 h; omega
theorem my_kn {a b : Int} (h : my a b = true) : kn a = true ∧ kn b = true := by unfold my at h; simp at h; exact h.1

theorem ft_iff {l : List Int} : ft l = true ↔ (∀ p ∈ l, kn p = true) ∧ (0 ∈ l → ∀ p ∈ l, qt p = true) ∧ l.countP gn ≤ 1 := by
  unfold ft
  simp only [Bool.and_eq_true, Bool.or_eq_true, Bool.not_eq_true', decide_eq_true_eq, List.all_eq_true, and_assoc]
  constructor
  · rintro ⟨h1, h2, h3⟩
    refine ⟨h1, fun h => ?_, h3⟩
    rcases h2 with h2 | h2
    · have : l.contains 0 = true := by simpa using h
      rw [h2] at this; cases this
    · exact h2
  · rintro ⟨h1, h2, h3⟩
    refine ⟨h1, ?_, h3⟩
    by_cases h : (0 : Int) ∈ l
    · exact .inr (h2 h)
    · exact .inl (by simpa using h)
theorem ft_nil : ft [] = true := by decide
theorem ft_no {l : List Int} (h : ¬ ft l = true) : ft l = false := by simpa using h

/-- how many are so -/
def ct (j : Nat) (l : List Int) : Nat := l.countP fun p => p == (j : Int)
theorem ct_le (j : Nat) (l : List Int) : ct j l ≤ l.length := List.countP_le_length
theorem ct_snoc (j : Nat) (l : List Int) (p : Int) : ct j (l ++ [p]) = ct j l + if p = (j : Int) then 1 else 0 := by
  unfold ct
  rw [List.countP_append]
  simp [List.countP_cons]
theorem gn_ct (l : List Int) : l.countP gn = ct 2 l + ct 4 l := by
  unfold ct
  induction l with
  | nil => rfl
  | cons x t ih =>
    simp only [List.countP_cons, ih]
    have hx : gn x = (x == 2 || x == 4) := rfl
    rw [hx]
    by_cases h2 : x = 2
    · subst h2; simp; omega
    · by_cases h4 : x = 4
      · subst h4; simp; omega
      · have a : (x == 2) = false := by simpa using h2
        have b : (x == 4) = false := by simpa using h4
        simp [a, b]
theorem qt_ct (l : List Int) : l.countP qt = ct 0 l + ct 5 l := by
  unfold ct
  induction l with
  | nil => rfl
  | cons x t ih =>
    simp only [List.countP_cons, ih]
    have hx : qt x = (x == 0 || x == 5) := rfl
    rw [hx]
    by_cases h2 : x = 0
    · subst h2; simp; omega
    · by_cases h4 : x = 5
      · subst h4; simp; omega
      · have a : (x == 0) = false := by simpa using h2
        have b : (x == 5) = false := by simpa using h4
        simp [a, b]
theorem ct_pos {l : List Int} : 0 < ct 0 l ↔ (0 : Int) ∈ l := by
  unfold ct
  rw [List.countP_pos_iff]
  constructor
  · rintro ⟨a, h, e⟩
    have : a = 0 := by simpa using e
    exact this ▸ h
  · intro h
    exact ⟨0, h, by simp⟩
theorem qt_all {l : List Int} : l.countP qt = l.length ↔ ∀ p ∈ l, qt p = true := List.countP_eq_length
theorem gn_not_qt {p : Int} (h : qt p = true) : gn p = false := by
  unfold qt at h
  unfold gn
  simp at h ⊢
  omega
theorem gn_none {l : List Int} (h : ∀ p ∈ l, qt p = true) : l.countP gn = 0 := by
  rw [List.countP_eq_zero]
  intro a ha
  rw [gn_not_qt (h a ha)]
  simp
/-- as they are counted, where one is normal -/
theorem ft_some {l : List Int} (h : ∀ p ∈ l, kn p = true) (h0 : 0 < ct 0 l) : ft l = decide (ct 0 l + ct 5 l = l.length) := by
  by_cases h1 : ct 0 l + ct 5 l = l.length
  · rw [decide_eq_true h1]
    rw [← qt_ct, qt_all] at h1
    exact ft_iff.2 ⟨h, fun _ => h1, by rw [gn_none h1]; omega⟩
  · rw [decide_eq_false h1]
    refine ft_no fun hf => h1 ?_
    rw [← qt_ct, qt_all]
    exact (ft_iff.1 hf).2.1 (ct_pos.1 h0)
/-- .. and where none is -/
theorem ft_none {l : List Int} (h : ∀ p ∈ l, kn p = true) (h0 : ct 0 l = 0) : ft l = decide (ct 2 l + ct 4 l ≤ 1) := by
  have hn : (0 : Int) ∉ l := fun hm => by have := ct_pos.2 hm; omega
  by_cases h1 : ct 2 l + ct 4 l ≤ 1
  · rw [decide_eq_true h1]
    exact ft_iff.2 ⟨h, fun hm => absurd hm hn, by rw [gn_ct]; exact h1⟩
  · rw [decide_eq_false h1]
    refine ft_no fun hf => h1 ?_
    rw [← gn_ct]
    exact (ft_iff.1 hf).2.2
theorem ft_unknown {l : List Int} {p : Int} (h : p ∈ l) (hp : kn p = false) : ft l = false :=
  ft_no fun hf => by have := (ft_iff.1 hf).1 p h; rw [hp] at this; cases this

/-- two of them at different places -/
theorem count_two {α : Type} (q : α → Bool) : ∀ (l : List α), (∀ (i k : Nat) (x y : α), l[i]? = some x → l[k]? = some y → i < k → q x = true → q y = true → False) → l.countP q ≤ 1 := by
  intro l
  induction l with
  | nil => intro _; simp
  | cons x t ih =>
    intro h
    rw [List.countP_cons]
    by_cases hx : q x = true
    · have : t.countP q = 0 := by
        rw [List.countP_eq_zero]
        intro y hy hq
        obtain ⟨k, hk⟩ := List.getElem?_of_mem hy
        exact h 0 (k + 1) x y rfl (by simpa using hk) (by omega) hx hq
      rw [this, if_pos hx]; omega
    · rw [if_neg hx]
      have := ih fun i k x y h1 h2 h3 => h (i + 1) (k + 1) x y (by simpa using h1) (by simpa using h2) (by omega)
      omega
theorem two_count {α : Type} (q : α → Bool) : ∀ (l : List α) (i k : Nat) (x y : α), l[i]? = some x → l[k]? = some y → i < k → q x = true → q y = true → 2 ≤ l.countP q := by
  intro l
  induction l with
  | nil => intro i k x y h; simp at h
  | cons z t ih =>
    intro i k x y h1 h2 hik hx hy
    rw [List.countP_cons]
    obtain ⟨k, rfl⟩ : ∃ k', k = k' + 1 := ⟨k - 1, by omega⟩
    have h2' : t[k]? = some y := by simpa using h2
    have hpos : 0 < t.countP q := List.countP_pos_iff.2 ⟨y, List.mem_of_getElem? h2', hy⟩
    cases i with
    | zero =>
      have : z = x := by simpa using h1
      subst this
      rw [if_pos hx]; omega
    | succ i =>
      have := ih i k x y (by simpa using h1) h2' (by omega) hx hy
      omega
theorem ft_pairs {l : List Int} (h1 : ∀ (i : Nat) (x : Int), l[i]? = some x → kn x = true) (h2 : ∀ (i k : Nat) (x y : Int), l[i]? = some x → l[k]? = some y → i ≠ k → gn x = true → gn y = true → False)
    (h3 : ∀ (i k : Nat) (x y : Int), l[i]? = some x → l[k]? = some y → x = 0 → qt y = true) : ft l = true := by
  refine ft_iff.2 ⟨fun p hp => ?_, fun h0 p hp => ?_, count_two gn l fun i k x y a b c => h2 i k x y a b (by omega)⟩
  · obtain ⟨i, hi⟩ := List.getElem?_of_mem hp
    exact h1 i p hi
  · obtain ⟨i, hi⟩ := List.getElem?_of_mem h0
    obtain ⟨k, hk⟩ := List.getElem?_of_mem hp
    exact h3 i k 0 p hi hk rfl
theorem pair_gn {l : List Int} {i k : Nat} {x y : Int} (h1 : l[i]? = some x) (h2 : l[k]? = some y) (h : i ≠ k) (hx : gn x = true) (hy : gn y = true) : ft l = false := by
  refine ft_no fun hf => ?_
  have h3 := (ft_iff.1 hf).2.2
  rcases Nat.lt_or_gt_of_ne h with h | h
  · have := two_count gn l i k x y h1 h2 h hx hy; omega
  · have := two_count gn l k i y x h2 h1 h hy hx; omega
theorem pair_qt {l : List Int} {i k : Nat} {y : Int} (h1 : l[i]? = some 0) (h2 : l[k]? = some y) (hy : qt y = false) : ft l = false := by
  refine ft_no fun hf => ?_
  have := (ft_iff.1 hf).2.1 (List.mem_of_getElem? h1) y (List.mem_of_getElem? h2)
  rw [hy] at this; cases this
/-- some of them, in whatever order -/
theorem ft_part {l a : List Int} (hc : ∀ q : Int → Bool, a.countP q ≤ l.countP q) (h : ft l = true) : ft a = true := by
  obtain ⟨h1, h2, h3⟩ := ft_iff.1 h
  have hm : ∀ p ∈ a, p ∈ l := fun p hp => by
    have h4 := hc fun q => q == p
    have h5 : 0 < a.countP fun q => q == p := List.countP_pos_iff.2 ⟨p, hp, by simp⟩
    obtain ⟨q, hq, e⟩ := List.countP_pos_iff.1 (Nat.lt_of_lt_of_le h5 h4)
    have : q = p := by simpa using e
    exact this ▸ hq
  exact ft_iff.2 ⟨fun p hp => h1 p (hm p hp), fun h0 p hp => h2 (hm 0 h0) p (hm p hp), Nat.le_trans (hc gn) h3⟩

theorem fo_len {l m : List Int} (h : ¬ l.length = m.length) : fo l m = false := by unfold fo; rw [decide_eq_false h]; rfl
theorem fo_from {l m : List Int} (h : ft l = false) : fo l m = false := by unfold fo; rw [h]; simp
theorem fo_to {l m : List Int} (h : ft m = false) : fo l m = false := by unfold fo; rw [h]; simp
theorem zip_at {l m : List Int} {i : Nat} {x y : Int} (h1 : l[i]? = some x) (h2 : m[i]? = some y) : (l.zip m)[i]? = some (x, y) := by
  rw [List.getElem?_zip_eq_some]; exact ⟨h1, h2⟩
theorem fo_no {l m : List Int} {i : Nat} {x y : Int} (h1 : l[i]? = some x) (h2 : m[i]? = some y) (h : my x y = false) : fo l m = false := by
  unfold fo
  have : ((l.zip m).all fun p => my p.1 p.2) = false := by
    rw [List.all_eq_false]
    exact ⟨(x, y), List.mem_of_getElem? (zip_at h1 h2), by simp [h]⟩
  rw [this]; simp
theorem fo_yes {l m : List Int} (hl : l.length = m.length) (h1 : ft l = true) (h2 : ft m = true) (h : ∀ (i : Nat) (x y : Int), l[i]? = some x → m[i]? = some y → my x y = true) : fo l m = true := by
  unfold fo
  rw [h1, h2, decide_eq_true hl]
  simp only [Bool.and_true, Bool.true_and]
  rw [List.all_eq_true]
  intro p hp
  obtain ⟨i, hi⟩ := List.getElem?_of_mem hp
  have := List.getElem?_zip_eq_some.1 hi
  exact h i p.1 p.2 this.1 this.2
theorem fo_iff {l m : List Int} : fo l m = true ↔ l.length = m.length ∧ ft l = true ∧ ft m = true ∧ ∀ (i : Nat) (x y : Int), l[i]? = some x → m[i]? = some y → my x y = true := by
  constructor
  · intro h
    have h0 := h
    unfold fo at h
    simp only [Bool.and_eq_true, decide_eq_true_eq] at h
    refine ⟨h.1.1.1, h.1.1.2, h.1.2, fun i x y h1 h2 => ?_⟩
    cases hm : my x y
    · rw [fo_no h1 h2 hm] at h0; cases h0
    · rfl
  · rintro ⟨h1, h2, h3, h4⟩
    exact fo_yes h1 h2 h3 h4

theorem ac_ex (rs : List (List Int)) : ∃ n, Ac rs n := by
  have h : ∀ k, k ≤ rs.length → (∀ j, j < k → gd rs j = true) ∨ ∃ n, Ac rs n := by
    intro k
    induction k with
    | zero => intro _; exact .inl fun j hj => by omega
    | succ k ih =>
      intro hk
      rcases ih (by omega) with h | h
      · cases hg : gd rs k
        · exact .inr ⟨k, by omega, h, fun _ => hg⟩
        · refine .inl fun j hj => ?_
          by_cases e : j = k
          · exact e ▸ hg
          · exact h j (by omega)
      · exact .inr h
  rcases h rs.length (Nat.le_refl _) with h | h
  · exact ⟨_, Nat.le_refl _, h, fun h => by omega⟩
  · exact h
theorem ac_one {rs : List (List Int)} {n m : Nat} (h : Ac rs n) (k : Ac rs m) : n = m := by
  rcases Nat.lt_trichotomy n m with e | e | e
  · have h1 := h.no (by have := k.le; omega)
    rw [k.all n e] at h1; cases h1
  · exact e
  · have h1 := k.no (by have := h.le; omega)
    rw [h.all m e] at h1; cases h1
theorem gd_fits {rs : List (List Int)} {j : Nat} (h : gd rs j = true) : ft (rs[j]?.getD []) = true := by
  unfold gd at h
  split at h
  · exact h
  · exact (fo_iff.1 h).2.2.1
/-- the rows from k to n -/
theorem ac_cut {rs : List (List Int)} {n k : Nat} (h : Ac rs n) (hk : k ≤ n) : Ac ((rs.take n).drop k) (n - k) := by
  have hl : ((rs.take n).drop k).length = n - k := by have := h.le; simp; omega
  have hat : ∀ j, j < n - k → ((rs.take n).drop k)[j]? = rs[k + j]? := fun j hj => by
    rw [List.getElem?_drop, List.getElem?_take_of_lt (by omega)]
  refine ⟨by omega, fun j hj => ?_, fun hn => by omega⟩
  have hg := h.all (k + j) (by omega)
  by_cases h0 : j = 0
  · subst h0
    unfold gd
    rw [if_pos rfl, hat 0 hj]
    exact gd_fits hg
  · unfold gd at hg ⊢
    rw [if_neg h0, hat j hj, hat (j - 1) (by omega)]
    rw [if_neg (by omega), show k + j - 1 = k + (j - 1) by omega] at hg
    exact hg
theorem ac_head {rs : List (List Int)} {n k : Nat} (h : Ac rs n) (hk : k ≤ n) : Ac (rs.take k) k := by
  have h1 : Ac rs n := h
  have hl : (rs.take k).length = k := by have := h.le; simp; omega
  have hat : ∀ j, j < k → (rs.take k)[j]? = rs[j]? := fun j hj => List.getElem?_take_of_lt hj
  refine ⟨by omega, fun j hj => ?_, fun hn => by omega⟩
  have hg := h.all j (by omega)
  unfold gd at hg ⊢
  by_cases h0 : j = 0
  · subst h0
    rw [if_pos rfl] at hg ⊢
    rw [hat 0 hj]; exact hg
  · rw [if_neg h0] at hg ⊢
    rw [hat j hj, hat (j - 1) (by omega)]; exact hg

/-- as the reference tells it -/
def ry (a b : Int) : Bool :=
  if a < 0 ∨ 5 < a ∨ b < 0 ∨ 5 < b then false else if a = b ∨ b = 5 then true
  else if a = 0 then b == 1 else if a = 1 then b == 0 || b == 2 else if a = 2 then b == 1 || b == 3
  else if a = 3 then b == 0 || b == 1 || b == 4 else if a = 4 then b == 0 || b == 1 || b == 3 else b == 0 || b == 1
theorem my_out {a b : Int} (h : kn a = false ∨ kn b = false) : my a b = false := by
  unfold my
  rcases h with h | h <;> rw [h] <;> simp
/-- what it says of all numbers -/
theorem my_all (P : Int → Int → Bool → Prop) (ho : ∀ a b, kn a = false ∨ kn b = false → P a b false)
    (h : ∀ a : Fin 6, ∀ b : Fin 6, P (a.val : Nat) (b.val : Nat) (my (a.val : Nat) (b.val : Nat))) (a b : Int) : P a b (my a b) := by
  cases ha : kn a
  · rw [my_out (.inl ha)]; exact ho a b (.inl ha)
  · cases hb : kn b
    · rw [my_out (.inr hb)]; exact ho a b (.inr hb)
    · have h1 := kn_iff.1 ha
      have h2 := kn_iff.1 hb
      have := h ⟨a.toNat, by omega⟩ ⟨b.toNat, by omega⟩
      simp only [Int.toNat_of_nonneg h1.1, Int.toNat_of_nonneg h2.1] at this
      exact this
theorem my_self {a : Int} (h : kn a = true) : my a a = true := by
  rcases kn_six h with h | h | h | h | h | h <;> subst h <;> decide
theorem my_five {a : Int} (h : kn a = true) : my a 5 = true := by
  rcases kn_six h with h | h | h | h | h | h <;> subst h <;> decide
theorem five_my {a : Int} (h : kn a = true) : my 5 a = (a == 5 || a == 0 || a == 1) := by
  rcases kn_six h with h | h | h | h | h | h <;> subst h <;> decide
theorem fo_self (l : List Int) : fo l l = ft l := by
  cases h : ft l
  · exact fo_from h
  · refine fo_yes rfl h h fun i x y h1 h2 => ?_
    obtain rfl : x = y := Option.some.inj (h1.symm.trans h2)
    exact my_self ((ft_iff.1 h).1 x (List.mem_of_getElem? h1))
theorem count_set {q : Int → Bool} : ∀ (l : List Int) (i : Nat) (x : Int), q x = false → (l.set i x).countP q ≤ l.countP q := by
  intro l
  induction l with
  | nil => intro i x h; simp
  | cons y t ih =>
    intro i x h
    cases i with
    | zero =>
      rw [List.set_cons_zero, List.countP_cons, List.countP_cons]
      simp [h]
    | succ i =>
      rw [List.set_cons_succ, List.countP_cons, List.countP_cons]
      have := ih i x h
      omega
/-- one of them out -/
theorem ft_out {l : List Int} (h : ft l = true) (i : Nat) : ft (l.set i 5) = true := by
  obtain ⟨h1, h2, h3⟩ := ft_iff.1 h
  refine ft_iff.2 ⟨fun p hp => ?_, fun h0 p hp => ?_, Nat.le_trans (count_set l i 5 (by decide)) h3⟩
  · rcases List.mem_or_eq_of_mem_set hp with hp | rfl
    · exact h1 p hp
    · decide
  · have h0' : (0 : Int) ∈ l := by
      rcases List.mem_or_eq_of_mem_set h0 with h0 | h0
      · exact h0
      · cases h0
    rcases List.mem_or_eq_of_mem_set hp with hp | rfl
    · exact h2 h0' p hp
    · decide
theorem fo_out {l : List Int} (h : ft l = true) (i : Nat) : fo l (l.set i 5) = true := by
  refine fo_yes (by simp) h (ft_out h i) fun k x y h1 h2 => ?_
  have hk := (ft_iff.1 h).1 x (List.mem_of_getElem? h1)
  by_cases e : i = k
  · subst e
    have hlt := (List.getElem?_eq_some_iff.1 h1).1
    rw [List.getElem?_set_self hlt] at h2
    obtain rfl := Option.some.inj h2
    exact my_five hk
  · rw [List.getElem?_set_ne e] at h2
    obtain rfl : x = y := Option.some.inj (h1.symm.trans h2)
    exact my_self hk
theorem ac_out {l : List Int} (h : ft l = true) (i : Nat) : Ac [l, l, l.set i 5] 3 := by
  refine ⟨Nat.le_refl _, fun j hj => ?_, fun hn => by simp at hn⟩
  match j, hj with
  | 0, _ => exact h
  | 1, _ => show fo l l = true; rw [fo_self]; exact h
  | 2, _ => exact fo_out h i

/-- every second one from the last on -/
def hf (l : List Int) (k : Nat) : List Int := (List.range k).map fun j => l[l.length - 1 - 2 * j]?.getD 0
theorem hf_snoc (l : List Int) (k : Nat) : hf l (k + 1) = hf l k ++ [l[l.length - 1 - 2 * k]?.getD 0] := by
  unfold hf
  rw [List.range_succ, List.map_append]; rfl
theorem hf_len (l : List Int) (k : Nat) : (hf l k).length = k := by unfold hf; simp
theorem hf_at {l : List Int} {k j : Nat} (h : j < k) : (hf l k)[j]? = some (l[l.length - 1 - 2 * j]?.getD 0) := by
  unfold hf
  rw [List.getElem?_map, List.getElem?_range h]; rfl
theorem hf_count (q : Int → Bool) (l : List Int) : ∀ k, 2 * k ≤ l.length + 1 → (hf l k).countP q ≤ (l.drop (l.length + 1 - 2 * k)).countP q := by
  intro k
  induction k with
  | zero => intro _; simp [hf]
  | succ k ih =>
    intro h
    have h1 := ih (by omega)
    rw [hf_snoc, List.countP_append, List.countP_cons, List.countP_nil]
    have e : ∃ y, l.drop (l.length + 1 - 2 * (k + 1)) = (l[l.length - 1 - 2 * k]?.getD 0) :: y ∧ ∃ z, y = z ++ l.drop (l.length + 1 - 2 * k) := by
      have hlt : l.length - 1 - 2 * k < l.length := by omega
      refine ⟨l.drop (l.length - 1 - 2 * k + 1), ?_, ?_⟩
      · rw [show l.length + 1 - 2 * (k + 1) = l.length - 1 - 2 * k by omega, List.drop_eq_getElem_cons hlt]
        simp [hlt]
      · refine ⟨(l.drop (l.length - 1 - 2 * k + 1)).take 1, ?_⟩
        by_cases hk : k = 0
        · subst hk
          rw [List.drop_eq_nil_of_le (by omega), List.drop_eq_nil_of_le (by omega)]; rfl
        · have e3 : l.drop (l.length + 1 - 2 * k) = (l.drop (l.length - 1 - 2 * k + 1)).drop 1 := by rw [List.drop_drop]; congr 1; omega
          rw [e3]
          exact (List.take_append_drop 1 _).symm
    obtain ⟨y, e1, z, e2⟩ := e
    rw [e1, List.countP_cons, e2, List.countP_append]
    omega
theorem hf_part (q : Int → Bool) (l : List Int) {k : Nat} (h : 2 * k ≤ l.length + 1) : (hf l k).countP q ≤ l.countP q := by
  refine Nat.le_trans (hf_count q l k h) ?_
  have := congrArg (fun x => x.countP q) (List.take_append_drop (l.length + 1 - 2 * k) l)
  simp only [List.countP_append] at this
  omega
theorem ft_half {l : List Int} {k : Nat} (h : 2 * k ≤ l.length + 1) (hf_ : ft l = true) : ft (hf l k) = true := ft_part (fun q => hf_part q l h) hf_
theorem fo_half {l m : List Int} {k : Nat} (h : 2 * k ≤ l.length + 1) (hf_ : fo l m = true) : fo (hf l k) (hf m k) = true := by
  obtain ⟨h1, h2, h3, h4⟩ := fo_iff.1 hf_
  refine fo_yes (by rw [hf_len, hf_len]) (ft_half h h2) (ft_half (by omega) h3) fun i x y hx hy => ?_
  have hi : i < k := by have := (List.getElem?_eq_some_iff.1 hx).1; rwa [hf_len] at this
  rw [hf_at hi] at hx hy
  have hlt : l.length - 1 - 2 * i < l.length := by omega
  rw [← h1] at hy
  rw [List.getElem?_eq_getElem hlt] at hx
  rw [List.getElem?_eq_getElem (by omega)] at hy
  refine h4 (l.length - 1 - 2 * i) x y ?_ ?_
  · rw [List.getElem?_eq_getElem hlt]; simpa using hx
  · rw [List.getElem?_eq_getElem (by omega)]; simpa using hy
end Go.Proofs.YthgfjikhbgippaaDoor.PhaP
