/- Plain: who may draw how much. -/
import Derived.Test.YtjedkkkhficmoaaDoorLgrO
import Derived.Test.YtjedkkkhficmoaaDoorSatP
namespace Go.Proofs.YtjedkkkhficmoaaDoor.LgrP
open Go.RowKit Go.Proofs.YtjedkkkhficmoaaDoor.Open Go.Proofs.YtjedkkkhficmoaaDoor.Sees Go.Proofs.YtjedkkkhficmoaaDoor.SatP
set_option linter.unusedVariables false
set_option maxRecDepth 100000

/-- may a number be one that is drawn? -/
def pwr (n : Int) : Bool := decide (0 ≤ n) && decide (n ≤ 1048576)
theorem pwr_iff {n : Int} : pwr n = true ↔ 0 ≤ n ∧ n ≤ 1048576 := by unfold pwr; simp
/-- may a permit be one? -/
def okP (p : Pm) : Bool := decide (0 ≤ p.c) && decide (p.c < 64) && pwr p.p
theorem okP_iff {p : Pm} : okP p = true ↔ (0 ≤ p.c ∧ p.c < 64) ∧ 0 ≤ p.p ∧ p.p ≤ 1048576 := by unfold okP; simp [pwr_iff]
/-- where a car's permit is; -1: nowhere -/
def idx (l : List Pm) (c : Int) : Int := match l.findIdx? (fun p => p.c == c) with
  | some i => i
  | none => -1
theorem idx_hit {l : List Pm} {c : Int} {k : Nat} {p : Pm} (hk : l[k]? = some p) (h : p.c = c) (hb : ∀ (j : Nat) (q : Pm), j < k → l[j]? = some q → q.c ≠ c) : idx l c = k := by
  have e : l.findIdx? (fun p => p.c == c) = some k := by
    rw [List.findIdx?_eq_some_iff_getElem]
    obtain ⟨hl, he⟩ := List.getElem?_eq_some_iff.1 hk
    refine ⟨hl, by rw [he]; simpa using h, fun j hj => ?_⟩
    have := hb j _ hj (List.getElem?_eq_getElem (by omega))
    simpa using this
  unfold idx
  rw [e]
theorem idx_miss {l : List Pm} {c : Int} (h : ∀ (j : Nat) (q : Pm), l[j]? = some q → q.c ≠ c) : idx l c = -1 := by
  have e : l.findIdx? (fun p => p.c == c) = none := by
    rw [List.findIdx?_eq_none_iff]
    intro x hx
    obtain ⟨j, hj⟩ := List.getElem?_of_mem hx
    simpa using h j x hj
  unfold idx
  rw [e]
theorem idx_ge (l : List Pm) (c : Int) : -1 ≤ idx l c := by unfold idx; split <;> omega
theorem idx_nil (c : Int) : idx [] c = -1 := rfl

/-- what permits come to -/
def pk (l : List Pm) : List Int := l.map Pm.p
theorem pk_len (l : List Pm) : (pk l).length = l.length := by simp [pk]
def sm (l : List Pm) : Int := sumV (pk l)
theorem sm_tot {l : List Pm} (hl : l.length ≤ 200) (h : ∀ p ∈ l, 0 ≤ p.p ∧ p.p ≤ 1048576) : sm l = tot (pk l) := (sum_small (pk l) (by rw [pk_len]; exact hl) (fun x hx => by
  obtain ⟨p, hp, rfl⟩ := List.mem_map.1 hx
  have := h p hp
  omega)).1
theorem tot_ge {l : List Pm} (h : ∀ p ∈ l, 0 ≤ p.p ∧ p.p ≤ 1048576) : 0 ≤ tot (pk l) ∧ tot (pk l) ≤ 1048576 * (l.length : Int) := by
  induction l with
  | nil => simp [pk, tot]
  | cons p l ih =>
    have h1 := ih fun q hq => h q (List.mem_cons_of_mem _ hq)
    have h2 := h p List.mem_cons_self
    simp only [pk, tot, List.map_cons, List.foldr_cons, List.length_cons, Int.natCast_add] at *
    omega
theorem pk_append (l r : List Pm) : pk (l ++ r) = pk l ++ pk r := by simp [pk]
theorem tot_take_succ {l : List Pm} {k : Nat} {p : Pm} (h : l[k]? = some p) : tot (pk (l.take (k + 1))) = tot (pk (l.take k)) + p.p := by
  rw [List.take_add_one, h, pk_append, tot_append]
  simp [pk, tot]
theorem tot_take_le {l : List Pm} (h : ∀ p ∈ l, 0 ≤ p.p ∧ p.p ≤ 1048576) (i j : Nat) (hij : i ≤ j) : tot (pk (l.take i)) ≤ tot (pk (l.take j)) := by
  have e : l.take j = (l.take j).take i ++ (l.take j).drop i := (List.take_append_drop i _).symm
  rw [e, pk_append, tot_append, List.take_take, Nat.min_eq_left hij]
  have := (tot_ge (l := (l.take j).drop i) fun p hp => h p (List.mem_of_mem_take (List.mem_of_mem_drop hp))).1
  omega

/-- do so many permits, from the first one on, come to a budget at most? -/
def fits (l : List Pm) (b : Int) (s : Nat) : Bool := decide (tot (pk (l.take s)) ≤ b)
/-- how many of at most so many do -/
def fitTo (l : List Pm) (b : Int) : Nat → Nat
  | 0 => 0
  | s + 1 => if fits l b (s + 1) then s + 1 else fitTo l b s
def fit (l : List Pm) (b : Int) : Nat := fitTo l b l.length
theorem fitTo_le (l : List Pm) (b : Int) : ∀ n, fitTo l b n ≤ n := by
  intro n
  induction n with
  | zero => exact Nat.le_refl _
  | succ n ih => unfold fitTo; split <;> omega
theorem fit_le (l : List Pm) (b : Int) : fit l b ≤ l.length := fitTo_le l b _
theorem fitTo_fits (l : List Pm) (b : Int) (hb : 0 ≤ b) : ∀ n, tot (pk (l.take (fitTo l b n))) ≤ b := by
  intro n
  induction n with
  | zero => simpa [fitTo, pk, tot] using hb
  | succ n ih =>
    unfold fitTo
    split
    · rename_i h; simpa [fits] using h
    · exact ih
theorem fitTo_most (l : List Pm) (b : Int) : ∀ n s, fitTo l b n < s → s ≤ n → b < tot (pk (l.take s)) := by
  intro n
  induction n with
  | zero => intro s h1 h2; omega
  | succ n ih =>
    intro s h1 h2
    unfold fitTo at h1
    split at h1
    · omega
    · rename_i h
      by_cases e : s = n + 1
      · subst e; simpa [fits] using h
      · exact ih s h1 (by omega)
theorem fitTo_eq {l : List Pm} {b : Int} {s n : Nat} (hs : s ≤ n) (h1 : s = 0 ∨ tot (pk (l.take s)) ≤ b) (h2 : ∀ j, s < j → j ≤ n → b < tot (pk (l.take j))) : fitTo l b n = s := by
  induction n with
  | zero => have : s = 0 := by omega
            subst this; rfl
  | succ n ih =>
    unfold fitTo
    by_cases e : s = n + 1
    · subst e
      rw [if_pos]
      rcases h1 with h1 | h1
      · omega
      · simpa [fits] using h1
    · rw [if_neg (by have := h2 (n + 1) (by omega) (Nat.le_refl _); simp [fits]; omega)]
      exact ih (by omega) fun j hj hn => h2 j hj (by omega)
theorem fit_eq {l : List Pm} {b : Int} {s : Nat} (hs : s ≤ l.length) (h1 : s = 0 ∨ tot (pk (l.take s)) ≤ b) (h2 : ∀ j, s < j → j ≤ l.length → b < tot (pk (l.take j))) : fit l b = s := fitTo_eq hs h1 h2
theorem fit_fits (l : List Pm) (b : Int) (hb : 0 ≤ b) : tot (pk (l.take (fit l b))) ≤ b := fitTo_fits l b hb _
theorem fit_most {l : List Pm} {b : Int} {s : Nat} (h : fit l b < s) (hs : s ≤ l.length) : b < tot (pk (l.take s)) := fitTo_most l b _ s h hs
theorem fit_all {l : List Pm} {b : Int} (h : tot (pk l) ≤ b) : fit l b = l.length := fit_eq (Nat.le_refl _) (.inr (by rwa [List.take_of_length_le (Nat.le_refl _)])) (fun j h1 h2 => by omega)

/-- a ledger, as it lies -/
structure Lg where
  b : Int
  m : Int
  k : Int
  A : Option Addr
  cap : Nat
  l : List Pm
def Lg.val (x : Lg) : Value := .agg #[.int .i64 x.b, .int .i64 x.m, .int .i64 x.k, .slice x.A x.l.length x.cap]
def Lg.arr (x : Lg) : Array Value := #[.int .i64 x.b, .int .i64 x.m, .int .i64 x.k, .slice x.A x.l.length x.cap]
structure Lg.In (W : World) (x : Lg) : Prop where
  cap_ : x.l.length ≤ x.cap
  max_ : x.cap ≤ maxLen
  see : Sees W W.heap.size x.A (pms x.l)
theorem Lg.In.next {W W' : World} {x : Lg} (h : x.In W) (hb : Below W.heap.size W W') : x.In W' := ⟨h.cap_, h.max_, (h.see.below hb (Nat.le_refl _)).more hb.size⟩
/-- what is kept free -/
def fr (x : Lg) : Int := if x.l = [] then 0 else max 0 (x.m - x.k)
/-- what Grant tells -/
def ge (x : Lg) (car peak : Int) : Int := if okP ⟨car, peak⟩ = false then 1 else if 0 ≤ idx x.l car then 21 else if x.b < sm x.l + peak + fr x then 20 else 0
/-- what stays as numbers that may be added -/
structure Lg.May (x : Lg) : Prop where
  b : 0 ≤ x.b ∧ x.b ≤ 1048576
  m : 0 ≤ x.m ∧ x.m ≤ 1048576
  k : 0 ≤ x.k ∧ x.k ≤ 1048576
  p : ∀ p ∈ x.l, 0 ≤ p.p ∧ p.p ≤ 1048576
  l : x.l.length ≤ 64
/-- may a ledger be one? -/
def apart : List Pm → List Pm → Bool
  | _, [] => true
  | pre, p :: r => okP p && decide (idx pre p.c < 0) && apart (pre ++ [p]) r
def mayB (x : Lg) : Bool := pwr x.b && pwr x.m && pwr x.k && apart [] x.l && decide (sm x.l ≤ x.b)

theorem pms_len (l : List Pm) : (pms l).length = l.length * 2 := by
  induction l with
  | nil => rfl
  | cons p l ih => simp only [pms, List.map_cons, List.flatten_cons, List.length_append, List.length_cons] at *; rw [ih]; simp [Pm.cells]; omega
theorem pms_append (l r : List Pm) : pms (l ++ r) = pms l ++ pms r := by simp [pms]
theorem pms_one (l : List Pm) : ∀ u ∈ pms l, u.oneCell' = true := by
  intro u hu
  unfold pms at hu
  obtain ⟨r, hr, hu⟩ := List.mem_flatten.1 hu
  obtain ⟨p, _, rfl⟩ := List.mem_map.1 hr
  simp [Pm.cells] at hu
  rcases hu with rfl | rfl <;> rfl
theorem pms_take (l : List Pm) (n : Nat) : pms (l.take n) = (pms l).take (n * 2) := by
  have h : pms l = pms (l.take n) ++ pms (l.drop n) := by rw [← pms_append, List.take_append_drop]
  by_cases hn : n ≤ l.length
  · rw [h, List.take_left' (by rw [pms_len, List.length_take, Nat.min_eq_left hn])]
  · rw [List.take_of_length_le (by omega : l.length ≤ n), List.take_of_length_le (by rw [pms_len]; omega)]
theorem pms_drop (l : List Pm) (n : Nat) : pms (l.drop n) = (pms l).drop (n * 2) := by
  have h : pms l = pms (l.take n) ++ pms (l.drop n) := by rw [← pms_append, List.take_append_drop]
  by_cases hn : n ≤ l.length
  · rw [h, List.drop_left' (by rw [pms_len, List.length_take, Nat.min_eq_left hn])]
  · rw [List.drop_eq_nil_of_le (by omega : l.length ≤ n), List.drop_eq_nil_of_le (by rw [pms_len]; omega)]; rfl
theorem sees_take {W : World} {B : Nat} {a : Option Addr} {xs : List Value} (h : Sees W B a xs) (n : Nat) : Sees W B a (xs.take n) := by
  rcases h with h | ⟨b, o, ha, hb, hc⟩
  · subst h; exact .inl (by simp)
  · refine .inr ⟨b, o, ha, hb, fun j u hu => ?_⟩
    rw [List.getElem?_take] at hu
    split at hu
    · exact hc j u hu
    · cases hu

end Go.Proofs.YtjedkkkhficmoaaDoor.LgrP
