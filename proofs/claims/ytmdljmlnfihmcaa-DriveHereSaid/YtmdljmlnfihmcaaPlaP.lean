/- Plain mathematics of speeds: how far one goes on, how fast to go next, how long a way takes: no program is named here. -/
import Derived.WalkKit
namespace Go.Proofs.Ytmdljmlnfihmcaa.PlaP
set_option linter.unusedVariables false

/-- a number, or the end of lo to hi that it is beyond -/
def cl (n lo hi : Int) : Int := max lo (min n hi)
theorem cl_ge {n lo hi : Int} : lo ≤ cl n lo hi := by unfold cl; omega
theorem cl_le {n lo hi : Int} (h : lo ≤ hi) : cl n lo hi ≤ hi := by unfold cl; omega
theorem cl_id {n lo hi : Int} (h : lo ≤ n) (k : n ≤ hi) : cl n lo hi = n := by unfold cl; omega

/-- how far one goes on from a speed of 0 to 8 -/
def st (v : Int) : Int := v * (v - 1) / 2
/-- the speeds behind a speed, from the greatest one on -/
def hi (v m : Int) : Int := min m (v + 1)
def lo (v : Int) : Int := max 0 (v - 1)
def len (v m : Int) : Nat := (hi v m - lo v + 1).toNat
def upto (h : Int) (k : Nat) : List Int := (List.range k).map fun (i : Nat) => h - (i : Int)
def spd (v m : Int) : List Int := upto (hi v m) (len v m)
def fits (l x : Int) : Bool := decide (x + st x ≤ l)
/-- how fast to go next, of numbers that count as they are -/
def nx (v l m : Int) : Int := ((spd v m).find? (fits l)).getD 0
/-- of any numbers -/
def Nx (s l m : Int) : Int := nx (cl s 0 8) (cl l 0 1000) (cl m 1 8)
def St (s : Int) : Int := st (cl s 0 8)
theorem Nx_id {v l m : Int} (v0 : 0 ≤ v) (v8 : v ≤ 8) (l0 : 0 ≤ l) (l1 : l ≤ 1000) (m1 : 1 ≤ m) (m8 : m ≤ 8) : Nx v l m = nx v l m := by
  unfold Nx; rw [cl_id v0 v8, cl_id l0 l1, cl_id m1 m8]

theorem upto_succ (h : Int) (k : Nat) : upto h (k + 1) = upto h k ++ [h - (k : Int)] := by simp [upto, List.range_succ]
theorem upto_length (h : Int) (k : Nat) : (upto h k).length = k := by simp [upto]
theorem upto_prefix (h : Int) {k n : Nat} (hk : k ≤ n) : upto h k <+: upto h n := by
  unfold upto
  obtain ⟨d, rfl⟩ := Nat.exists_eq_add_of_le hk
  rw [List.range_add, List.map_append]
  exact List.prefix_append _ _
theorem upto_mem {h x : Int} {k : Nat} (hx : x ∈ upto h k) : h - (k : Int) < x ∧ x ≤ h := by
  obtain ⟨i, hi, rfl⟩ := List.mem_map.1 hx
  have := List.mem_range.1 hi
  omega
theorem spd_mem {v m x : Int} (v0 : 0 ≤ v) (v8 : v ≤ 8) (m8 : m ≤ 8) (hx : x ∈ spd v m) : 0 ≤ x ∧ x ≤ 8 ∧ x ≤ m ∧ x ≤ v + 1 ∧ v - 1 ≤ x := by
  have h1 := upto_mem hx
  unfold len hi lo at h1
  omega

/-- the one that was found ahead of the others -/
theorem find_stop {α : Type} {p : α → Bool} {pre xs : List α} {x : α} (h : pre ++ [x] <+: xs) (hn : ∀ y ∈ pre, p y = false) (hx : p x = true) : xs.find? p = some x := by
  obtain ⟨t, rfl⟩ := h
  rw [List.append_assoc, List.find?_append, List.find?_eq_none.2 (fun y hy => by simp [hn y hy])]
  simp [hx]
theorem nx_stop {v l m x : Int} {pre : List Int} (h : pre ++ [x] <+: spd v m) (hn : ∀ y ∈ pre, fits l y = false) (hx : fits l x = true) : nx v l m = x := by
  unfold nx; rw [find_stop h hn hx]; rfl
theorem nx_none {v l m : Int} (hn : ∀ y ∈ spd v m, fits l y = false) : nx v l m = 0 := by
  unfold nx; rw [List.find?_eq_none.2 (fun y hy => by simp [hn y hy])]; rfl

theorem st_le {x : Int} (h0 : 0 ≤ x) (h8 : x ≤ 8) : 0 ≤ st x ∧ st x ≤ 28 ∧ x + st x ≤ 36 := by
  obtain ⟨n, rfl⟩ := Int.eq_ofNat_of_zero_le h0
  have : ∀ k : Fin 9, 0 ≤ st (k.val : Int) ∧ st (k.val : Int) ≤ 28 ∧ (k.val : Int) + st (k.val : Int) ≤ 36 := by decide +kernel
  exact this ⟨n, by omega⟩
theorem find_congr {α : Type} {p q : α → Bool} {xs : List α} (h : ∀ x ∈ xs, p x = q x) : xs.find? p = xs.find? q := by
  induction xs with
  | nil => rfl
  | cons a xs ih =>
    rw [List.find?_cons, List.find?_cons, h a (List.mem_cons_self ..), ih (fun x hx => h x (List.mem_cons_of_mem _ hx))]
/-- more than 36 places count as 36 -/
theorem nx_min {v l m : Int} (v0 : 0 ≤ v) (v8 : v ≤ 8) (m8 : m ≤ 8) : nx v l m = nx v (min l 36) m := by
  unfold nx
  rw [find_congr (q := fits (min l 36)) (fun x hx => ?_)]
  have h := spd_mem v0 v8 m8 hx
  have h2 := st_le h.1 h.2.1
  unfold fits
  exact decide_eq_decide.2 (by omega)

/-- what holds of 36 places at most, of few speeds, holds of all -/
theorem all_nx {R : Int → Int → Int → Prop} (h : ∀ v : Fin 9, ∀ m : Fin 8, ∀ l : Fin 37, R (v.val : Int) (l.val : Int) ((m.val : Int) + 1)) {v l m : Int} (v0 : 0 ≤ v) (v8 : v ≤ 8) (l0 : 0 ≤ l) (l1 : l ≤ 36) (m1 : 1 ≤ m) (m8 : m ≤ 8) : R v l m := by
  have := h ⟨v.toNat, by omega⟩ ⟨(m - 1).toNat, by omega⟩ ⟨l.toNat, by omega⟩
  simp only [Int.toNat_of_nonneg v0, Int.toNat_of_nonneg l0, Int.toNat_of_nonneg (show 0 ≤ m - 1 by omega)] at this
  rwa [show m - 1 + 1 = m by omega] at this

theorem nx_facts36 : ∀ v : Fin 9, ∀ m : Fin 8, ∀ l : Fin 37, 0 ≤ nx (v.val : Int) (l.val : Int) ((m.val : Int) + 1) ∧ nx (v.val : Int) (l.val : Int) ((m.val : Int) + 1) ≤ (m.val : Int) + 1 ∧
    (st (v.val : Int) ≤ (l.val : Int) → (v.val : Int) ≤ (m.val : Int) + 1 → (v.val : Int) - 1 ≤ nx (v.val : Int) (l.val : Int) ((m.val : Int) + 1) ∧ nx (v.val : Int) (l.val : Int) ((m.val : Int) + 1) ≤ (v.val : Int) + 1 ∧
      nx (v.val : Int) (l.val : Int) ((m.val : Int) + 1) + st (nx (v.val : Int) (l.val : Int) ((m.val : Int) + 1)) ≤ (l.val : Int) ∧ ((l.val : Int) = 0 ∨ 0 < nx (v.val : Int) (l.val : Int) ((m.val : Int) + 1))) := by decide +kernel
theorem nx_facts {v l m : Int} (v0 : 0 ≤ v) (v8 : v ≤ 8) (l0 : 0 ≤ l) (m1 : 1 ≤ m) (m8 : m ≤ 8) : 0 ≤ nx v l m ∧ nx v l m ≤ m ∧
    (st v ≤ l → v ≤ m → v - 1 ≤ nx v l m ∧ nx v l m ≤ v + 1 ∧ nx v l m + st (nx v l m) ≤ l ∧ (l = 0 ∨ 0 < nx v l m)) := by
  rw [nx_min (l := l) v0 v8 m8]
  have h := all_nx (R := fun v l m => 0 ≤ nx v l m ∧ nx v l m ≤ m ∧ (st v ≤ l → v ≤ m → v - 1 ≤ nx v l m ∧ nx v l m ≤ v + 1 ∧ nx v l m + st (nx v l m) ≤ l ∧ (l = 0 ∨ 0 < nx v l m))) nx_facts36 (l := min l 36) v0 v8 (by omega) (by omega) m1 m8
  have h2 := st_le v0 v8
  refine ⟨h.1, h.2.1, fun a b => ?_⟩
  obtain ⟨h3, h4, h5, h6⟩ := h.2.2 (by omega) b
  exact ⟨h3, h4, by omega, h6.imp (by omega) id⟩

/-- the document's search, speed by speed -/
def bst (v l : Int) : Nat → Int
  | 0 => 0
  | k + 1 => if (k : Int) ≤ v + 1 ∧ v - 1 ≤ (k : Int) ∧ (k : Int) + st (k : Int) ≤ l then (k : Int) else bst v l k
theorem bst_min {v l : Int} {k : Nat} (hk : k ≤ 9) : bst v l k = bst v (min l 36) k := by
  induction k with
  | zero => rfl
  | succ k ih =>
    have h2 := st_le (x := (k : Int)) (by omega) (by omega)
    unfold bst
    rw [ih (by omega)]
    have e : ((k : Int) ≤ v + 1 ∧ v - 1 ≤ (k : Int) ∧ (k : Int) + st (k : Int) ≤ l) = ((k : Int) ≤ v + 1 ∧ v - 1 ≤ (k : Int) ∧ (k : Int) + st (k : Int) ≤ min l 36) := propext (by omega)
    simp only [e]
theorem bst_nx36 : ∀ v : Fin 9, ∀ m : Fin 8, ∀ l : Fin 37, bst (v.val : Int) (l.val : Int) ((m.val : Int) + 1 + 1).toNat = nx (v.val : Int) (l.val : Int) ((m.val : Int) + 1) := by decide +kernel
theorem bst_nx {v l m : Int} (v0 : 0 ≤ v) (v8 : v ≤ 8) (l0 : 0 ≤ l) (m1 : 1 ≤ m) (m8 : m ≤ 8) : bst v l (m + 1).toNat = nx v l m := by
  rw [nx_min v0 v8 m8, bst_min (by omega)]
  exact all_nx (R := fun v l m => bst v l (m + 1).toNat = nx v l m) bst_nx36 v0 v8 (by omega) (by omega) m1 m8
/-- the sum of the numbers below a number -/
def sums : Nat → Int
  | 0 => 0
  | k + 1 => sums k + (k : Int)
theorem sums_st {v : Int} (v0 : 0 ≤ v) (v8 : v ≤ 8) : sums v.toNat = st v := by
  have : ∀ k : Fin 9, sums k.val = st (k.val : Int) := by decide +kernel
  have h := this ⟨v.toNat, by omega⟩
  simpa [Int.toNat_of_nonneg v0] using h
theorem sums_le {k : Nat} (h : k ≤ 8) : 0 ≤ sums k ∧ sums k ≤ 28 := by
  have : ∀ k : Fin 9, 0 ≤ sums k.val ∧ sums k.val ≤ 28 := by decide +kernel
  exact this ⟨k, by omega⟩

/-- one may stop within what is left -/
structure Safe (m v l : Int) : Prop where
  m1 : 1 ≤ m
  m8 : m ≤ 8
  v0 : 0 ≤ v
  vm : v ≤ m
  l0 : 0 ≤ l
  s : st v ≤ l
theorem st_zero : st 0 = 0 := by decide
theorem Safe.new {m l : Int} (m1 : 1 ≤ m) (m8 : m ≤ 8) (l0 : 0 ≤ l) : Safe m 0 l := ⟨m1, m8, Int.le_refl _, by omega, l0, by rw [st_zero]; exact l0⟩
theorem Safe.next {m v l : Int} (h : Safe m v l) : Safe m (nx v l m) (l - nx v l m) ∧ v - 1 ≤ nx v l m ∧ nx v l m ≤ v + 1 ∧ (l = 0 ∨ 0 < nx v l m) := by
  have hm := h.m8; have hv := h.vm
  obtain ⟨h1, h2, h3⟩ := nx_facts h.v0 (by omega) h.l0 h.m1 h.m8
  obtain ⟨h4, h5, h6, h7⟩ := h3 h.s h.vm
  have h8 := st_le h1 (by omega)
  exact ⟨⟨h.m1, h.m8, h1, h2, by omega, by omega⟩, h4, h5, h7⟩
theorem Safe.stop {m v : Int} (h : Safe m v 0) : v ≤ 1 := by
  have h1 := h.s
  have h2 := h.v0
  have h3 := h.m8
  have h4 := h.vm
  have : ∀ k : Fin 9, st (k.val : Int) ≤ 0 → (k.val : Int) ≤ 1 := by decide +kernel
  have h := this ⟨v.toNat, by omega⟩
  simp only [Int.toNat_of_nonneg h2] at h
  exact h h1

/-- how many ticks are left, at a speed, on a way: k at most -/
def T (m : Int) : Nat → Int → Int → Nat
  | 0, _, _ => 0
  | k + 1, v, l => if l ≤ 0 then 0 else T m k (nx v l m) (l - nx v l m) + 1
theorem T_nil (m : Int) (k : Nat) (v l : Int) (h : l ≤ 0) : T m k v l = 0 := by
  cases k with
  | zero => rfl
  | succ k => unfold T; rw [if_pos h]
theorem T_more {m : Int} : ∀ (k : Nat) {v l : Int}, Safe m v l → l ≤ (k : Int) → ∀ j : Nat, T m (k + j) v l = T m k v l
  | 0, v, l, hs, hl, j => by rw [T_nil _ _ _ _ (by omega), T_nil _ _ _ _ (by omega)]
  | k + 1, v, l, hs, hl, j => by
    rw [show k + 1 + j = k + j + 1 by omega]
    unfold T
    by_cases h : l ≤ 0
    · rw [if_pos h, if_pos h]
    · rw [if_neg h, if_neg h]
      obtain ⟨h1, h2, h3, h4⟩ := hs.next
      rw [T_more k h1 (by omega) j]
/-- how many ticks are left -/
def S (m v l : Int) : Nat := T m l.toNat v l
theorem S_nil {m v l : Int} (h : l ≤ 0) : S m v l = 0 := T_nil _ _ _ _ h
theorem S_step {m v l : Int} (hs : Safe m v l) (h : 0 < l) : S m v l = S m (nx v l m) (l - nx v l m) + 1 := by
  obtain ⟨h1, h2, h3, h4⟩ := hs.next
  have h5 : 0 < nx v l m := by omega
  have h6 := h1.l0
  unfold S
  obtain ⟨k, hk⟩ : ∃ k, l.toNat = k + 1 := ⟨l.toNat - 1, by omega⟩
  rw [hk]
  show (if l ≤ 0 then 0 else T m k (nx v l m) (l - nx v l m) + 1) = _
  rw [if_neg (by omega)]
  have e : k = (l - nx v l m).toNat + (nx v l m - 1).toNat := by omega
  rw [e, T_more _ h1 (by omega)]
theorem S_le {m : Int} : ∀ (k : Nat) {v l : Int}, Safe m v l → l ≤ (k : Int) → (S m v l : Int) ≤ l ∧ l ≤ (S m v l : Int) * m ∧ (0 < l → 0 < S m v l)
  | 0, v, l, hs, hl => by
    have := hs.l0
    rw [S_nil (by omega)]
    simp; omega
  | k + 1, v, l, hs, hl => by
    have hl0 := hs.l0
    by_cases h : 0 < l
    · obtain ⟨h1, h2, h3, h4⟩ := hs.next
      have h5 : nx v l m ≤ m := h1.vm
      obtain ⟨h6, h7, h8⟩ := S_le k h1 (by omega)
      rw [S_step hs h]
      generalize S m (nx v l m) (l - nx v l m) = t at *
      refine ⟨by push_cast; omega, ?_, fun _ => by omega⟩
      push_cast
      rw [Int.add_mul]
      omega
    · rw [S_nil (by omega)]
      simp; omega

/-! A way takes as much longer as it is longer by the most. -/
theorem nx_far36 : ∀ v : Fin 9, ∀ m : Fin 8, (v.val : Int) ≤ (m.val : Int) + 1 → nx (v.val : Int) 36 ((m.val : Int) + 1) = min ((m.val : Int) + 1) ((v.val : Int) + 1) := by decide +kernel
theorem nx_far {m v l : Int} (m1 : 1 ≤ m) (m8 : m ≤ 8) (v0 : 0 ≤ v) (vm : v ≤ m) (h : 36 ≤ l) : nx v l m = min m (v + 1) := by
  rw [nx_min v0 (by omega) m8, show min l 36 = 36 by omega]
  have := nx_far36 ⟨v.toNat, by omega⟩ ⟨(m - 1).toNat, by omega⟩
  simp only [Int.toNat_of_nonneg v0, Int.toNat_of_nonneg (show 0 ≤ m - 1 by omega)] at this
  rw [show m - 1 + 1 = m by omega] at this
  exact this vm
theorem S_far {m : Int} (m1 : 1 ≤ m) (m8 : m ≤ 8) : ∀ (k : Nat) {v l : Int}, 0 ≤ v → v ≤ m → m - v ≤ (k : Int) → 36 + 8 * (k : Int) ≤ l → S m v (l + m) = S m v l + 1
  | 0, v, l, v0, vm, hk, hl => by
    obtain rfl : v = m := by omega
    have h2 := st_le v0 m8
    rw [S_step (l := l + v) ⟨m1, m8, v0, vm, by omega, by omega⟩ (by omega), nx_far m1 m8 v0 vm (by omega), show min v (v + 1) = v by omega, show l + v - v = l by omega]
  | k + 1, v, l, v0, vm, hk, hl => by
    have h2 := st_le v0 (by omega)
    by_cases hv : v = m
    · subst hv
      rw [S_step (l := l + v) ⟨m1, m8, v0, vm, by omega, by omega⟩ (by omega), nx_far m1 m8 v0 vm (by omega), show min v (v + 1) = v by omega, show l + v - v = l by omega]
    · rw [S_step (l := l + m) ⟨m1, m8, v0, vm, by omega, by omega⟩ (by omega), S_step (l := l) ⟨m1, m8, v0, vm, by omega, by omega⟩ (by omega), nx_far m1 m8 v0 vm (by omega), nx_far m1 m8 v0 vm (by omega), show min m (v + 1) = v + 1 by omega,
        show l + m - (v + 1) = l - (v + 1) + m by omega, S_far m1 m8 k (by omega) (by omega) (by omega) (by omega)]
/-- how many ticks a way takes from rest -/
def tt (m : Int) (l : Nat) : Nat := S m 0 (l : Int)
theorem tt_far {m : Int} (m1 : 1 ≤ m) (m8 : m ≤ 8) {l : Nat} (h : 100 + m.toNat ≤ l) : tt m l = tt m (l - m.toNat) + 1 := by
  unfold tt
  have := S_far m1 m8 8 (v := 0) (l := (l : Int) - m) (by omega) (by omega) (by omega) (by omega)
  rw [show (l : Int) - m + m = (l : Int) by omega] at this
  rw [this, show ((l - m.toNat : Nat) : Int) = (l : Int) - m by omega]
theorem tt_mono110 : ∀ m : Fin 8, ∀ l : Fin 108, tt ((m.val : Int) + 1) l.val ≤ tt ((m.val : Int) + 1) (l.val + 1) := by decide +kernel
theorem tt_more110 : ∀ m : Fin 7, ∀ l : Fin 109, tt ((m.val : Int) + 1 + 1) l.val ≤ tt ((m.val : Int) + 1) l.val := by decide +kernel
theorem tt_mono {m : Int} (m1 : 1 ≤ m) (m8 : m ≤ 8) (l : Nat) : tt m l ≤ tt m (l + 1) := by
  induction l using Nat.strongRecOn with
  | _ l ih =>
    by_cases h : l < 108
    · have := tt_mono110 ⟨(m - 1).toNat, by omega⟩ ⟨l, h⟩
      simp only [Int.toNat_of_nonneg (show 0 ≤ m - 1 by omega)] at this
      rwa [show m - 1 + 1 = m by omega] at this
    · rw [tt_far m1 m8 (l := l) (by omega), tt_far m1 m8 (l := l + 1) (by omega), show l + 1 - m.toNat = l - m.toNat + 1 by omega]
      have := ih (l - m.toNat) (by omega)
      omega
theorem tt_more {m : Int} (m1 : 1 ≤ m) (m7 : m ≤ 7) (l : Nat) : tt (m + 1) l ≤ tt m l := by
  induction l using Nat.strongRecOn with
  | _ l ih =>
    by_cases h : l < 109
    · have := tt_more110 ⟨(m - 1).toNat, by omega⟩ ⟨l, h⟩
      simp only [Int.toNat_of_nonneg (show 0 ≤ m - 1 by omega)] at this
      rwa [show m - 1 + 1 = m by omega] at this
    · rw [tt_far m1 (by omega) (l := l) (by omega), tt_far (m := m + 1) (by omega) (by omega) (l := l) (by omega)]
      have h1 := ih (l - m.toNat) (by omega)
      have h2 := tt_mono (m := m + 1) (by omega) (by omega) (l - (m + 1).toNat)
      rw [show l - (m + 1).toNat + 1 = l - m.toNat by omega] at h2
      omega
/-- of any numbers -/
def Tk (l m : Int) : Int := (S (cl m 1 8) 0 (cl l 0 1000) : Int)
theorem Tk_tt {l m : Int} (l0 : 0 ≤ l) (l1 : l ≤ 1000) (m1 : 1 ≤ m) (m8 : m ≤ 8) : Tk l m = (tt m l.toNat : Int) := by
  unfold Tk tt; rw [cl_id l0 l1, cl_id m1 m8, Int.toNat_of_nonneg l0]
theorem Tk_S {l m : Int} (l0 : 0 ≤ l) (l1 : l ≤ 1000) (m1 : 1 ≤ m) (m8 : m ≤ 8) : Tk l m = (S m 0 l : Int) := by
  unfold Tk; rw [cl_id l0 l1, cl_id m1 m8]

/-! What the statements ask. -/
theorem nx_more36 : ∀ v : Fin 9, ∀ m : Fin 7, ∀ l : Fin 37, nx (v.val : Int) (l.val : Int) ((m.val : Int) + 1) ≤ nx (v.val : Int) (l.val : Int) ((m.val : Int) + 1 + 1) := by decide +kernel
theorem nx_longer36 : ∀ v : Fin 9, ∀ m : Fin 8, ∀ l : Fin 37, nx (v.val : Int) (l.val : Int) ((m.val : Int) + 1) ≤ nx (v.val : Int) ((l.val : Int) + 1) ((m.val : Int) + 1) := by decide +kernel
theorem nx_more {v l m : Int} (v0 : 0 ≤ v) (v8 : v ≤ 8) (l0 : 0 ≤ l) (m1 : 1 ≤ m) (m7 : m ≤ 7) : nx v l m ≤ nx v l (m + 1) := by
  rw [nx_min v0 v8 (by omega), nx_min (m := m + 1) v0 v8 (by omega)]
  have := nx_more36 ⟨v.toNat, by omega⟩ ⟨(m - 1).toNat, by omega⟩ ⟨(min l 36).toNat, by omega⟩
  simp only [Int.toNat_of_nonneg v0, Int.toNat_of_nonneg (show 0 ≤ min l 36 by omega), Int.toNat_of_nonneg (show 0 ≤ m - 1 by omega)] at this
  rwa [show m - 1 + 1 = m by omega] at this
theorem nx_longer {v l m : Int} (v0 : 0 ≤ v) (v8 : v ≤ 8) (l0 : 0 ≤ l) (m1 : 1 ≤ m) (m8 : m ≤ 8) : nx v l m ≤ nx v (l + 1) m := by
  rw [nx_min v0 v8 m8, nx_min (l := l + 1) v0 v8 m8]
  by_cases h : l < 36
  · rw [show min l 36 = l by omega, show min (l + 1) 36 = l + 1 by omega]
    exact all_nx (R := fun v l m => nx v l m ≤ nx v (l + 1) m) nx_longer36 v0 v8 l0 (by omega) m1 m8
  · rw [show min l 36 = 36 by omega, show min (l + 1) 36 = 36 by omega]; exact Int.le_refl _
theorem nx_rest36 : ∀ _ : Fin 9, ∀ m : Fin 8, ∀ l : Fin 37, ((l.val : Int) = 0 ∨ nx 0 (l.val : Int) ((m.val : Int) + 1) = 1) ∧
    ((m.val : Int) + 1 + st ((m.val : Int) + 1) ≤ (l.val : Int) → nx ((m.val : Int) + 1) (l.val : Int) ((m.val : Int) + 1) = (m.val : Int) + 1) ∧
    ((l.val : Int) < (m.val : Int) + 1 + st ((m.val : Int) + 1) → nx ((m.val : Int) + 1) (l.val : Int) ((m.val : Int) + 1) < (m.val : Int) + 1) := by decide +kernel
theorem nx_rest {l m : Int} (l0 : 0 ≤ l) (m1 : 1 ≤ m) (m8 : m ≤ 8) : (l = 0 ∨ nx 0 l m = 1) ∧ (m + st m ≤ l → nx m l m = m) ∧ (l < m + st m → nx m l m < m) := by
  rw [nx_min (v := 0) (by omega) (by omega) m8, nx_min (v := m) (by omega) m8 m8]
  have h := all_nx (R := fun _ l m => (l = 0 ∨ nx 0 l m = 1) ∧ (m + st m ≤ l → nx m l m = m) ∧ (l < m + st m → nx m l m < m)) nx_rest36 (v := 0) (l := min l 36) (by omega) (by omega) (by omega) (by omega) m1 m8
  have h2 := st_le (x := m) (by omega) m8
  exact ⟨h.1.imp (by omega) id, fun a => h.2.1 (by omega), fun a => h.2.2 (by omega)⟩
theorem nx_zero : ∀ v : Fin 2, ∀ m : Fin 8, nx (v.val : Int) 0 ((m.val : Int) + 1) = 0 := by decide +kernel
theorem nx_end {v m : Int} (v0 : 0 ≤ v) (v1 : v ≤ 1) (m1 : 1 ≤ m) (m8 : m ≤ 8) : nx v 0 m = 0 := by
  have := nx_zero ⟨v.toNat, by omega⟩ ⟨(m - 1).toNat, by omega⟩
  simp only [Int.toNat_of_nonneg v0, Int.toNat_of_nonneg (show 0 ≤ m - 1 by omega)] at this
  rwa [show m - 1 + 1 = m by omega] at this
theorem S_one {l : Int} (l0 : 0 ≤ l) : (S 1 0 l : Int) = l := by
  have h := S_le (m := 1) l.toNat (Safe.new (by omega) (by omega) l0) (by omega)
  omega

end Go.Proofs.Ytmdljmlnfihmcaa.PlaP
