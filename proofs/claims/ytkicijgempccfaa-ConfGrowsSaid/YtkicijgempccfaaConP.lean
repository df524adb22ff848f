/- Plain mathematics of how a group is laid out: no program is named here. -/
import Derived.Test.YtkicijgempccfaaRatP
import Derived.Test.YtkicijgempccfaaSatP
namespace Go.Proofs.Ytkicijgempccfaa.ConP
open Go.Proofs.Ytkicijgempccfaa.RatP Go.Proofs.Ytkicijgempccfaa.SatP
set_option linter.unusedVariables false

/-- is a number from a least one to a most? -/
def wi (n lo hi : Int) : Bool := decide (lo ≤ n) && decide (n ≤ hi)
theorem wi_iff {n lo hi : Int} : wi n lo hi = true ↔ lo ≤ n ∧ n ≤ hi := by simp [wi]
theorem wi_no {n lo hi : Int} : wi n lo hi = false ↔ n < lo ∨ hi < n := by
  cases h : wi n lo hi
  · simp only [true_iff]
    rcases Int.lt_or_le n lo with a | a
    · exact .inl a
    · rcases Int.lt_or_le hi n with b | b
      · exact .inr b
      · rw [wi_iff.2 ⟨a, b⟩] at h; cases h
  · have := wi_iff.1 h
    constructor
    · intro h; cases h
    · omega

structure Bk where
  cars : Int
  r : R
/-- may rates be? -/
def rOk (r : R) : Bool := wi r.idle 0 1000 && (wi r.move 0 1000 && (wi r.gain 0 1000 && (wi r.pull 0 100 && (wi r.door 0 1000 && wi r.weight 0 64))))
theorem rOk_iff (r : R) : rOk r = true ↔ r.May := by
  unfold rOk
  simp only [Bool.and_eq_true, wi_iff]
  exact ⟨fun ⟨⟨a, b⟩, ⟨c, d⟩, ⟨e, f⟩, ⟨g, h⟩, ⟨i, j⟩, k, l⟩ => ⟨a, b, c, d, e, f, g, h, i, j, k, l⟩, fun h => ⟨⟨h.i0, h.i1⟩, ⟨h.m0, h.m1⟩, ⟨h.g0, h.g1⟩, ⟨h.p0, h.p1⟩, ⟨h.d0, h.d1⟩, h.w0, h.w1⟩⟩
def bOk (b : Bk) : Bool := wi b.cars 1 8 && rOk b.r
theorem bOk_iff (b : Bk) : bOk b = true ↔ (1 ≤ b.cars ∧ b.cars ≤ 8) ∧ b.r.May := by
  unfold bOk; rw [Bool.and_eq_true, wi_iff, rOk_iff]

structure C where
  banks : List Bk
  floors : Int
  home : Int
  order : List Int
  speed : Int
  width : Int
  dwell : Int
  good : Int
  dead : Int
  lag : Int
  turn : Int
  cost : Int
  full : Int

def cars : List Bk → Int
  | [] => 0
  | b :: l => b.cars + cars l
theorem cars_append (l m : List Bk) : cars (l ++ m) = cars l + cars m := by
  induction l with
  | nil => simp [cars]
  | cons b l ih => simp only [List.cons_append, cars, ih]; omega
theorem cars_snoc (l : List Bk) (b : Bk) : cars (l ++ [b]) = cars l + b.cars := by rw [cars_append]; simp [cars]
theorem cars_bd (l : List Bk) (h : ∀ b ∈ l, bOk b = true) : (l.length : Int) ≤ cars l ∧ cars l ≤ 8 * l.length := by
  induction l with
  | nil => simp [cars]
  | cons b l ih =>
    have h1 := ih (fun x hx => h x (List.mem_cons_of_mem _ hx))
    have h2 := ((bOk_iff b).1 (h b (List.mem_cons_self ..))).1
    simp only [cars, List.length_cons]
    omega
theorem take_ok {l : List Bk} (h : ∀ b ∈ l, bOk b = true) (k : Nat) : ∀ b ∈ l.take k, bOk b = true := fun b hb => h b (List.mem_of_mem_take hb)
theorem cars_take_succ (l : List Bk) (k : Nat) (b : Bk) (hk : l[k]? = some b) : cars (l.take (k + 1)) = cars (l.take k) + b.cars := by
  rw [List.take_add_one, hk]
  exact cars_snoc _ _
theorem cars_take_le (l : List Bk) (h : ∀ b ∈ l, bOk b = true) (k : Nat) : 0 ≤ cars (l.take k) ∧ cars (l.take k) ≤ cars l := by
  have h1 := cars_bd _ (take_ok h k)
  have h2 : cars l = cars (l.take k) + cars (l.drop k) := by rw [← cars_append, List.take_append_drop]
  have h3 := cars_bd (l.drop k) (fun b hb => h b (List.mem_of_mem_drop hb))
  omega

/-- the place of a car's bank -/
def bankFrom : List Bk → Int → Int → Int
  | [], _, _ => -1
  | b :: l, i, car => if car < b.cars then i else bankFrom l (i + 1) (car - b.cars)
def bankOf (l : List Bk) (car : Int) : Int := if car < 0 then -1 else bankFrom l 0 car
/-- as one comes to a bank in its turn -/
theorem bankFrom_at (l : List Bk) (h : ∀ b ∈ l, bOk b = true) (k : Nat) (i car : Int) (hk : cars (l.take k) ≤ car) (hl : k ≤ l.length) : bankFrom l i car = bankFrom (l.drop k) (i + k) (car - cars (l.take k)) := by
  induction k generalizing l i car with
  | zero => simp [cars]
  | succ k ih =>
    cases l with
    | nil => simp at hl
    | cons b l =>
      have hb := ((bOk_iff b).1 (h b (List.mem_cons_self ..))).1
      have hl' : ∀ x ∈ l, bOk x = true := fun x hx => h x (List.mem_cons_of_mem _ hx)
      have h0 := (cars_take_le l hl' k).1
      simp only [List.take_succ_cons, cars] at hk
      have e := ih l hl' (i + 1) (car - b.cars) (by omega) (by simpa using hl)
      simp only [bankFrom, List.drop_succ_cons, List.take_succ_cons, cars]
      rw [if_neg (by omega), e]
      congr 1
      · push_cast; omega
      · omega
theorem bankOf_neg (l : List Bk) {car : Int} (h : car < 0) : bankOf l car = -1 := by unfold bankOf; rw [if_pos h]
theorem bankOf_in (l : List Bk) (h : ∀ b ∈ l, bOk b = true) (k : Nat) (b : Bk) (hk : l[k]? = some b) (car : Int) (h1 : cars (l.take k) ≤ car) (h2 : car < cars (l.take k) + b.cars) : bankOf l car = k := by
  have h0 := (cars_take_le l h k).1
  have hlt : k < l.length := (List.getElem?_eq_some_iff.1 hk).1
  have hd : l.drop k = b :: l.drop (k + 1) := by
    rw [List.drop_eq_getElem_cons hlt]
    rw [(List.getElem?_eq_some_iff.1 hk).2]
  unfold bankOf
  rw [if_neg (by omega), bankFrom_at l h k 0 car h1 (by omega), hd, bankFrom, if_pos (by omega)]
  omega
theorem bankOf_out (l : List Bk) (h : ∀ b ∈ l, bOk b = true) (car : Int) (h1 : cars l ≤ car) : bankOf l car = -1 := by
  have h0 := (cars_take_le l h l.length).1
  rw [List.take_length] at h0
  unfold bankOf
  rw [if_neg (by omega), bankFrom_at l h l.length 0 car (by rw [List.take_length]; exact h1) (Nat.le_refl _), List.drop_length]
  rfl

/-- the greatest one of the first k banks' rates -/
def mo : List Bk → Int
  | [] => 0
  | b :: l => max (most b.r) (mo l)
theorem mo_ge (l : List Bk) : 0 ≤ mo l := by
  induction l with
  | nil => simp [mo]
  | cons b l ih => unfold mo; omega
theorem mo_append (l m : List Bk) : mo (l ++ m) = max (mo l) (mo m) := by
  induction l with
  | nil => have := mo_ge m; simp only [List.nil_append, mo]; omega
  | cons b l ih => simp only [List.cons_append, mo, ih]; omega
theorem mo_take_succ (l : List Bk) (k : Nat) (b : Bk) (hk : l[k]? = some b) : mo (l.take (k + 1)) = max (mo (l.take k)) (most b.r) := by
  have := most_ge b.r
  rw [List.take_add_one, hk, mo_append]
  show max _ (max (most b.r) 0) = _
  omega
theorem mo_le (l : List Bk) (h : ∀ b ∈ l, bOk b = true) : mo l ≤ 9400 := by
  induction l with
  | nil => simp [mo]
  | cons b l ih =>
    have := ih (fun x hx => h x (List.mem_cons_of_mem _ hx))
    have := most_le ((bOk_iff b).1 (h b (List.mem_cons_self ..))).2
    unfold mo; omega

/-- how many ticks doors are blocked, as it counts -/
def bk (x : Int) : Int := if x < 0 then 0 else if 1000000 < x then 1000000 else x
theorem bk_bd (x : Int) : 0 ≤ bk x ∧ bk x ≤ 1000000 := by unfold bk; split <;> (try split) <;> omega
theorem bk_max (x : Int) : bk x = max 0 (min x 1000000) := by unfold bk; split <;> (try split) <;> omega
theorem bk_id {x : Int} (h0 : 0 ≤ x) (h1 : x ≤ 1000000) : bk x = x := by unfold bk; rw [if_neg (by omega), if_neg (by omega)]
theorem bk_bk (x : Int) : bk (bk x) = bk x := bk_id (bk_bd x).1 (bk_bd x).2

def run (c : C) : Int := 8 * c.floors - 7
def doors (c : C) : Int := c.width + 1
def saves (c : C) : Int := c.cost * (8 + c.width)
def limit (c : C) (b : Int) : Int := cars c.banks * (run c + 2 * c.width + 6) + bk b + c.good + c.dead + c.lag + 10
def back (c : C) (b : Int) : Int := c.good + run c + 3 * c.width + 2 * c.dead + bk b + 30

/-- each one of n cars once, and nothing else -/
def once (l : List Int) (n : Int) : Prop := (l.length : Int) = n ∧ (∀ x ∈ l, 0 ≤ x ∧ x < n) ∧ l.Nodup
instance (l : List Int) (n : Int) : Decidable (once l n) := by unfold once; infer_instance

/-- a group that may be -/
structure C.May (c : C) : Prop where
  nb : 1 ≤ c.banks.length ∧ c.banks.length ≤ 8
  bs : ∀ b ∈ c.banks, bOk b = true
  fl : 2 ≤ c.floors ∧ c.floors ≤ 32
  ho : 0 ≤ c.home ∧ c.home ≤ c.floors - 1
  or : once c.order (cars c.banks)
  sp : 1 ≤ c.speed ∧ c.speed ≤ 8
  wd : 1 ≤ c.width ∧ c.width ≤ 16
  dw : 1 ≤ c.dwell ∧ c.dwell ≤ 200
  go : 1 ≤ c.good ∧ c.good ≤ 200
  de : 1 ≤ c.dead ∧ c.dead ≤ 200
  tu : 1 ≤ c.turn ∧ c.turn ≤ 200
  la : 0 ≤ c.lag ∧ c.lag ≤ 8
  co : 0 ≤ c.cost ∧ c.cost ≤ 100
  fu : 0 ≤ c.full ∧ c.full ≤ 1048576
/-- what must hold, one by one -/
def dm (c : C) : Nat → Bool
  | 0 => wi c.banks.length 1 8
  | 1 => c.banks.all bOk
  | 2 => wi c.floors 2 32
  | 3 => wi c.home 0 (c.floors - 1)
  | 4 => decide (once c.order (cars c.banks))
  | 5 => wi c.speed 1 8
  | 6 => wi c.width 1 16
  | 7 => wi c.dwell 1 200
  | 8 => wi c.good 1 200
  | 9 => wi c.dead 1 200
  | 10 => wi c.turn 1 200
  | 11 => wi c.lag 0 8
  | 12 => wi c.cost 0 100
  | 13 => wi c.full 0 1048576
  | _ => true
theorem May_iff (c : C) : c.May ↔ ∀ k, k < 14 → dm c k = true := by
  constructor
  · intro h k hk
    have : k = 0 ∨ k = 1 ∨ k = 2 ∨ k = 3 ∨ k = 4 ∨ k = 5 ∨ k = 6 ∨ k = 7 ∨ k = 8 ∨ k = 9 ∨ k = 10 ∨ k = 11 ∨ k = 12 ∨ k = 13 := by omega
    rcases this with rfl | rfl | rfl | rfl | rfl | rfl | rfl | rfl | rfl | rfl | rfl | rfl | rfl | rfl
    · exact wi_iff.2 (by have := h.nb; omega)
    · exact List.all_eq_true.2 h.bs
    · exact wi_iff.2 h.fl
    · exact wi_iff.2 h.ho
    · exact decide_eq_true h.or
    · exact wi_iff.2 h.sp
    · exact wi_iff.2 h.wd
    · exact wi_iff.2 h.dw
    · exact wi_iff.2 h.go
    · exact wi_iff.2 h.de
    · exact wi_iff.2 h.tu
    · exact wi_iff.2 h.la
    · exact wi_iff.2 h.co
    · exact wi_iff.2 h.fu
  · intro h
    have h0 := wi_iff.1 (h 0 (by decide))
    exact ⟨by omega, List.all_eq_true.1 (h 1 (by decide)), wi_iff.1 (h 2 (by decide)), wi_iff.1 (h 3 (by decide)), of_decide_eq_true (h 4 (by decide)), wi_iff.1 (h 5 (by decide)), wi_iff.1 (h 6 (by decide)), wi_iff.1 (h 7 (by decide)), wi_iff.1 (h 8 (by decide)), wi_iff.1 (h 9 (by decide)), wi_iff.1 (h 10 (by decide)), wi_iff.1 (h 11 (by decide)), wi_iff.1 (h 12 (by decide)), wi_iff.1 (h 13 (by decide))⟩
/-- of a group that may not be there is a first demand that doesn't hold -/
theorem first_no (p : Nat → Bool) : ∀ n, (∀ k, k < n → p k = true) ∨ ∃ k, k < n ∧ p k = false ∧ ∀ j, j < k → p j = true
  | 0 => .inl (fun k h => absurd h (Nat.not_lt_zero _))
  | n + 1 => by
    rcases first_no p n with h | ⟨k, h1, h2, h3⟩
    · cases hp : p n
      · exact .inr ⟨n, Nat.lt_succ_self n, hp, h⟩
      · refine .inl fun k hk => ?_
        rcases Nat.lt_or_ge k n with h' | h'
        · exact h k h'
        · obtain rfl : k = n := by omega
          exact hp
    · exact .inr ⟨k, Nat.lt_succ_of_lt h1, h2, h3⟩
def mayC (c : C) : Bool := (List.range 14).all (dm c)
theorem mayC_iff (c : C) : mayC c = true ↔ c.May := by unfold mayC; rw [List.all_eq_true, May_iff]; simp only [List.mem_range]
theorem mayC_no (c : C) (h : mayC c = false) : ∃ k, k < 14 ∧ dm c k = false ∧ ∀ j, j < k → dm c j = true := by
  rcases first_no (dm c) 14 with h' | h'
  · rw [(mayC_iff c).2 ((May_iff c).2 h')] at h; cases h
  · exact h'

-- how often a car stands in a row
def cnt (l : List Int) (x : Int) : Nat := l.count x
/-- of the first n numbers, how often they stand in a row, all together -/
def cs (l : List Int) : Nat → Nat
  | 0 => 0
  | n + 1 => cs l n + cnt l n
/-- how many are from 0 to below n -/
def ins (n : Nat) (l : List Int) : Nat := l.countP fun x : Int => decide (0 ≤ x) && decide (x < (n : Int))
theorem cs_cons (x : Int) (l : List Int) (n : Nat) : cs (x :: l) n = cs l n + if 0 ≤ x ∧ x < (n : Int) then 1 else 0 := by
  induction n with
  | zero => rw [if_neg (by omega)]; rfl
  | succ n ih =>
    have e : cnt (x :: l) n = cnt l n + if x = (n : Int) then 1 else 0 := by
      unfold cnt
      rw [List.count_cons]
      by_cases h1 : x = n
      · simp [h1]
      · simp [h1]
    simp only [cs, ih, e]
    by_cases h1 : x = (n : Int)
    · rw [if_neg (by omega), if_pos h1, if_pos (by omega)]; omega
    · by_cases h2 : 0 ≤ x ∧ x < (n : Int)
      · rw [if_pos h2, if_neg h1, if_pos (by omega)]; omega
      · rw [if_neg h2, if_neg h1, if_neg (by omega)]; omega
theorem cs_ins (l : List Int) (n : Nat) : cs l n = ins n l := by
  induction l with
  | nil =>
    induction n with
    | zero => rfl
    | succ n ih => simp only [cs, ih, cnt]; simp [ins]
  | cons x l ih =>
    rw [cs_cons, ih]
    unfold ins
    rw [List.countP_cons]
    by_cases h : 0 ≤ x ∧ x < n
    · rw [if_pos h]; simp [h.1, h.2]
    · rw [if_neg h]
      have : (decide (0 ≤ x) && decide (x < n)) = false := by simp; omega
      rw [this]; simp
theorem cs_le (l : List Int) (h : l.Nodup) : ∀ n, cs l n ≤ n
  | 0 => Nat.le_refl _
  | n + 1 => by
    have h1 := cs_le l h n
    have h2 : cnt l n ≤ 1 := List.nodup_iff_count.1 h n
    simp only [cs]; omega
theorem cs_all (l : List Int) (hn : l.Nodup) : ∀ n, cs l n = n → ∀ k : Nat, k < n → cnt l k = 1
  | n + 1, h, k, hk => by
    have h1 := cs_le l hn n
    have h2 : cnt l n ≤ 1 := List.nodup_iff_count.1 hn n
    simp only [cs] at h
    rcases Nat.lt_or_ge k n with h' | h'
    · exact cs_all l hn n (by omega) k h'
    · obtain rfl : k = n := by omega
      omega
theorem cs_ones (l : List Int) : ∀ n, (∀ k : Nat, k < n → cnt l k = 1) → cs l n = n
  | 0, _ => rfl
  | n + 1, h => by
    have h1 := cs_ones l n (fun k hk => h k (Nat.lt_succ_of_lt hk))
    have h2 := h n (Nat.lt_succ_self n)
    simp only [cs]; omega
theorem once_iff (l : List Int) (n : Nat) : once l n ↔ l.length = n ∧ ∀ k : Nat, k < n → cnt l k = 1 := by
  constructor
  · rintro ⟨h1, h2, h3⟩
    have hl : l.length = n := by omega
    refine ⟨hl, cs_all l h3 n ?_⟩
    rw [cs_ins]
    unfold ins
    rw [List.countP_eq_length.2 (fun x hx => by have := h2 x hx; simp; omega)]
    exact hl
  · rintro ⟨h1, h2⟩
    have hc := cs_ones l n h2
    rw [cs_ins] at hc
    unfold ins at hc
    rw [← h1] at hc
    have hall := List.countP_eq_length.1 hc
    have hin : ∀ x ∈ l, 0 ≤ x ∧ x < n := fun x hx => by have := hall x hx; simp at this; omega
    refine ⟨by omega, hin, ?_⟩
    rw [List.nodup_iff_count]
    intro a
    by_cases ha : a ∈ l
    · have := hin a ha
      have h3 := h2 a.toNat (by omega)
      rw [show ((a.toNat : Nat) : Int) = a by omega] at h3
      exact Nat.le_of_eq h3
    · rw [List.count_eq_zero_of_not_mem ha]; omega
theorem once_reverse (l : List Int) (n : Int) : once l.reverse n ↔ once l n := by
  unfold once
  simp only [List.length_reverse, List.mem_reverse, (List.reverse_perm l).nodup_iff]
theorem once_rotate (l : List Int) (k : Nat) (n : Int) : once (l.drop k ++ l.take k) n ↔ once l n := by
  have hp : (l.drop k ++ l.take k).Perm l := by
    refine List.perm_append_comm.trans ?_
    rw [List.take_append_drop]
  unfold once
  rw [hp.length_eq, hp.nodup_iff]
  exact and_congr Iff.rfl (and_congr ⟨fun h x hx => h x (hp.mem_iff.2 hx), fun h x hx => h x (hp.mem_iff.1 hx)⟩ Iff.rfl)
/-- what one looks at while one goes through a row -/
theorem nodup_snoc (l : List Int) (x : Int) : (l ++ [x]).Nodup ↔ l.Nodup ∧ x ∉ l := by
  rw [List.nodup_append]
  constructor
  · rintro ⟨h1, _, h3⟩
    exact ⟨h1, fun hx => h3 x hx x (List.mem_singleton.2 rfl) rfl⟩
  · rintro ⟨h1, h2⟩
    exact ⟨h1, by simp, fun a ha b hb e => by rw [List.mem_singleton] at hb; subst hb; subst e; exact h2 ha⟩

end Go.Proofs.Ytkicijgempccfaa.ConP
