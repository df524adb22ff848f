/- Plain: ticks as lines: words, numbers, what is put, and what is parsed. No program is named here. -/
import Derived.Lib.ItoaNum
import Derived.Lib.ItoaLen
import Derived.Lib.ParseIntBTie
import Derived.Lib.Join
import Derived.Lib.Split
namespace Go.Proofs.YthpbcbbiampamaaGreatDoor.ScrP
open Go.Lib
set_option linter.unusedVariables false
set_option linter.unusedSimpArgs false

abbrev By := List UInt8
def dig (c : UInt8) : Bool := decide (48 ≤ c.toNat ∧ c.toNat ≤ 57)
def digs (l : By) : Bool := l.all dig
/-- what a row of digits comes to, behind a number -/
def val (a : Nat) (l : By) : Nat := l.foldl (fun a c => a * 10 + (c.toNat - 48)) a
theorem val_nil (a : Nat) : val a [] = a := rfl
theorem val_cons (a : Nat) (c : UInt8) (r : By) : val a (c :: r) = val (a * 10 + (c.toNat - 48)) r := by unfold val; rw [List.foldl_cons]
theorem val_snoc (a : Nat) (l : By) (c : UInt8) : val a (l ++ [c]) = val a l * 10 + (c.toNat - 48) := by unfold val; rw [List.foldl_append]; rfl
theorem val_ge : ∀ (l : By) (a : Nat), a ≤ val a l := by
  intro l
  induction l with
  | nil => exact fun a => Nat.le_refl _
  | cons c r ih => intro a; rw [val_cons]; have := ih (a * 10 + (c.toNat - 48)); omega
theorem chr_toNat {d : Nat} (h : d < 10) : (UInt8.ofNat (48 + d)).toNat = 48 + d := by
  rw [UInt8.toNat_ofNat']; omega
theorem dig_chr {d : Nat} (h : d < 10) : dig (UInt8.ofNat (48 + d)) = true := by unfold dig; rw [chr_toNat h]; simp; omega
theorem chr_of {c : UInt8} (h : dig c = true) : UInt8.ofNat (48 + (c.toNat - 48)) = c := by
  unfold dig at h
  have := of_decide_eq_true h
  rw [show 48 + (c.toNat - 48) = c.toNat by omega]; simp
theorem dec_big {n : Nat} (h : ¬ n < 10) : decDigits n = decDigits (n / 10) ++ [UInt8.ofNat (48 + n % 10)] := by rw [decDigits, dif_neg h]
theorem dec_val (n : Nat) : val 0 (decDigits n) = n := by
  induction n using Nat.strongRecOn with
  | _ n ih =>
    by_cases h : n < 10
    · rw [decDigits_one h, val_cons, val_nil, chr_toNat h]; omega
    · rw [dec_big h, val_snoc, ih (n / 10) (by omega), chr_toNat (by omega)]; omega
theorem dec_digs (n : Nat) : digs (decDigits n) = true := by
  induction n using Nat.strongRecOn with
  | _ n ih =>
    unfold digs
    by_cases h : n < 10
    · rw [decDigits_one h, List.all_cons, dig_chr h]; rfl
    · have := ih (n / 10) (by omega)
      unfold digs at this
      rw [dec_big h, List.all_append, this, List.all_cons, dig_chr (show n % 10 < 10 by omega)]; rfl
theorem dec_ne (n : Nat) : decDigits n ≠ [] := by
  intro e
  have := decDigits_length n
  rw [e] at this
  have := nDigits_pos n
  simp at *; omega
theorem head_app {x y : By} (h : x ≠ []) : (x ++ y).head? = x.head? := by
  cases x with
  | nil => exact absurd rfl h
  | cons c x => rfl
theorem dec_head {n : Nat} (h : 1 ≤ n) : (decDigits n).head? ≠ some 48 := by
  induction n using Nat.strongRecOn with
  | _ n ih =>
    by_cases h10 : n < 10
    · rw [decDigits_one h10]
      intro e
      simp only [List.head?_cons, Option.some.injEq] at e
      have := chr_toNat h10
      rw [e] at this
      have : (48 : UInt8).toNat = 48 + n := this
      have : (48 : UInt8).toNat = 48 := rfl
      omega
    · rw [dec_big h10, head_app (dec_ne _)]
      exact ih (n / 10) (by omega) (by omega)
/-- a row of digits without a needless 0 ahead -/
def canon (l : By) : Prop := l ≠ [] ∧ digs l = true ∧ (l.head? = some 48 → l.length = 1)
theorem dec_canon (n : Nat) : canon (decDigits n) := by
  refine ⟨dec_ne n, dec_digs n, fun h => ?_⟩
  by_cases h0 : 1 ≤ n
  · exact absurd h (dec_head h0)
  · obtain rfl : n = 0 := by omega
    rw [decDigits_one (by decide)]; rfl
theorem canon_dec : ∀ (r : By), canon r.reverse → decDigits (val 0 r.reverse) = r.reverse := by
  intro r
  induction r with
  | nil => intro h; exact absurd rfl h.1
  | cons c r ih =>
    intro h
    rw [List.reverse_cons] at h ⊢
    have hd : digs r.reverse = true ∧ dig c = true := by
      have := h.2.1
      unfold digs at *
      rw [List.all_append] at this
      simpa using this
    have hc := of_decide_eq_true hd.2
    rw [val_snoc]
    by_cases hr : r.reverse = []
    · rw [hr, val_nil, List.nil_append, Nat.zero_mul, Nat.zero_add, decDigits_one (by omega), chr_of hd.2]
    · have hh : r.reverse.head? ≠ some 48 := by
        intro e
        have := h.2.2 (by rw [head_app hr]; exact e)
        have h0 := List.length_pos_iff.2 hr
        rw [List.length_append, List.length_singleton] at this
        omega
      have hx := ih ⟨hr, hd.1, fun e => absurd e hh⟩
      have h1 : 1 ≤ val 0 r.reverse := by
        cases hq : r.reverse with
        | nil => exact absurd hq hr
        | cons x t =>
          rw [hq] at hh hd
          have hxd : dig x = true := by have := hd.1; unfold digs at this; simp at this; exact this.1
          have h2 := of_decide_eq_true hxd
          rw [val_cons]
          have h3 := val_ge t (0 * 10 + (x.toNat - 48))
          have h4 : x.toNat ≠ 48 := fun e => hh (by rw [List.head?_cons]; congr 1; exact UInt8.toNat_inj.1 e)
          omega
      rw [dec_big (by omega), show (val 0 r.reverse * 10 + (c.toNat - 48)) / 10 = val 0 r.reverse by omega, show (val 0 r.reverse * 10 + (c.toNat - 48)) % 10 = c.toNat - 48 by omega, hx, chr_of hd.2]
theorem canon_iff (l : By) : decDigits (val 0 l) = l ↔ canon l := by
  constructor
  · intro h; rw [← h]; exact dec_canon _
  · intro h
    have := canon_dec l.reverse
    rw [List.reverse_reverse] at this
    exact this h
/-- the number that a row of digits is, at most so much -/
def un (most : Nat) (w : By) : Option Nat := if decDigits (val 0 w) = w ∧ val 0 w ≤ most then some (val 0 w) else none
theorem un_iff {most : Nat} {w : By} {u : Nat} : un most w = some u ↔ w = decDigits u ∧ u ≤ most := by
  unfold un
  constructor
  · intro h
    split at h
    · rename_i h2
      cases h
      exact ⟨h2.1.symm, h2.2⟩
    · cases h
  · rintro ⟨rfl, h⟩
    rw [dec_val, if_pos ⟨rfl, h⟩]
theorem un_dec {most u : Nat} (h : u ≤ most) : un most (decDigits u) = some u := un_iff.2 ⟨rfl, h⟩
/-- an int that a word is -/
def num (w : By) : Option Int := match w with
  | [] => none
  | c :: r => if c = 45 then (match un 9223372036854775808 r with
      | some u => if u = 0 then none else some (-(u : Int))
      | none => none) else (un 9223372036854775807 (c :: r)).map fun (u : Nat) => (u : Int)
def bit (w : By) : Option Nat := un 18446744073709551615 w
theorem itoa_pos (u : Nat) : itoa (u : Int) = decDigits u := by unfold itoa; rw [if_neg (by omega)]; simp
theorem itoa_neg' {u : Nat} (h : 1 ≤ u) : itoa (-(u : Int)) = 45 :: decDigits u := by unfold itoa; rw [if_pos (by omega)]; simp
def In64 (n : Int) : Prop := -9223372036854775808 ≤ n ∧ n ≤ 9223372036854775807
theorem dec_cons (u : Nat) : ∃ c r, decDigits u = c :: r ∧ dig c = true := by
  have h1 := dec_ne u
  have h2 := dec_digs u
  cases h : decDigits u with
  | nil => exact absurd h h1
  | cons c r =>
    rw [h] at h2
    unfold digs at h2
    simp at h2
    exact ⟨c, r, rfl, h2.1⟩
theorem num_itoa {n : Int} (h : In64 n) : num (itoa n) = some n := by
  obtain ⟨h0, h1⟩ := h
  by_cases hn : 0 ≤ n
  · obtain ⟨u, rfl⟩ : ∃ u : Nat, n = u := ⟨n.toNat, by omega⟩
    rw [itoa_pos]
    obtain ⟨c, r, e, hc⟩ := dec_cons u
    have hc2 := of_decide_eq_true hc
    rw [e]
    unfold num
    simp only
    rw [if_neg (fun k => by rw [k] at hc2; revert hc2; decide), ← e, un_dec (by omega)]; rfl
  · obtain ⟨u, rfl, hu⟩ : ∃ u : Nat, n = -(u : Int) ∧ 1 ≤ u := ⟨n.natAbs, by omega, by omega⟩
    rw [itoa_neg' hu]
    unfold num
    simp only [if_true]
    rw [un_dec (by omega)]
    simp only
    rw [if_neg (by omega)]
theorem num_some {w : By} {n : Int} (h : num w = some n) : w = itoa n ∧ In64 n := by
  unfold num at h
  cases w with
  | nil => cases h
  | cons c r =>
    simp only at h
    split at h
    · rename_i hc
      subst hc
      cases hu : un 9223372036854775808 r with
      | none => rw [hu] at h; cases h
      | some u =>
        rw [hu] at h
        simp only at h
        split at h
        · cases h
        · rename_i h0
          cases h
          obtain ⟨e, hl⟩ := un_iff.1 hu
          exact ⟨by rw [itoa_neg' (by omega), e], by unfold In64; omega⟩
    · cases hu : un 9223372036854775807 (c :: r) with
      | none => rw [hu] at h; cases h
      | some u =>
        rw [hu] at h
        obtain rfl : (u : Int) = n := Option.some.inj h
        obtain ⟨e, hl⟩ := un_iff.1 hu
        exact ⟨by rw [itoa_pos]; exact e, by unfold In64; omega⟩
theorem num_iff {w : By} {n : Int} : num w = some n ↔ w = itoa n ∧ In64 n := ⟨num_some, fun h => by rw [h.1]; exact num_itoa h.2⟩
-- what the library's parsing says
theorem pu_dec : ∀ (l : By) (a : Nat), digs l = true → val a l < 18446744073709551616 → parseUint10 a l = .ok (val a l) := by
  intro l
  induction l with
  | nil => exact fun a _ _ => rfl
  | cons c r ih =>
    intro a hd hv
    unfold digs at hd
    simp only [List.all_cons, Bool.and_eq_true] at hd
    have hc := of_decide_eq_true hd.1
    rw [val_cons] at hv ⊢
    have hg := val_ge r (a * 10 + (c.toNat - 48))
    unfold parseUint10
    rw [if_pos hc, if_neg (by omega), if_neg (by omega)]
    exact ih _ hd.2 hv
theorem mag_dec {u : Nat} (h : u < 18446744073709551616) : parseMag (decDigits u) = .ok u := by
  unfold parseMag
  rw [if_neg (dec_ne u), pu_dec _ _ (dec_digs u) (by rw [dec_val]; exact h), dec_val]
theorem atoi_itoa {n : Int} (h : In64 n) : atoiAll (itoa n) = .ok n := by
  obtain ⟨h0, h1⟩ := h
  by_cases hn : 0 ≤ n
  · obtain ⟨u, rfl⟩ : ∃ u : Nat, n = u := ⟨n.toNat, by omega⟩
    rw [itoa_pos]
    obtain ⟨c, r, e, hc⟩ := dec_cons u
    have hc2 := of_decide_eq_true hc
    rw [e, atoiAll_plain c r (by omega) (by omega), ← e, mag_dec (by omega)]
    unfold signless
    simp only
    rw [if_neg (by omega)]
  · obtain ⟨u, rfl, hu⟩ : ∃ u : Nat, n = -(u : Int) ∧ 1 ≤ u := ⟨n.natAbs, by omega, by omega⟩
    rw [itoa_neg' hu, atoiAll_minus, mag_dec (by omega)]
    unfold signed
    simp only
    rw [if_neg (by omega)]
theorem num_ok {w : By} {n : Int} (h : atoiAll w = .ok n) : num w = if itoa n = w then some n else none := by
  split
  · rename_i e
    rw [← e]; exact num_itoa (atoiAll_bounds h)
  · rename_i e
    cases hm : num w with
    | none => rfl
    | some m =>
      obtain ⟨hw, hi⟩ := num_some hm
      have := atoi_itoa hi
      rw [← hw, h] at this
      cases this
      exact absurd hw.symm e
theorem num_no {w : By} (h : ∀ n, atoiAll w ≠ .ok n) : num w = none := by
  cases hm : num w with
  | none => rfl
  | some m =>
    obtain ⟨hw, hi⟩ := num_some hm
    have := atoi_itoa hi
    rw [← hw] at this
    exact absurd this (h m)
theorem bit_ok {w : By} {u : Nat} (h : parseUintB 64 w = .ok u) : bit w = if decDigits u = w then some u else none := by
  rw [parseUintB_64] at h
  have hl := parseMag_lt h
  split
  · rename_i e
    rw [← e]; exact un_dec (by omega)
  · rename_i e
    cases hm : bit w with
    | none => rfl
    | some m =>
      obtain ⟨hw, hi⟩ := un_iff.1 hm
      have := mag_dec (u := m) (by omega)
      rw [← hw, h] at this
      cases this
      exact absurd hw.symm e
theorem bit_no {w : By} (h : ∀ u, parseUintB 64 w ≠ .ok u) : bit w = none := by
  cases hm : bit w with
  | none => rfl
  | some m =>
    obtain ⟨hw, hi⟩ := un_iff.1 hm
    have := mag_dec (u := m) (by omega)
    rw [← hw, ← parseUintB_64] at this
    exact absurd this (h m)

-- the reference's digits, one by one
def dgf (most : Nat) : Nat → By → Nat × Bool
  | n, [] => (n, true)
  | n, c :: r => if dig c then (if (most - (c.toNat - 48)) / 10 < n then (0, false) else dgf most (10 * n + (c.toNat - 48)) r) else (0, false)
def dgs (most : Nat) (w : By) : Nat × Bool := if w = [] ∨ 20 < w.length ∨ (w.head? = some 48 ∧ 1 < w.length) then (0, false) else dgf most 0 w
theorem dgf_eq {most : Nat} (h9 : 9 ≤ most) : ∀ (l : By) (n : Nat), n ≤ most → dgf most n l = if digs l = true ∧ val n l ≤ most then (val n l, true) else (0, false) := by
  intro l
  induction l with
  | nil => intro n hn; rw [if_pos ⟨rfl, by rw [val_nil]; exact hn⟩]; rfl
  | cons c r ih =>
    intro n hn
    have hg := val_ge r (10 * n + (c.toNat - 48))
    have hv : val n (c :: r) = val (10 * n + (c.toNat - 48)) r := by rw [val_cons, Nat.mul_comm]
    unfold dgf
    by_cases hc : dig c = true
    · have hc2 := of_decide_eq_true hc
      rw [if_pos hc]
      have hdc : digs (c :: r) = digs r := by unfold digs; simp [hc]
      by_cases hm : (most - (c.toNat - 48)) / 10 < n
      · rw [if_pos hm, if_neg (fun h => by
          have h3 := h.2
          rw [hv] at h3
          omega)]
      · have h10 : 10 * n + (c.toNat - 48) ≤ most := by omega
        rw [if_neg hm, ih _ h10, hv, hdc]
    · rw [if_neg hc, if_neg (fun h => by have := h.1; unfold digs at this; simp only [List.all_cons, Bool.and_eq_true] at this; exact hc this.1)]
theorem dgs_eq {most : Nat} (h9 : 9 ≤ most) (h20 : most < 100000000000000000000) (w : By) : dgs most w = match un most w with | some u => (u, true) | none => (0, false) := by
  unfold dgs
  cases hu : un most w with
  | some u =>
    obtain ⟨rfl, hl⟩ := un_iff.1 hu
    have hc := dec_canon u
    have hlen : (decDigits u).length ≤ 20 := by
      rw [decDigits_length]
      by_cases h0 : 20 < nDigits u
      · exfalso
        have : 10 ^ 20 ≤ u := by
          have key : ∀ k u, k < nDigits u → 10 ^ k ≤ u ∨ k = 0 := by
            intro k
            induction k with
            | zero => exact fun u _ => .inr rfl
            | succ k ih =>
              intro u h
              by_cases h10 : u < 10
              · rw [nDigits_small h10] at h; omega
              · rw [nDigits_big h10] at h
                rcases ih (u / 10) (by omega) with h1 | h1
                · left; rw [Nat.pow_succ]; omega
                · left; subst h1; omega
          rcases key 20 u h0 with h | h
          · exact h
          · exact absurd h (by decide)
        have : (10 : Nat) ^ 20 = 100000000000000000000 := by decide
        omega
      · omega
    rw [if_neg (by
      rintro (h | h | ⟨h1, h2⟩)
      · exact hc.1 h
      · omega
      · have := hc.2.2 h1; omega)]
    rw [dgf_eq h9 _ _ (Nat.zero_le _), if_pos ⟨hc.2.1, by rw [dec_val]; omega⟩, dec_val]
  | none =>
    by_cases hb : w = [] ∨ 20 < w.length ∨ (w.head? = some 48 ∧ 1 < w.length)
    · rw [if_pos hb]
    · rw [if_neg hb, dgf_eq h9 _ _ (Nat.zero_le _)]
      simp only [not_or] at hb
      rw [if_neg]
      intro h
      have hcan : canon w := ⟨hb.1, h.1, fun e => by
        have h1 := hb.2.2
        have h2 := List.length_pos_iff.2 hb.1
        by_cases h3 : 1 < w.length
        · exact absurd ⟨e, h3⟩ h1
        · omega⟩
      have := un_iff.2 ⟨((canon_iff w).2 hcan).symm, h.2⟩
      rw [hu] at this
      cases this

-- words
def sp : By → List By
  | [] => [[]]
  | c :: r => if c = 32 then [] :: sp r else match sp r with
    | x :: xs => (c :: x) :: xs
    | [] => [[c]]
theorem sp_ne (l : By) : sp l ≠ [] := by
  cases l with
  | nil => simp [sp]
  | cons c r => unfold sp; split; · simp
                · split <;> simp
theorem sp_none {s : By} (h : (32 : UInt8) ∉ s) : sp s = [s] := by
  induction s with
  | nil => rfl
  | cons c r ih =>
    simp only [List.mem_cons, not_or] at h
    unfold sp
    rw [if_neg (fun e => h.1 e.symm), ih h.2]
theorem sp_cut {a : By} (h : (32 : UInt8) ∉ a) (r : By) : sp (a ++ 32 :: r) = a :: sp r := by
  induction a with
  | nil => simp [sp]
  | cons c a ih =>
    simp only [List.mem_cons, not_or] at h
    rw [List.cons_append]
    conv => lhs; unfold sp
    rw [if_neg (fun e => h.1 e.symm), ih h.2]
/-- the complete words, and what is begun of the next one -/
def step (p : List By × By) (c : UInt8) : List By × By := if c = 32 then (p.1 ++ [p.2], []) else (p.1, p.2 ++ [c])
def hdw (w : By) : List By → List By
  | x :: xs => (w ++ x) :: xs
  | [] => [w]
theorem fold_sp : ∀ (l : By) (p : List By × By), (l.foldl step p).1 ++ [(l.foldl step p).2] = p.1 ++ hdw p.2 (sp l) := by
  intro l
  induction l with
  | nil => intro p; simp [sp, hdw]
  | cons c r ih =>
    intro p
    rw [List.foldl_cons, ih]
    unfold step
    by_cases hc : c = 32
    · rw [if_pos hc]
      conv => rhs; unfold sp
      rw [if_pos hc]
      simp only [hdw, List.append_nil, List.append_assoc]
      cases h : sp r with
      | nil => exact absurd h (sp_ne r)
      | cons x xs => simp
    · rw [if_neg hc]
      conv => rhs; unfold sp
      rw [if_neg hc]
      cases h : sp r with
      | nil => exact absurd h (sp_ne r)
      | cons x xs => simp [hdw]
def wk (s : By) (i : Nat) : List By × By := (s.take i).foldl step ([], [])
theorem wk_zero (s : By) : wk s 0 = ([], []) := rfl
theorem wk_succ {s : By} {i : Nat} {c : UInt8} (h : s[i]? = some c) : wk s (i + 1) = step (wk s i) c := by
  unfold wk; rw [List.take_add_one, h, List.foldl_append]; rfl
theorem wk_all (s : By) : (wk s s.length).1 ++ [(wk s s.length).2] = sp s := by
  unfold wk
  rw [List.take_length, fold_sp]
  cases h : sp s with
  | nil => exact absurd h (sp_ne s)
  | cons x xs => simp [hdw]
theorem idx (s : By) : (index s [32] = -1 ∧ (32 : UInt8) ∉ s) ∨ ∃ a r, s = a ++ 32 :: r ∧ (32 : UInt8) ∉ a ∧ index s [32] = a.length := by
  induction s with
  | nil => left; exact ⟨rfl, by simp⟩
  | cons c s ih =>
    by_cases hc : c = 32
    · subst hc
      right
      exact ⟨[], s, rfl, by simp, by unfold index; rw [if_pos (by simp [List.isPrefixOf])]; rfl⟩
    · have hp : ¬ ([32] : By).isPrefixOf (c :: s) = true := by simp [List.isPrefixOf]; exact fun e => hc e.symm
      have hcc : ¬ (32 : UInt8) = c := fun e => hc e.symm
      rcases ih with ⟨h1, h2⟩ | ⟨a, r, h1, h2, h3⟩
      · left
        refine ⟨?_, by simp [hcc, h2]⟩
        unfold index
        rw [if_neg hp, h1]; rfl
      · right
        refine ⟨c :: a, r, by rw [h1]; rfl, by simp [hcc, h2], ?_⟩
        unfold index
        rw [if_neg hp, h3]
        have : ((a.length : Int) == -1) = false := by rw [beq_eq_false_iff_ne]; omega
        rw [this]; simp
theorem split_sp : ∀ (n : Nat) (s : By), s.length ≤ n → splitK [32] 0 (count s [32]) s = sp s ∧ count s [32] + 1 = (sp s).length := by
  intro n
  induction n with
  | zero =>
    intro s h
    obtain rfl : s = [] := by simpa using h
    exact ⟨rfl, rfl⟩
  | succ n ih =>
    intro s h
    rcases idx s with ⟨h1, h2⟩ | ⟨a, r, h1, h2, h3⟩
    · rw [count_miss h1, sp_none h2]
      exact ⟨rfl, rfl⟩
    · have hl : r.length ≤ n := by rw [h1] at h; simp at h; omega
      obtain ⟨i1, i2⟩ := ih r hl
      have hd : s.drop (a.length + ([32] : By).length) = r := by rw [h1]; simp
      have hc := count_hit (s := s) (sub := [32]) (by simp) h3
      rw [hd] at hc
      rw [hc]
      have hs : sp s = a :: sp r := by rw [h1]; exact sp_cut h2 r
      rw [hs]
      refine ⟨?_, by rw [List.length_cons, ← i2]; omega⟩
      rw [Nat.add_comm 1]
      unfold splitK
      rw [if_neg (by rw [h3]; simp), h3, Int.toNat_natCast, hd, i1]
      congr 1
      rw [h1, Nat.add_zero, List.take_left]
theorem sp_join : ∀ (r : List By) (x : By), (∀ y ∈ x :: r, (32 : UInt8) ∉ y) → sp (join (x :: r) [32]) = x :: r := by
  intro r
  induction r with
  | nil => intro x h; rw [join_one]; exact sp_none (h x List.mem_cons_self)
  | cons y r ih =>
    intro x h
    have e : join (x :: y :: r) [32] = x ++ 32 :: join (y :: r) [32] := by
      rw [join_cons, join_cons]
      unfold joinTail
      simp
    rw [e, sp_cut (h x List.mem_cons_self), ih y fun z hz => h z (List.mem_cons_of_mem _ hz)]

-- a tick's words
def wMains : By := [109, 97, 105, 110, 115]
def wGen : By := [103, 101, 110]
def wNone : By := [110, 111, 110, 101]
def wHall : By := [104, 97, 108, 108]
def wCall : By := [99, 97, 108, 108]
def wLoad : By := [108, 111, 97, 100]
def wFault : By := [102, 97, 117, 108, 116]
def wReset : By := [114, 101, 115, 101, 116]
def wPick : By := [112, 105, 99, 107]
def wRestart : By := [114, 101, 115, 116, 97, 114, 116]
structure E where
  k : Int
  c : Int
  n : Int
  deriving DecidableEq
structure T where
  m : Bool
  g : Bool
  cap : Int
  bl : Nat
  es : List E
  deriving DecidableEq
def kw (k : Int) : By × Bool × Bool :=
  if k = 0 then (wHall, false, true) else if k = 1 then (wCall, true, true) else if k = 2 then (wLoad, true, true) else if k = 3 then (wFault, true, false)
  else if k = 4 then (wReset, true, false) else if k = 5 then (wPick, true, false) else if k = 6 then (wRestart, false, true) else ([], false, false)
def kd (w : By) : Option (Int × Bool × Bool) :=
  if w = wHall then some (0, false, true) else if w = wCall then some (1, true, true) else if w = wLoad then some (2, true, true) else if w = wFault then some (3, true, false)
  else if w = wReset then some (4, true, false) else if w = wPick then some (5, true, false) else if w = wRestart then some (6, false, true) else none
def evt (e : E) : List By := (if (kw e.k).2.1 then [itoa e.c] else []) ++ (if (kw e.k).2.2 then [itoa e.n] else [])
def evw (e : E) : List By := if (kw e.k).1 = [] then [] else (kw e.k).1 :: evt e
def gv (b : Bool) (w : By) : By := if b then w else wNone
def hd4 (t : T) : List By := [gv t.m wMains, gv t.g wGen, itoa t.cap, decDigits t.bl]
def ws (t : T) : List By := hd4 t ++ t.es.flatMap evw
def put (t : T) : By := join (ws t) [32]
theorem ws_snoc (t : T) (l : List E) (e : E) : ws { t with es := l ++ [e] } = ws { t with es := l } ++ evw e := by
  unfold ws hd4; simp
theorem join_app (x : By) (r s : List By) : join (x :: r ++ s) [32] = join (x :: r) [32] ++ joinTail [32] s := by
  rw [List.cons_append, join_cons, join_cons]; unfold joinTail; simp
theorem put_snoc (t : T) (l : List E) (e : E) : put { t with es := l ++ [e] } = put { t with es := l } ++ joinTail [32] (evw e) := by
  unfold put; rw [ws_snoc]
  exact join_app _ _ _
theorem put_none (t : T) : put { t with es := [] } = gv t.m wMains ++ [32] ++ gv t.g wGen ++ [32] ++ itoa t.cap ++ [32] ++ decDigits t.bl := by
  unfold put ws hd4; rw [List.flatMap_nil, List.append_nil, join_cons]; unfold joinTail; simp

-- what is parsed
def rd (b : Bool) (l : List By) : Option (Int × List By) := if b then (match l with
  | [] => none
  | w :: r => (num w).map (·, r)) else some (0, l)
def evF : Nat → List By → Option (List E)
  | _, [] => some []
  | 0, _ :: _ => none
  | n + 1, w :: r => (kd w).bind fun k => (rd k.2.1 r).bind fun x => (rd k.2.2 x.2).bind fun y => (evF n y.2).map fun l => ⟨k.1, x.1, y.1⟩ :: l
theorem rd_len {b : Bool} {l : List By} {x : Int × List By} (h : rd b l = some x) : x.2.length ≤ l.length := by
  unfold rd at h
  split at h
  · cases l with
    | nil => cases h
    | cons w r =>
      simp only at h
      cases hn : num w with
      | none => rw [hn] at h; cases h
      | some n => rw [hn] at h; cases h; simp
  · cases h; exact Nat.le_refl _
theorem evF_more : ∀ (f : Nat) (l : List By), l.length ≤ f → evF f l = evF l.length l := by
  intro f
  induction f using Nat.strongRecOn with
  | _ f ih =>
    intro l h
    cases l with
    | nil => cases f <;> rfl
    | cons w r =>
      cases f with
      | zero => simp at h
      | succ f =>
        rw [List.length_cons] at h
        rw [List.length_cons]
        unfold evF
        cases hk : kd w with
        | none => rfl
        | some k =>
          simp only [Option.bind_some]
          cases hx : rd k.2.1 r with
          | none => rfl
          | some x =>
            simp only [Option.bind_some]
            cases hy : rd k.2.2 x.2 with
            | none => rfl
            | some y =>
              simp only [Option.bind_some]
              have h1 := rd_len hx
              have h2 := rd_len hy
              rw [ih f (by omega) y.2 (by omega), ih r.length (by omega) y.2 (by omega)]
def ev (l : List By) : Option (List E) := evF l.length l
theorem ev_nil : ev [] = some [] := rfl
theorem ev_cons (w : By) (r : List By) : ev (w :: r) = (kd w).bind fun k => (rd k.2.1 r).bind fun x => (rd k.2.2 x.2).bind fun y => (ev y.2).map fun l => ⟨k.1, x.1, y.1⟩ :: l := by
  unfold ev
  rw [List.length_cons]
  conv => lhs; unfold evF
  cases hk : kd w with
  | none => rfl
  | some k =>
    simp only [Option.bind_some]
    cases hx : rd k.2.1 r with
    | none => rfl
    | some x =>
      simp only [Option.bind_some]
      cases hy : rd k.2.2 x.2 with
      | none => rfl
      | some y =>
        simp only [Option.bind_some]
        have h1 := rd_len hx
        have h2 := rd_len hy
        rw [evF_more r.length y.2 (by omega)]
def prs (l : By) : Option T := match sp l with
  | w0 :: w1 :: w2 :: w3 :: r => if (w0 = wMains ∨ w0 = wNone) ∧ (w1 = wGen ∨ w1 = wNone) then (num w2).bind fun c => (bit w3).bind fun b => (ev r).map fun es => ⟨decide (w0 = wMains), decide (w1 = wGen), c, b, es⟩ else none
  | _ => none

-- what is put is parsed as it was
/-- an event as its words have it -/
def nrm (e : E) : E := ⟨e.k, if (kw e.k).2.1 then e.c else 0, if (kw e.k).2.2 then e.n else 0⟩
def isK (e : E) : Bool := decide (0 ≤ e.k ∧ e.k ≤ 6)
def E.In (e : E) : Prop := In64 e.c ∧ In64 e.n
theorem kd_kw {k : Int} (h : 0 ≤ k ∧ k ≤ 6) : (kw k).1 ≠ [] ∧ kd (kw k).1 = some (k, (kw k).2) := by
  have : k = 0 ∨ k = 1 ∨ k = 2 ∨ k = 3 ∨ k = 4 ∨ k = 5 ∨ k = 6 := by omega
  rcases this with rfl | rfl | rfl | rfl | rfl | rfl | rfl <;> exact ⟨by decide, by decide⟩
theorem kw_no {k : Int} (h : ¬ (0 ≤ k ∧ k ≤ 6)) : kw k = ([], false, false) := by
  unfold kw
  rw [if_neg (by omega), if_neg (by omega), if_neg (by omega), if_neg (by omega), if_neg (by omega), if_neg (by omega), if_neg (by omega)]
theorem evw_no {e : E} (h : isK e = false) : evw e = [] := by unfold evw; rw [kw_no (of_decide_eq_false h), if_pos rfl]
theorem evw_yes {e : E} (h : isK e = true) : evw e = (kw e.k).1 :: evt e := by unfold evw; rw [if_neg (kd_kw (of_decide_eq_true h)).1]
theorem rd_itoa {b : Bool} {n : Int} (h : In64 n) (r : List By) : rd b ((if b then [itoa n] else []) ++ r) = some (if b then n else 0, r) := by
  cases b
  · rfl
  · simp [rd, num_itoa h]
theorem ev_put : ∀ (es : List E), (∀ e ∈ es, e.In) → ev (es.flatMap evw) = some ((es.filter isK).map nrm) := by
  intro es
  induction es with
  | nil => exact fun _ => rfl
  | cons e es ih =>
    intro h
    have hi := ih fun x hx => h x (List.mem_cons_of_mem _ hx)
    have he := h e List.mem_cons_self
    rw [List.flatMap_cons]
    cases hk : isK e
    · rw [evw_no hk, List.nil_append, hi, List.filter_cons_of_neg (by rw [hk]; decide)]
    · obtain ⟨k1, k2⟩ := kd_kw (of_decide_eq_true hk)
      rw [evw_yes hk, List.cons_append, ev_cons, k2, List.filter_cons_of_pos hk, List.map_cons]
      simp only [Option.bind_some]
      unfold evt
      rw [List.append_assoc, rd_itoa he.1]
      simp only [Option.bind_some]
      rw [rd_itoa he.2]
      simp only [Option.bind_some, hi, Option.map_some]
      rfl
theorem digs_sp {l : By} (h : digs l = true) : (32 : UInt8) ∉ l := by
  intro hm
  unfold digs at h
  rw [List.all_eq_true] at h
  have := h 32 hm
  revert this; decide
theorem itoa_sp (n : Int) : (32 : UInt8) ∉ itoa n := by
  unfold itoa
  split
  · simp only [List.mem_cons, not_or]
    exact ⟨by decide, digs_sp (dec_digs _)⟩
  · exact digs_sp (dec_digs _)
theorem gv_sp (b : Bool) : (32 : UInt8) ∉ gv b wMains ∧ (32 : UInt8) ∉ gv b wGen := by cases b <;> exact ⟨by decide, by decide⟩
theorem evw_sp (e : E) : ∀ y ∈ evw e, (32 : UInt8) ∉ y := by
  intro y hy
  cases hk : isK e
  · rw [evw_no hk] at hy; cases hy
  · rw [evw_yes hk] at hy
    have hkk := of_decide_eq_true hk
    rcases List.mem_cons.1 hy with rfl | hy
    · have : e.k = 0 ∨ e.k = 1 ∨ e.k = 2 ∨ e.k = 3 ∨ e.k = 4 ∨ e.k = 5 ∨ e.k = 6 := by omega
      rcases this with h | h | h | h | h | h | h <;> rw [h] <;> decide
    · unfold evt at hy
      rcases List.mem_append.1 hy with hy | hy
      · split at hy
        · rw [List.mem_singleton.1 hy]; exact itoa_sp _
        · cases hy
      · split at hy
        · rw [List.mem_singleton.1 hy]; exact itoa_sp _
        · cases hy
theorem sp_put (t : T) : sp (put t) = ws t := by
  unfold put
  refine sp_join _ _ fun y hy => ?_
  have hy : y ∈ ws t := hy
  unfold ws hd4 at hy
  rcases List.mem_append.1 hy with hy | hy
  · simp only [List.mem_cons, List.not_mem_nil, or_false] at hy
    rcases hy with rfl | rfl | rfl | rfl
    · exact (gv_sp _).1
    · exact (gv_sp _).2
    · exact itoa_sp _
    · exact digs_sp (dec_digs _)
  · obtain ⟨e, he, hy⟩ := List.mem_flatMap.1 hy
    exact evw_sp e y hy
structure T.In (t : T) : Prop where
  cap : In64 t.cap
  bl : t.bl < 18446744073709551616
  es : ∀ e ∈ t.es, e.In
/-- a tick as its line has it -/
def T.nrm (t : T) : T := { t with es := (t.es.filter isK).map ScrP.nrm }
theorem prs_put {t : T} (h : t.In) : prs (put t) = some t.nrm := by
  unfold prs
  rw [sp_put]
  have e1 : (gv t.m wMains = wMains ∨ gv t.m wMains = wNone) ∧ (gv t.g wGen = wGen ∨ gv t.g wGen = wNone) := by
    cases t.m <;> cases t.g <;> exact ⟨by decide, by decide⟩
  have e2 : decide (gv t.m wMains = wMains) = t.m := by cases t.m <;> decide
  have e3 : decide (gv t.g wGen = wGen) = t.g := by cases t.g <;> decide
  show (if _ then _ else _) = _
  rw [if_pos e1, num_itoa h.cap]
  simp only [Option.bind_some]
  have e4 : bit (decDigits t.bl) = some t.bl := un_dec (by have := h.bl; omega)
  rw [e4]
  simp only [Option.bind_some]
  have e5 : ev (List.append [] (t.es.flatMap evw)) = some ((t.es.filter isK).map ScrP.nrm) := ev_put t.es h.es
  have e6 : ev (t.es.flatMap evw) = some ((t.es.filter isK).map ScrP.nrm) := ev_put t.es h.es
  first
    | rw [e5]
    | rw [e6]
    | (simp only [e5, e6])
  simp only [Option.map_some, e2, e3]
  rfl
theorem kw_nrm (e : E) : evw (ScrP.nrm e) = evw e := by
  unfold evw evt ScrP.nrm
  simp only
  cases (kw e.k).2.1 <;> cases (kw e.k).2.2 <;> rfl
theorem put_nrm (t : T) : put t.nrm = put t := by
  unfold put ws hd4 T.nrm
  simp only
  congr 2
  induction t.es with
  | nil => rfl
  | cons e es ih =>
    rw [List.flatMap_cons]
    cases hk : isK e
    · rw [List.filter_cons_of_neg (by rw [hk]; decide), evw_no hk, ih, List.nil_append]
    · rw [List.filter_cons_of_pos hk, List.map_cons, List.flatMap_cons, ih, kw_nrm]

-- lengths
theorem itoa_len {n : Int} (h : In64 n) : (itoa n).length ≤ 21 := itoa_length_le n h.1 h.2
theorem dec_len {u : Nat} (h : u < 18446744073709551616) : (decDigits u).length ≤ 20 := by rw [decDigits_length]; exact nDigits_le20 u h
theorem kw_len (k : Int) : (kw k).1.length ≤ 7 := by
  by_cases h : 0 ≤ k ∧ k ≤ 6
  · have : k = 0 ∨ k = 1 ∨ k = 2 ∨ k = 3 ∨ k = 4 ∨ k = 5 ∨ k = 6 := by omega
    rcases this with rfl | rfl | rfl | rfl | rfl | rfl | rfl <;> decide
  · rw [kw_no h]; decide
theorem tail_nil : joinTail [32] [] = [] := rfl
theorem tail_cons (x : By) (r : List By) : joinTail [32] (x :: r) = [32] ++ x ++ joinTail [32] r := by unfold joinTail; simp
theorem evt_tail {e : E} (h : e.In) : (joinTail [32] (evw e)).length ≤ 60 := by
  have h1 := kw_len e.k
  have h2 := itoa_len h.1
  have h3 := itoa_len h.2
  unfold evw evt
  split
  · exact Nat.zero_le _
  · cases (kw e.k).2.1 <;> cases (kw e.k).2.2 <;> simp only [Bool.false_eq_true, if_false, if_true, List.append_nil, List.nil_append, List.cons_append, tail_cons, tail_nil, List.length_append, List.length_cons, List.length_nil] <;> omega
theorem gv_len (b : Bool) : (gv b wMains).length ≤ 5 ∧ (gv b wGen).length ≤ 5 := by cases b <;> exact ⟨by decide, by decide⟩
theorem put_len {t : T} (h : t.In) : ∀ (l : List E), (∀ e ∈ l, e.In) → (put { t with es := l }).length ≤ 60 + 60 * l.length := by
  intro l
  have key : ∀ (r : List E), (∀ e ∈ r, e.In) → (put { t with es := r.reverse }).length ≤ 60 + 60 * r.length := by
    intro r
    induction r with
    | nil =>
      intro _
      have h1 := gv_len t.m
      have h2 := gv_len t.g
      have h3 := itoa_len h.cap
      have h4 := dec_len h.bl
      rw [List.reverse_nil, put_none]
      simp only [List.length_append, List.length_cons, List.length_nil]; omega
    | cons e r ih =>
      intro hr
      have hi := ih fun x hx => hr x (List.mem_cons_of_mem _ hx)
      have he := evt_tail (hr e List.mem_cons_self)
      rw [List.reverse_cons, put_snoc, List.length_append, List.length_cons]; omega
  intro hl
  have := key l.reverse (fun e he => hl e (List.mem_reverse.1 he))
  rwa [List.reverse_reverse, List.length_reverse] at this

end Go.Proofs.YthpbcbbiampamaaGreatDoor.ScrP
