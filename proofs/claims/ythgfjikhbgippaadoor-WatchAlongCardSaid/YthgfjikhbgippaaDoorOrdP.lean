/- Plain mathematics of orders: a car's bit, who is next: no program is named here. -/
import Derived.WalkKit
import Derived.Laws.BitsAllLaws
namespace Go.Proofs.YthgfjikhbgippaaDoor.OrdP
set_option linter.unusedVariables false

/-- whether a car has a bit -/
def inb (c : Int) : Bool := decide (0 ≤ c ∧ c < 64)
/-- a car's bit alone -/
def bt (c : Int) : Nat := if inb c then 2 ^ c.toNat else 0
/-- whether bits have a car's -/
def hb (b : Nat) (c : Int) : Bool := inb c && b.testBit c.toNat
def wi (b : Nat) (c : Int) : Nat := b ||| bt c
def wo (b : Nat) (c : Int) : Nat := b &&& (18446744073709551615 - bt c)
/-- who isn't passed over -/
def fp (p : Nat) (l : List Int) : List Int := l.filter fun c => inb c && !hb p c
def fr (d o : Nat) (l : List Int) : List Int := l.filter fun c => inb c && !hb d c && !hb o c
def nx (d o : Nat) (l : List Int) : Int := (fr d o l).headD (-1)
def lf (d o : Nat) (l : List Int) : Nat := (fr d o l).length

theorem inb_iff {c : Int} : inb c = true ↔ 0 ≤ c ∧ c < 64 := by unfold inb; exact decide_eq_true_iff
theorem inb_no {c : Int} : inb c = false ↔ ¬ (0 ≤ c ∧ c < 64) := by unfold inb; exact decide_eq_false_iff_not
theorem bt_in {c : Int} (h : inb c = true) : bt c = 2 ^ c.toNat := by unfold bt; rw [if_pos h]
theorem bt_out {c : Int} (h : inb c = false) : bt c = 0 := by unfold bt; rw [if_neg (by rw [h]; decide)]
theorem bt_lt (c : Int) : bt c < 18446744073709551616 := by
  cases h : inb c
  · rw [bt_out h]; decide
  · rw [bt_in h]
    have := inb_iff.1 h
    exact Nat.pow_lt_pow_right (a := 2) (n := 64) (by decide) (by omega)
theorem bt_bit (c : Int) (k : Nat) : (bt c).testBit k = (inb c && decide (c.toNat = k)) := by
  cases h : inb c
  · rw [bt_out h]; simp
  · rw [bt_in h, Nat.testBit_two_pow]; simp
theorem not_bit (p : Nat) (h : p < 18446744073709551616) (k : Nat) : (18446744073709551615 - p).testBit k = (decide (k < 64) && !p.testBit k) := by
  have := Nat.testBit_two_pow_sub_succ (x := p) (n := 64) h k
  rw [show 2 ^ 64 - (p + 1) = 18446744073709551615 - p by omega] at this
  exact this
theorem bit_big {p k : Nat} (h : p < 18446744073709551616) (hk : 64 ≤ k) : p.testBit k = false :=
  Nat.testBit_lt_two_pow (Nat.lt_of_lt_of_le h (Nat.pow_le_pow_right (n := 2) (i := 64) (by decide) hk))
theorem wi_bit (b : Nat) (c : Int) (k : Nat) : (wi b c).testBit k = (b.testBit k || (inb c && decide (c.toNat = k))) := by
  unfold wi; rw [Nat.testBit_or, bt_bit]
theorem wo_bit (b : Nat) (c : Int) (k : Nat) (hb : b < 18446744073709551616) : (wo b c).testBit k = (b.testBit k && !(inb c && decide (c.toNat = k))) := by
  unfold wo
  rw [Nat.testBit_and, not_bit _ (bt_lt c), bt_bit]
  by_cases hk : k < 64
  · simp [hk]
  · rw [bit_big hb (by omega)]; simp
theorem wi_lt {b : Nat} (c : Int) (h : b < 18446744073709551616) : wi b c < 18446744073709551616 :=
  Nat.or_lt_two_pow (n := 64) h (bt_lt c)
theorem wo_lt {b : Nat} (c : Int) (h : b < 18446744073709551616) : wo b c < 18446744073709551616 :=
  Nat.lt_of_le_of_lt Nat.and_le_left h
theorem or_lt {b d : Nat} (h : b < 18446744073709551616) (k : d < 18446744073709551616) : b ||| d < 18446744073709551616 :=
  Nat.or_lt_two_pow (n := 64) h k

theorem and_no {b k : Nat} (h : b.testBit k = false) : b &&& 2 ^ k = 0 := by
  refine Nat.eq_of_testBit_eq fun j => ?_
  rw [Nat.testBit_and, Nat.testBit_two_pow, Nat.zero_testBit]
  by_cases e : k = j
  · subst e; rw [h]; rfl
  · simp [e]
theorem or_sum {b d : Nat} (hb : b < 18446744073709551616) (hd : d < 18446744073709551616) (h : b &&& d = 0) : b ||| d = b + d := by
  have e1 : (BitVec.ofNat 64 b).toNat = b := by rw [BitVec.toNat_ofNat]; exact Nat.mod_eq_of_lt hb
  have e2 : (BitVec.ofNat 64 d).toNat = d := by rw [BitVec.toNat_ofNat]; exact Nat.mod_eq_of_lt hd
  have h0 : BitVec.ofNat 64 b &&& BitVec.ofNat 64 d = 0#64 := by
    apply BitVec.eq_of_toNat_eq
    rw [BitVec.toNat_and, e1, e2, h]; rfl
  have h1 := BitVec.toNat_add_of_and_eq_zero h0
  rw [BitVec.add_eq_or_of_and_eq_zero _ _ h0, BitVec.toNat_or, e1, e2] at h1
  exact h1
/-- the test of Has -/
theorem and_bt (b : Nat) (c : Int) : decide (b &&& bt c = 0) = !hb b c := by
  unfold hb
  cases h : inb c
  · rw [bt_out h]; simp
  · rw [bt_in h, Bool.true_and]
    cases ht : b.testBit c.toNat
    · exact decide_eq_true (and_no ht)
    · refine decide_eq_false fun e => ?_
      have h2 : (b &&& 2 ^ c.toNat).testBit c.toNat = true := by rw [Nat.testBit_and, ht, Nat.testBit_two_pow]; simp
      rw [e] at h2
      simp at h2
theorem hb_in {b : Nat} {c : Int} (h : hb b c = true) : inb c = true := by unfold hb at h; exact (Bool.and_eq_true _ _ ▸ h).1
theorem hb_out {b : Nat} {c : Int} (h : inb c = false) : hb b c = false := by unfold hb; rw [h]; rfl
theorem hb_not {p : Nat} (h : p < 18446744073709551616) (c : Int) : hb (18446744073709551615 - p) c = (inb c && !hb p c) := by
  unfold hb
  cases hc : inb c
  · rfl
  · have := inb_iff.1 hc
    rw [not_bit _ h, decide_eq_true (by omega : c.toNat < 64)]; simp
theorem hb_or (d o : Nat) (c : Int) : hb (d ||| o) c = (hb d c || hb o c) := by
  unfold hb; rw [Nat.testBit_or]; cases inb c <;> simp
theorem hb_wi (b : Nat) (c x : Int) : hb (wi b c) x = (hb b x || (inb c && decide (x = c))) := by
  unfold hb
  rw [wi_bit]
  cases hx : inb x
  · cases hc : inb c
    · rfl
    · have : x ≠ c := fun e => by subst e; rw [hx] at hc; cases hc
      simp [this]
  · cases hc : inb c
    · simp
    · have h1 := inb_iff.1 hx
      have h2 := inb_iff.1 hc
      have : decide (c.toNat = x.toNat) = decide (x = c) := decide_eq_decide.2 (by omega)
      rw [this]; simp
theorem hb_wo {b : Nat} (c x : Int) (hb' : b < 18446744073709551616) : hb (wo b c) x = (hb b x && !decide (x = c)) := by
  unfold hb
  rw [wo_bit _ _ _ hb']
  cases hx : inb x
  · rfl
  · cases hc : inb c
    · have : x ≠ c := fun e => by subst e; rw [hx] at hc; cases hc
      simp [this]
    · have h1 := inb_iff.1 hx
      have h2 := inb_iff.1 hc
      have : decide (c.toNat = x.toNat) = decide (x = c) := decide_eq_decide.2 (by omega)
      rw [this]; simp
theorem ext64 {a b : Nat} (h : ∀ k, a.testBit k = b.testBit k) : a = b := Nat.eq_of_testBit_eq h
theorem wi_has {b : Nat} {c : Int} (h : hb b c = true) : wi b c = b := by
  have hi := hb_in h
  have ht : b.testBit c.toNat = true := by unfold hb at h; rw [hi] at h; simpa using h
  refine ext64 fun k => ?_
  rw [wi_bit, hi]
  by_cases hk : c.toNat = k
  · subst hk; rw [ht]; rfl
  · simp [hk]
theorem wi_out {b : Nat} {c : Int} (h : inb c = false) : wi b c = b := by unfold wi; rw [bt_out h, Nat.or_zero]
theorem wo_hasnt {b : Nat} {c : Int} (hl : b < 18446744073709551616) (h : hb b c = false) : wo b c = b := by
  refine ext64 fun k => ?_
  rw [wo_bit _ _ _ hl]
  by_cases hk : inb c = true ∧ c.toNat = k
  · obtain ⟨hi, rfl⟩ := hk
    have ht : b.testBit c.toNat = false := by unfold hb at h; rw [hi] at h; simpa using h
    rw [ht]; rfl
  · cases hi : inb c
    · simp
    · have : c.toNat ≠ k := fun e => hk ⟨hi, e⟩
      simp [this]
/-- a bit that wasn't there is added -/
theorem wi_add {b : Nat} {c : Int} (hl : b < 18446744073709551616) (h : hb b c = false) : wi b c = b + bt c := by
  cases hi : inb c
  · rw [wi_out hi, bt_out hi]; rfl
  · have ht : b.testBit c.toNat = false := by unfold hb at h; rw [hi] at h; simpa using h
    refine or_sum hl (bt_lt c) ?_
    rw [bt_in hi]
    exact and_no ht
/-- one that was there is taken away -/
theorem wo_sub {b : Nat} {c : Int} (hl : b < 18446744073709551616) (h : hb b c = true) : wo b c + bt c = b := by
  have h1 : hb (wo b c) c = false := by rw [hb_wo c c hl]; simp
  rw [← wi_add (wo_lt c hl) h1]
  refine ext64 fun k => ?_
  rw [wi_bit, wo_bit _ _ _ hl]
  have hi := hb_in h
  have ht : b.testBit c.toNat = true := by unfold hb at h; rw [hi] at h; simpa using h
  rw [hi]
  by_cases hk : c.toNat = k
  · subst hk; rw [ht]; simp
  · simp [hk]
theorem wi_wo {b : Nat} (c : Int) (hl : b < 18446744073709551616) : wi (wo b c) c = wi b c := by
  refine ext64 fun k => ?_
  rw [wi_bit, wo_bit _ _ _ hl, wi_bit]
  cases b.testBit k <;> cases inb c && decide (c.toNat = k) <;> rfl
theorem wo_wi {b : Nat} (c : Int) (hl : b < 18446744073709551616) : wo (wi b c) c = wo b c := by
  refine ext64 fun k => ?_
  rw [wo_bit _ _ _ (wi_lt c hl), wi_bit, wo_bit _ _ _ hl]
  cases b.testBit k <;> cases inb c && decide (c.toNat = k) <;> rfl
theorem wi_wi (b : Nat) (c : Int) : wi (wi b c) c = wi b c := by
  refine ext64 fun k => ?_
  rw [wi_bit, wi_bit]
  cases b.testBit k <;> cases inb c && decide (c.toNat = k) <;> rfl
theorem wo_wo {b : Nat} (c : Int) (hl : b < 18446744073709551616) : wo (wo b c) c = wo b c := by
  refine ext64 fun k => ?_
  rw [wo_bit _ _ _ (wo_lt c hl), wo_bit _ _ _ hl]
  cases b.testBit k <;> cases inb c && decide (c.toNat = k) <;> rfl
theorem wi_or_wo {b : Nat} (c : Int) (hl : b < 18446744073709551616) : wi b c = b ∨ wo b c = b := by
  cases h : hb b c
  · exact .inr (wo_hasnt hl h)
  · exact .inl (wi_has h)

theorem fp_or (d o : Nat) (l : List Int) : fp (d ||| o) l = fr d o l := by
  unfold fp fr
  congr 1
  funext c
  rw [hb_or]
  cases inb c <;> cases hb d c <;> cases hb o c <;> rfl
theorem fp_snoc (p : Nat) (l : List Int) (c : Int) : fp p (l ++ [c]) = if (inb c && !hb p c) = true then fp p l ++ [c] else fp p l := by
  unfold fp
  rw [List.filter_append]
  cases h : inb c && !hb p c
  · simp [h]
  · simp [h]
theorem fr_len (d o : Nat) (l : List Int) : (fr d o l).length ≤ l.length := List.length_filter_le _ _

end Go.Proofs.YthgfjikhbgippaaDoor.OrdP
