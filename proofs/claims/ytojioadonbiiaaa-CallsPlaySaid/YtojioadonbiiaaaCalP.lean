/- Plain mathematics of calls: a floor's bit, which floors there are, which is next, how many: no program is named here. -/
import Derived.WalkKit
import Derived.Laws.BitsAllLaws
namespace Go.Proofs.Ytojioadonbiiaaa.CalP
set_option linter.unusedVariables false

/-- whether a floor has a bit -/
def inb (c : Int) : Bool := decide (0 ≤ c ∧ c < 32)
/-- a floor's bit alone -/
def bt (c : Int) : Nat := if inb c then 2 ^ c.toNat else 0
/-- whether bits have a floor's -/
def hb (b : Nat) (c : Int) : Bool := inb c && b.testBit c.toNat
def wi (b : Nat) (c : Int) : Nat := b ||| bt c
def wo (b : Nat) (c : Int) : Nat := b &&& (4294967295 - bt c)
theorem inb_iff {c : Int} : inb c = true ↔ 0 ≤ c ∧ c < 32 := by unfold inb; exact decide_eq_true_iff
theorem inb_no {c : Int} : inb c = false ↔ ¬ (0 ≤ c ∧ c < 32) := by unfold inb; exact decide_eq_false_iff_not
theorem bt_in {c : Int} (h : inb c = true) : bt c = 2 ^ c.toNat := by unfold bt; rw [if_pos h]
theorem bt_out {c : Int} (h : inb c = false) : bt c = 0 := by unfold bt; rw [if_neg (by rw [h]; decide)]
theorem bt_lt (c : Int) : bt c < 4294967296 := by
  cases h : inb c
  · rw [bt_out h]; decide
  · rw [bt_in h]
    have := inb_iff.1 h
    exact Nat.pow_lt_pow_right (a := 2) (n := 32) (by decide) (by omega)
theorem bt_bit (c : Int) (k : Nat) : (bt c).testBit k = (inb c && decide (c.toNat = k)) := by
  cases h : inb c
  · rw [bt_out h]; simp
  · rw [bt_in h, Nat.testBit_two_pow]; simp
theorem not_bit (p : Nat) (h : p < 4294967296) (k : Nat) : (4294967295 - p).testBit k = (decide (k < 32) && !p.testBit k) := by
  have := Nat.testBit_two_pow_sub_succ (x := p) (n := 32) h k
  rw [show 2 ^ 32 - (p + 1) = 4294967295 - p by omega] at this
  exact this
theorem bit_big {p k : Nat} (h : p < 4294967296) (hk : 32 ≤ k) : p.testBit k = false :=
  Nat.testBit_lt_two_pow (Nat.lt_of_lt_of_le h (Nat.pow_le_pow_right (n := 2) (i := 32) (by decide) hk))
theorem wi_bit (b : Nat) (c : Int) (k : Nat) : (wi b c).testBit k = (b.testBit k || (inb c && decide (c.toNat = k))) := by
  unfold wi; rw [Nat.testBit_or, bt_bit]
theorem wo_bit (b : Nat) (c : Int) (k : Nat) (hb : b < 4294967296) : (wo b c).testBit k = (b.testBit k && !(inb c && decide (c.toNat = k))) := by
  unfold wo
  rw [Nat.testBit_and, not_bit _ (bt_lt c), bt_bit]
  by_cases hk : k < 32
  · simp [hk]
  · rw [bit_big hb (by omega)]; simp
theorem wi_lt {b : Nat} (c : Int) (h : b < 4294967296) : wi b c < 4294967296 :=
  Nat.or_lt_two_pow (n := 32) h (bt_lt c)
theorem wo_lt {b : Nat} (c : Int) (h : b < 4294967296) : wo b c < 4294967296 :=
  Nat.lt_of_le_of_lt Nat.and_le_left h
theorem or_lt {b d : Nat} (h : b < 4294967296) (k : d < 4294967296) : b ||| d < 4294967296 :=
  Nat.or_lt_two_pow (n := 32) h k

theorem and_no {b k : Nat} (h : b.testBit k = false) : b &&& 2 ^ k = 0 := by
  refine Nat.eq_of_testBit_eq fun j => ?_
  rw [Nat.testBit_and, Nat.testBit_two_pow, Nat.zero_testBit]
  by_cases e : k = j
  · subst e; rw [h]; rfl
  · simp [e]
theorem or_sum {b d : Nat} (hb : b < 4294967296) (hd : d < 4294967296) (h : b &&& d = 0) : b ||| d = b + d := by
  have e1 : (BitVec.ofNat 32 b).toNat = b := by rw [BitVec.toNat_ofNat]; exact Nat.mod_eq_of_lt hb
  have e2 : (BitVec.ofNat 32 d).toNat = d := by rw [BitVec.toNat_ofNat]; exact Nat.mod_eq_of_lt hd
  have h0 : BitVec.ofNat 32 b &&& BitVec.ofNat 32 d = 0#32 := by
    apply BitVec.eq_of_toNat_eq
    rw [BitVec.toNat_and, e1, e2, h]; rfl
  have h1 := BitVec.toNat_add_of_and_eq_zero h0
  rw [BitVec.add_eq_or_of_and_eq_zero _ _ h0, BitVec.toNat_or, e1, e2] at h1
  exact h1
/-- the test of Has -/
theorem and_bt (b : Nat) (c : Int) : decide (b &&& bt c = 0) = !hb b c := by
  unfold hb
  cases h : inb c
  · rw [bt_out h]; simp
  · rw [bt_in h, Bool.true_and]
    cases ht : b.testBit c.toNat
    · exact decide_eq_true (and_no ht)
    · refine decide_eq_false fun e => ?_
      have h2 : (b &&& 2 ^ c.toNat).testBit c.toNat = true := by rw [Nat.testBit_and, ht, Nat.testBit_two_pow]; simp
      rw [e] at h2
      simp at h2
theorem hb_in {b : Nat} {c : Int} (h : hb b c = true) : inb c = true := by unfold hb at h; exact (Bool.and_eq_true _ _ ▸ h).1
theorem hb_out {b : Nat} {c : Int} (h : inb c = false) : hb b c = false := by unfold hb; rw [h]; rfl
theorem hb_not {p : Nat} (h : p < 4294967296) (c : Int) : hb (4294967295 - p) c = (inb c && !hb p c) := by
  unfold hb
  cases hc : inb c
  · rfl
  · have := inb_iff.1 hc
    rw [not_bit _ h, decide_eq_true (by omega : c.toNat < 32)]; simp
theorem hb_or (d o : Nat) (c : Int) : hb (d ||| o) c = (hb d c || hb o c) := by
  unfold hb; rw [Nat.testBit_or]; cases inb c <;> simp
theorem hb_wi (b : Nat) (c x : Int) : hb (wi b c) x = (hb b x || (inb c && decide (x = c))) := by
  unfold hb
  rw [wi_bit]
  cases hx : inb x
  · cases hc : inb c
    · rfl
    · have : x ≠ c := fun e => by subst e; rw [hx] at hc; cases hc
      simp [this]
  · cases hc : inb c
    · simp
    · have h1 := inb_iff.1 hx
      have h2 := inb_iff.1 hc
      have : decide (c.toNat = x.toNat) = decide (x = c) := decide_eq_decide.2 (by omega)
      rw [this]; simp
theorem hb_wo {b : Nat} (c x : Int) (hb' : b < 4294967296) : hb (wo b c) x = (hb b x && !decide (x = c)) := by
  unfold hb
  rw [wo_bit _ _ _ hb']
  cases hx : inb x
  · rfl
  · cases hc : inb c
    · have : x ≠ c := fun e => by subst e; rw [hx] at hc; cases hc
      simp [this]
    · have h1 := inb_iff.1 hx
      have h2 := inb_iff.1 hc
      have : decide (c.toNat = x.toNat) = decide (x = c) := decide_eq_decide.2 (by omega)
      rw [this]; simp
theorem ext32 {a b : Nat} (h : ∀ k, a.testBit k = b.testBit k) : a = b := Nat.eq_of_testBit_eq h
theorem wi_has {b : Nat} {c : Int} (h : hb b c = true) : wi b c = b := by
  have hi := hb_in h
  have ht : b.testBit c.toNat = true := by unfold hb at h; rw [hi] at h; simpa using h
  refine ext32 fun k => ?_
  rw [wi_bit, hi]
  by_cases hk : c.toNat = k
  · subst hk; rw [ht]; rfl
  · simp [hk]
theorem wi_out {b : Nat} {c : Int} (h : inb c = false) : wi b c = b := by unfold wi; rw [bt_out h, Nat.or_zero]
theorem wo_hasnt {b : Nat} {c : Int} (hl : b < 4294967296) (h : hb b c = false) : wo b c = b := by
  refine ext32 fun k => ?_
  rw [wo_bit _ _ _ hl]
  by_cases hk : inb c = true ∧ c.toNat = k
  · obtain ⟨hi, rfl⟩ := hk
    have ht : b.testBit c.toNat = false := by unfold hb at h; rw [hi] at h; simpa using h
    rw [ht]; rfl
  · cases hi : inb c
    · simp
    · have : c.toNat ≠ k := fun e => hk ⟨hi, e⟩
      simp [this]
/-- a bit that wasn't there is added -/
theorem wi_add {b : Nat} {c : Int} (hl : b < 4294967296) (h : hb b c = false) : wi b c = b + bt c := by
  cases hi : inb c
  · rw [wi_out hi, bt_out hi]; rfl
  · have ht : b.testBit c.toNat = false := by unfold hb at h; rw [hi] at h; simpa using h
    refine or_sum hl (bt_lt c) ?_
    rw [bt_in hi]
    exact and_no ht
/-- one that was there is taken away -/
theorem wo_sub {b : Nat} {c : Int} (hl : b < 4294967296) (h : hb b c = true) : wo b c + bt c = b := by
  have h1 : hb (wo b c) c = false := by rw [hb_wo c c hl]; simp
  rw [← wi_add (wo_lt c hl) h1]
  refine ext32 fun k => ?_
  rw [wi_bit, wo_bit _ _ _ hl]
  have hi := hb_in h
  have ht : b.testBit c.toNat = true := by unfold hb at h; rw [hi] at h; simpa using h
  rw [hi]
  by_cases hk : c.toNat = k
  · subst hk; rw [ht]; simp
  · simp [hk]
theorem wi_wo {b : Nat} (c : Int) (hl : b < 4294967296) : wi (wo b c) c = wi b c := by
  refine ext32 fun k => ?_
  rw [wi_bit, wo_bit _ _ _ hl, wi_bit]
  cases b.testBit k <;> cases inb c && decide (c.toNat = k) <;> rfl
theorem wo_wi {b : Nat} (c : Int) (hl : b < 4294967296) : wo (wi b c) c = wo b c := by
  refine ext32 fun k => ?_
  rw [wo_bit _ _ _ (wi_lt c hl), wi_bit, wo_bit _ _ _ hl]
  cases b.testBit k <;> cases inb c && decide (c.toNat = k) <;> rfl
theorem wi_wi (b : Nat) (c : Int) : wi (wi b c) c = wi b c := by
  refine ext32 fun k => ?_
  rw [wi_bit, wi_bit]
  cases b.testBit k <;> cases inb c && decide (c.toNat = k) <;> rfl
theorem wo_wo {b : Nat} (c : Int) (hl : b < 4294967296) : wo (wo b c) c = wo b c := by
  refine ext32 fun k => ?_
  rw [wo_bit _ _ _ (wo_lt c hl), wo_bit _ _ _ hl]
  cases b.testBit k <;> cases inb c && decide (c.toNat = k) <;> rfl

/-- all floors, upwards -/
def fs32 : List Int := (List.range 32).map fun k : Nat => (k : Int)
/-- the floors whose bits are in a row, upwards -/
def fl (b : Nat) : List Int := fs32.filter (hb b)
/-- of the first k floors -/
def fk (b k : Nat) : List Int := (fs32.take k).filter (hb b)
def isF (f n : Int) : Bool := decide (f < n) && inb f
def wy (f p : Int) : Int := max (8 * f - p) (p - 8 * f)
/-- one floor more is looked at: the best one, and how far it is -/
def nst (p : Int) (s : Int × Int) (f : Int) : Int × Int := if s.1 = -1 ∨ wy f p < s.2 then (f, wy f p) else s
def nr (b : Nat) (p : Int) : Int := ((fl b).foldl (nst p) (-1, 0)).1
def low (b : Nat) : Int := (fl b).headD (-1)
def pc (b : Nat) : Nat := (fl b).length

theorem fs_at {k : Nat} (h : k < 32) : fs32[k]? = some (k : Int) := by
  unfold fs32
  rw [List.getElem?_map, List.getElem?_range h]; rfl
theorem fs_mem (x : Int) : x ∈ fs32 ↔ inb x = true := by
  rw [inb_iff]
  unfold fs32
  rw [List.mem_map]
  constructor
  · rintro ⟨k, hk, rfl⟩
    have := List.mem_range.1 hk
    omega
  · intro h
    exact ⟨x.toNat, List.mem_range.2 (by omega), Int.toNat_of_nonneg h.1⟩
theorem fs_nodup : fs32.Nodup := by decide
theorem fs_len : fs32.length = 32 := by decide
theorem fl_mem (b : Nat) (x : Int) : x ∈ fl b ↔ hb b x = true := by
  unfold fl
  rw [List.mem_filter, fs_mem]
  exact ⟨fun h => h.2, fun h => ⟨hb_in h, h⟩⟩
theorem fk_zero (b : Nat) : fk b 0 = [] := rfl
theorem fk_all (b : Nat) : fk b 32 = fl b := by unfold fk fl; rw [List.take_of_length_le (by rw [fs_len]; exact Nat.le_refl _)]
theorem fk_succ (b : Nat) {k : Nat} (h : k < 32) : fk b (k + 1) = if hb b k = true then fk b k ++ [(k : Int)] else fk b k := by
  unfold fk
  rw [List.take_add_one, fs_at h, List.filter_append]
  cases hh : hb b k
  · simp [hh]
  · simp [hh]
theorem fk_prefix (b k : Nat) : fk b k <+: fl b := by
  unfold fk fl
  exact (List.take_prefix k fs32).filter _
theorem fk_len (b k : Nat) : (fk b k).length ≤ k := by
  have h1 : (fk b k).length ≤ (fs32.take k).length := List.length_filter_le _ _
  rw [List.length_take] at h1
  omega
theorem fl_len (b : Nat) : (fl b).length ≤ 32 := by have := fk_len b 32; rwa [fk_all] at this
theorem pc_le (b : Nat) : pc b ≤ 32 := fl_len b
theorem fl_nil {b : Nat} (hl : b < 4294967296) : fl b = [] ↔ b = 0 := by
  constructor
  · intro h
    refine ext32 fun k => ?_
    rw [Nat.zero_testBit]
    by_cases hk : k < 32
    · cases ht : b.testBit k
      · rfl
      · have : (k : Int) ∈ fl b := (fl_mem b k).2 (by unfold hb; rw [inb_iff.2 (by omega), Int.toNat_natCast, ht]; rfl)
        rw [h] at this
        cases this
    · exact bit_big hl (by omega)
  · rintro rfl
    refine List.eq_nil_iff_forall_not_mem.2 fun x hx => ?_
    have := (fl_mem 0 x).1 hx
    unfold hb at this
    simp at this
theorem hb_zero (x : Int) : hb 0 x = false := by unfold hb; simp
theorem pc_zero {b : Nat} (hl : b < 4294967296) : pc b = 0 ↔ b = 0 := by unfold pc; rw [List.length_eq_zero_iff, fl_nil hl]

/-- floors as what they are: 0 to 31 -/
def tI (f : Fin 32) : Int := (f.val : Int)
def fkF (b k : Nat) : List (Fin 32) := ((List.finRange 32).take k).filter fun f => hb b (tI f)
theorem fs_fin : fs32 = (List.finRange 32).map tI := by decide +kernel
theorem fkF_map (b k : Nat) : (fkF b k).map tI = fk b k := by
  unfold fkF fk
  rw [fs_fin, ← List.map_take, List.filter_map]
  rfl
theorem fkF_len (b k : Nat) : (fkF b k).length ≤ k := by have := fk_len b k; rwa [← fkF_map, List.length_map] at this
theorem fkF_succ (b : Nat) {k : Nat} (h : k < 32) : fkF b (k + 1) = if hb b k = true then fkF b k ++ [⟨k, h⟩] else fkF b k := by
  have e : (List.finRange 32)[k]? = some ⟨k, h⟩ := by
    rw [List.getElem?_eq_getElem (by simpa using h)]
    simp
  unfold fkF
  rw [List.take_add_one, e, List.filter_append]
  have e2 : tI ⟨k, h⟩ = (k : Int) := rfl
  cases hh : hb b k
  · simp [e2, hh]
  · simp [e2, hh]
theorem fkF_prefix (b k : Nat) : fkF b k <+: fkF b 32 := by
  unfold fkF
  have h1 : (List.finRange 32).take k <+: (List.finRange 32).take 32 := by
    rw [List.take_of_length_le (i := 32) (by simp)]
    exact List.take_prefix k _
  exact h1.filter _
theorem fl_fkF (b : Nat) : (fkF b 32).map tI = fl b := by rw [fkF_map, fk_all]

theorem wy_ge (f p : Int) : 0 ≤ wy f p := by unfold wy; omega
/-- behind all floors of a list: the best one is one of them, and none is nearer -/
theorem nst_all (p : Int) : ∀ (l : List Int) (s : Int × Int), (∀ x ∈ l, 0 ≤ x) → (s = (-1, 0) ∨ (0 ≤ s.1 ∧ s.2 = wy s.1 p)) →
    (l.foldl (nst p) s = s ∧ (s = (-1, 0) → l = []) ∨ ((l.foldl (nst p) s).1 ∈ l)) ∧ (l.foldl (nst p) s = (-1, 0) ∨ (0 ≤ (l.foldl (nst p) s).1 ∧ (l.foldl (nst p) s).2 = wy (l.foldl (nst p) s).1 p)) ∧
    (∀ x ∈ l, wy (l.foldl (nst p) s).1 p ≤ wy x p) ∧ (s ≠ (-1, 0) → wy (l.foldl (nst p) s).1 p ≤ wy s.1 p) := by
  intro l
  induction l with
  | nil => exact fun s _ hs => ⟨.inl ⟨rfl, fun _ => rfl⟩, hs, fun x hx => by (cases hx), fun _ => Int.le_refl _⟩
  | cons f l ih =>
    intro s hl hs
    have h0 := hl f List.mem_cons_self
    have hl' : ∀ x ∈ l, 0 ≤ x := fun x hx => hl x (List.mem_cons_of_mem _ hx)
    rw [List.foldl_cons]
    by_cases hc : s.1 = -1 ∨ wy f p < s.2
    · have e : nst p s f = (f, wy f p) := by unfold nst; rw [if_pos hc]
      rw [e]
      have hne : ((f, wy f p) : Int × Int) ≠ (-1, 0) := fun h => by
        have := congrArg Prod.fst h
        simp only at this
        omega
      obtain ⟨h1, h2, h3, h4⟩ := ih (f, wy f p) hl' (.inr ⟨h0, rfl⟩)
      have h5 := h4 hne
      refine ⟨.inr ?_, h2, fun x hx => ?_, fun hs' => ?_⟩
      · rcases h1 with ⟨h1, _⟩ | h1
        · rw [h1]; exact List.mem_cons_self
        · exact List.mem_cons_of_mem _ h1
      · rcases List.mem_cons.1 hx with rfl | hx
        · exact h5
        · exact h3 x hx
      · rcases hs with hs | ⟨hs, hw⟩
        · exact absurd hs hs'
        · rcases hc with hc | hc
          · omega
          · rw [hw] at hc
            simp only at h5
            omega
    · have e : nst p s f = s := by unfold nst; rw [if_neg hc]
      rw [e]
      have hne : s ≠ (-1, 0) := fun h => hc (.inl (by rw [h]))
      obtain ⟨h1, h2, h3, h4⟩ := ih s hl' hs
      have h5 := h4 hne
      refine ⟨?_, h2, fun x hx => ?_, fun _ => h5⟩
      · rcases h1 with ⟨h1, _⟩ | h1
        · exact .inl ⟨h1, fun h => absurd h hne⟩
        · exact .inr (List.mem_cons_of_mem _ h1)
      · rcases List.mem_cons.1 hx with rfl | hx
        · rcases hs with hs | ⟨hs, hw⟩
          · exact absurd hs hne
          · have : ¬ wy x p < s.2 := fun h => hc (.inr h)
            rw [hw] at this
            omega
        · exact h3 x hx
theorem fl_ge (b : Nat) : ∀ x ∈ fl b, 0 ≤ x := fun x hx => (inb_iff.1 (hb_in ((fl_mem b x).1 hx))).1
theorem nr_spec (b : Nat) (p : Int) : (fl b = [] ∧ nr b p = -1) ∨ (hb b (nr b p) = true ∧ ∀ x, hb b x = true → wy (nr b p) p ≤ wy x p) := by
  obtain ⟨h1, h2, h3, h4⟩ := nst_all p (fl b) (-1, 0) (fl_ge b) (.inl rfl)
  rcases h1 with ⟨h1, h5⟩ | h1
  · refine .inl ⟨h5 rfl, ?_⟩
    unfold nr
    rw [h1]
  · exact .inr ⟨(fl_mem b _).1 h1, fun x hx => h3 x ((fl_mem b x).2 hx)⟩
theorem low_spec (b : Nat) : (fl b = [] ∧ low b = -1) ∨ hb b (low b) = true := by
  unfold low
  cases h : fl b with
  | nil => exact .inl ⟨rfl, rfl⟩
  | cons x l => exact .inr ((fl_mem b x).1 (by rw [h]; exact List.mem_cons_self))
theorem hb_ge {b : Nat} {x : Int} (h : hb b x = true) : 0 ≤ x ∧ x < 32 := inb_iff.1 (hb_in h)
theorem nr_no {b : Nat} (hl : b < 4294967296) (p : Int) : nr b p = -1 ↔ b = 0 := by
  rw [← fl_nil hl]
  rcases nr_spec b p with ⟨h1, h2⟩ | ⟨h1, _⟩
  · exact ⟨fun _ => h1, fun _ => h2⟩
  · refine ⟨fun h => ?_, fun h => ?_⟩
    · have := hb_ge h1
      omega
    · have := (fl_mem b _).2 h1
      rw [h] at this
      cases this
theorem low_no {b : Nat} (hl : b < 4294967296) : low b = -1 ↔ b = 0 := by
  rw [← fl_nil hl]
  rcases low_spec b with ⟨h1, h2⟩ | h1
  · exact ⟨fun _ => h1, fun _ => h2⟩
  · refine ⟨fun h => ?_, fun h => ?_⟩
    · have := hb_ge h1
      omega
    · have := (fl_mem b _).2 h1
      rw [h] at this
      cases this
theorem nr_range (b : Nat) (p : Int) : -1 ≤ nr b p ∧ nr b p < 32 := by
  rcases nr_spec b p with ⟨_, h⟩ | ⟨h, _⟩
  · omega
  · have := hb_ge h; omega
theorem low_range (b : Nat) : -1 ≤ low b ∧ low b < 32 := by
  rcases low_spec b with ⟨_, h⟩ | h
  · omega
  · have := hb_ge h; omega
/-- the lowest one is lowest -/
theorem low_least (b : Nat) (x : Int) (h : hb b x = true) : low b ≤ x := by
  have hs : (fl b).Pairwise (· < ·) := by
    unfold fl
    exact List.Pairwise.filter _ (by decide)
  have hm := (fl_mem b x).2 h
  unfold low
  cases hc : fl b with
  | nil => rw [hc] at hm; cases hm
  | cons y l =>
    rw [hc] at hm hs
    rcases List.mem_cons.1 hm with rfl | hm
    · exact Int.le_refl _
    · exact Int.le_of_lt ((List.pairwise_cons.1 hs).1 x hm)

theorem len_out {l : List Int} (hn : l.Nodup) (p : Int → Bool) (f : Int) : (l.filter fun x => p x && !decide (x = f)).length + (if f ∈ l ∧ p f = true then 1 else 0) = (l.filter p).length := by
  induction l with
  | nil => simp
  | cons a l ih =>
    obtain ⟨h1, h2⟩ := List.nodup_cons.1 hn
    have h := ih h2
    by_cases e : a = f
    · subst e
      have h3 : (if a ∈ l ∧ p a = true then 1 else 0) = 0 := if_neg fun h => h1 h.1
      rw [h3] at h
      cases hp : p a
      · rw [List.filter_cons_of_neg (by simp), List.filter_cons_of_neg (by simp [hp]), if_neg (by simp)]
        exact h
      · rw [List.filter_cons_of_neg (by simp), List.filter_cons_of_pos hp, if_pos ⟨List.mem_cons_self, rfl⟩, List.length_cons]
        omega
    · have h4 : (f ∈ a :: l ∧ p f = true) ↔ (f ∈ l ∧ p f = true) := by
        rw [List.mem_cons]
        exact ⟨fun ⟨h, k⟩ => ⟨h.resolve_left fun e' => e e'.symm, k⟩, fun ⟨h, k⟩ => ⟨.inr h, k⟩⟩
      rw [ite_congr (propext h4) (fun _ => rfl) (fun _ => rfl)]
      cases hp : p a
      · rw [List.filter_cons_of_neg (by simp [hp]), List.filter_cons_of_neg (by simp [hp])]
        exact h
      · rw [List.filter_cons_of_pos (by simp [hp, e]), List.filter_cons_of_pos hp, List.length_cons, List.length_cons]
        omega
/-- a floor less -/
theorem pc_wo {b : Nat} (f : Int) (hl : b < 4294967296) : pc (wo b f) + (if hb b f = true then 1 else 0) = pc b := by
  have h := len_out fs_nodup (hb b) f
  have e : (fun x => hb b x && !decide (x = f)) = hb (wo b f) := funext fun x => (hb_wo f x hl).symm
  rw [e] at h
  unfold pc fl
  rw [← h]
  congr 1
  exact ite_congr (propext ⟨fun h => ⟨(fs_mem f).2 (hb_in h), h⟩, fun h => h.2⟩) (fun _ => rfl) (fun _ => rfl)
/-- a floor more -/
theorem pc_wi {b : Nat} (f : Int) (hl : b < 4294967296) : pc (wi b f) = pc b + (if inb f = true ∧ hb b f = false then 1 else 0) := by
  cases hi : inb f
  · rw [wi_out hi, if_neg (by simp)]; rfl
  · cases hf : hb b f
    · rw [if_pos ⟨rfl, rfl⟩]
      have h1 := pc_wo f (wi_lt f hl)
      rw [wo_wi f hl, wo_hasnt hl hf, hb_wi, hi, if_pos (by simp)] at h1
      exact h1.symm
    · rw [wi_has hf, if_neg (by simp)]; rfl
theorem fl_one {f : Int} (h : inb f = true) : fl (bt f) = [f] := by
  have hf := (fs_mem f).2 h
  have h2 : ∀ x, hb (bt f) x = decide (x = f) := fun x => by
    unfold hb
    rw [bt_bit, h]
    cases hx : inb x
    · have : x ≠ f := fun e => by subst e; rw [hx] at h; cases h
      simp [this]
    · have h1 := inb_iff.1 hx
      have h3 := inb_iff.1 h
      have : decide (f.toNat = x.toNat) = decide (x = f) := decide_eq_decide.2 (by omega)
      rw [this]; simp
  unfold fl
  rw [show hb (bt f) = fun x => decide (x = f) from funext h2]
  have : ∀ l : List Int, l.Nodup → f ∈ l → l.filter (fun x => decide (x = f)) = [f] := by
    intro l
    induction l with
    | nil => intro _ h; cases h
    | cons a l ih =>
      intro hn hm
      obtain ⟨h1, h2⟩ := List.nodup_cons.1 hn
      by_cases e : a = f
      · subst e
        rw [List.filter_cons_of_pos (by simp)]
        congr 1
        refine List.filter_eq_nil_iff.2 fun x hx => ?_
        have : x ≠ a := fun e => by subst e; exact h1 hx
        simpa using this
      · rw [List.filter_cons_of_neg (by simpa using e)]
        exact ih h2 ((List.mem_cons.1 hm).resolve_left fun e' => e e'.symm)
  exact this _ fs_nodup hf

/-- how many of the lowest n bits are 1 -/
def cnt (n b : Nat) : Nat := ((List.range n).filter b.testBit).length
theorem cnt_add (m n b : Nat) : cnt (m + n) b = cnt m b + cnt n (b >>> m) := by
  unfold cnt
  rw [List.range_add, List.filter_append, List.length_append, List.filter_map, List.length_map]
  congr 2
  refine List.filter_congr fun k _ => ?_
  show b.testBit (m + k) = _
  rw [Nat.testBit_shiftRight]
theorem cnt_mod (n m b : Nat) (h : n ≤ m) : cnt n (b % 2 ^ m) = cnt n b := by
  unfold cnt
  congr 1
  refine List.filter_congr fun k hk => ?_
  have := List.mem_range.1 hk
  rw [Nat.testBit_mod_two_pow, decide_eq_true (by omega)]; simp
theorem pc_cnt (b : Nat) : pc b = cnt 32 b := by
  unfold pc fl cnt fs32
  rw [List.filter_map, List.length_map]
  have h : (List.range 32).filter (hb b ∘ fun k : Nat => (k : Int)) = (List.range 32).filter b.testBit := List.filter_congr fun k hk => by
    have := List.mem_range.1 hk
    show hb b k = _
    unfold hb
    rw [inb_iff.2 (by omega), Int.toNat_natCast]; rfl
  rw [h]
/-- by bytes -/
theorem pc_bytes (b : Nat) : pc b = cnt 8 (b / 16777216 % 256) + cnt 8 (b / 65536 % 256) + cnt 8 (b / 256 % 256) + cnt 8 (b % 256) := by
  have h1 : cnt 32 b = cnt 8 b + cnt 24 (b >>> 8) := cnt_add 8 24 b
  have h2 : cnt 24 (b >>> 8) = cnt 8 (b >>> 8) + cnt 16 (b >>> 8 >>> 8) := cnt_add 8 16 _
  have h3 : cnt 16 (b >>> 8 >>> 8) = cnt 8 (b >>> 8 >>> 8) + cnt 8 (b >>> 8 >>> 8 >>> 8) := cnt_add 8 8 _
  rw [pc_cnt, h1, h2, h3]
  have m1 := cnt_mod 8 8 b (Nat.le_refl _)
  have m2 := cnt_mod 8 8 (b / 256) (Nat.le_refl _)
  have m3 := cnt_mod 8 8 (b / 65536) (Nat.le_refl _)
  have m4 := cnt_mod 8 8 (b / 16777216) (Nat.le_refl _)
  rw [show (2 : Nat) ^ 8 = 256 by decide] at m1 m2 m3 m4
  rw [m1, m2, m3, m4]
  have e1 : b >>> 8 = b / 256 := Nat.shiftRight_eq_div_pow b 8
  have e2 : (b / 256) >>> 8 = b / 65536 := by rw [Nat.shiftRight_eq_div_pow, Nat.div_div_eq_div_mul]
  have e3 : (b / 65536) >>> 8 = b / 16777216 := by rw [Nat.shiftRight_eq_div_pow, Nat.div_div_eq_div_mul]
  rw [e1, e2, e3]
  omega
theorem cnt_le (n b : Nat) : cnt n b ≤ n := by unfold cnt; have := List.length_filter_le b.testBit (List.range n); rwa [List.length_range] at this

end Go.Proofs.Ytojioadonbiiaaa.CalP
