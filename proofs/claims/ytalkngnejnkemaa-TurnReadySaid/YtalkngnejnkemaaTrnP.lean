/- Plain mathematics of turns: who is next behind a car, a turn a tick on: no program is named here. -/
import Derived.Test.YtalkngnejnkemaaOrdP
namespace Go.Proofs.Ytalkngnejnkemaa.TrnP
open Go.Proofs.Ytalkngnejnkemaa.OrdP
set_option linter.unusedVariables false

/-- a turn: its car, and how many ticks are left -/
structure T where
  c : Int
  l : Int
theorem T.ext2 {t u : T} (h : t.c = u.c) (k : t.l = u.l) : t = u := by cases t; cases u; simp_all

/-- where a ring begins: from 0 to 64 -/
def fs (c : Int) : Nat := (max (-1) (min c 63) + 1).toNat
/-- number i of a ring -/
def rx (f i : Nat) : Int := (((f + i) % 64 : Nat) : Int)
def rg (f : Nat) : List Int := (List.range 64).map (rx f)
/-- the next one behind a car -/
def nb (r : Nat) (c : Int) : Int := ((rg (fs c)).filter (hb r)).headD (-1)
def no : T := ⟨-1, 0⟩
/-- a turn that begins -/
def bg (c p : Int) : T := if c < 0 then no else ⟨c, max 1 p⟩
/-- a tick on -/
def st (t : T) (r : Nat) (b : Bool) (p : Int) : T :=
  if hb r t.c = false then bg (nb r t.c) p else if b = true then t else if t.l ≤ 1 then bg (nb r t.c) p else ⟨t.c, t.l - 1⟩
/-- chosen by hand -/
def pk (t : T) (c : Int) (r : Nat) (b : Bool) (p : Int) : T := if (b || !hb r c) = true then t else bg c p

theorem fs_eq (c : Int) (h : c ≤ 63) : (fs c : Int) = max (-1) c + 1 := by unfold fs; omega
theorem fs_le (c : Int) : fs c ≤ 64 := by unfold fs; omega
theorem rx_in (f i : Nat) : 0 ≤ rx f i ∧ rx f i < 64 := by unfold rx; omega
theorem rg_len (f : Nat) : (rg f).length = 64 := by unfold rg; simp
theorem rg_at (f i : Nat) (h : i < 64) : (rg f)[i]? = some (rx f i) := by
  unfold rg
  rw [List.getElem?_map, List.getElem?_range h]; rfl

theorem head_at {α : Type} (q : α → Bool) (d : α) : ∀ (l : List α) (i : Nat) (x : α), l[i]? = some x → q x = true → (∀ j y, j < i → l[j]? = some y → q y = false) → (l.filter q).headD d = x := by
  intro l
  induction l with
  | nil => intro i x h; simp at h
  | cons a as ih =>
    intro i x h hx hj
    cases i with
    | zero =>
      simp only [List.getElem?_cons_zero, Option.some.injEq] at h
      subst h
      rw [List.filter_cons_of_pos hx]; rfl
    | succ i =>
      have h0 := hj 0 a (by omega) (by simp)
      rw [List.filter_cons_of_neg (by simp [h0])]
      exact ih i x (by simpa using h) hx fun j y hlt hy => hj (j + 1) y (by omega) (by simpa using hy)

/-- whoever stands in a ring: the next one stands there, or ahead -/
theorem nb_le (r : Nat) (c : Int) : ∀ j, j < 64 → hb r (rx (fs c) j) = true → ∃ i, i ≤ j ∧ nb r c = rx (fs c) i ∧ hb r (rx (fs c) i) = true := by
  intro j
  induction j using Nat.strongRecOn with
  | _ j ih =>
    intro hj hh
    by_cases he : ∃ i, i < j ∧ hb r (rx (fs c) i) = true
    · obtain ⟨i, hi, hi2⟩ := he
      obtain ⟨k, h1, h2⟩ := ih i hi (by omega) hi2
      exact ⟨k, by omega, h2⟩
    · refine ⟨j, Nat.le_refl _, ?_, hh⟩
      refine head_at (hb r) (-1) (rg (fs c)) j _ (rg_at _ _ hj) hh fun i y hi hy => ?_
      rw [rg_at _ _ (by omega)] at hy
      injection hy with hy
      subst hy
      cases h : hb r (rx (fs c) i)
      · rfl
      · exact absurd ⟨i, hi, h⟩ he
theorem nb_none {r : Nat} (c : Int) (h : ∀ y, hb r y = false) : nb r c = -1 := by
  unfold nb
  rw [List.filter_eq_nil_iff.2 fun x _ => by rw [h x]; decide]; rfl
/-- each car has a place in a ring -/
theorem place (f : Nat) (y : Int) (hf : f ≤ 64) (h0 : 0 ≤ y) (h1 : y < 64) : ∃ j, j < 64 ∧ rx f j = y := by
  unfold rx
  by_cases h : (f : Int) ≤ y
  · exact ⟨(y - f).toNat, by omega, by omega⟩
  · exact ⟨(64 + y - f).toNat, by omega, by omega⟩
theorem nb_has {r : Nat} (c : Int) {y : Int} (h : hb r y = true) : hb r (nb r c) = true := by
  have hi := inb_iff.1 (hb_in h)
  obtain ⟨j, hj, rfl⟩ := place (fs c) y (fs_le c) hi.1 hi.2
  obtain ⟨i, _, e, hh⟩ := nb_le r c j hj h
  rw [e]; exact hh
theorem nb_cases (r : Nat) (c : Int) : (nb r c = -1 ∧ ∀ y, hb r y = false) ∨ hb r (nb r c) = true := by
  by_cases h : ∃ y, hb r y = true
  · obtain ⟨y, h⟩ := h
    exact .inr (nb_has c h)
  · have h2 : ∀ y, hb r y = false := fun y => by
      cases e : hb r y
      · rfl
      · exact absurd ⟨y, e⟩ h
    exact .inl ⟨nb_none c h2, h2⟩
theorem nb_up {r : Nat} {c x : Int} (hc : c ≤ 63) (hx : c < x) (hh : hb r x = true) (hno : ∀ y, c < y → y < x → hb r y = false) : nb r c = x := by
  have hi := inb_iff.1 (hb_in hh)
  have hf := fs_eq c hc
  obtain ⟨j, hj⟩ : ∃ j : Nat, (fs c : Int) + j = x := ⟨(x - fs c).toNat, by omega⟩
  have e : rx (fs c) j = x := by unfold rx; omega
  refine head_at (hb r) (-1) (rg (fs c)) j x (by rw [rg_at _ _ (by omega), e]) hh fun i y hi' hy => ?_
  rw [rg_at _ _ (by omega)] at hy
  injection hy with hy
  subst hy
  exact hno _ (by unfold rx; omega) (by unfold rx; omega)
theorem nb_low {r : Nat} {c x : Int} (hc : c ≤ 63) (hx : x ≤ c) (hh : hb r x = true) (hno : ∀ y, c < y → hb r y = false) (hlo : ∀ y, y < x → hb r y = false) : nb r c = x := by
  have hi := inb_iff.1 (hb_in hh)
  have hf := fs_eq c hc
  obtain ⟨j, hj⟩ : ∃ j : Nat, (fs c : Int) + j = 64 + x := ⟨(64 + x - fs c).toNat, by omega⟩
  have e : rx (fs c) j = x := by unfold rx; omega
  refine head_at (hb r) (-1) (rg (fs c)) j x (by rw [rg_at _ _ (by omega), e]) hh fun i y hi' hy => ?_
  rw [rg_at _ _ (by omega)] at hy
  injection hy with hy
  subst hy
  by_cases h : fs c + i < 64
  · exact hno _ (by unfold rx; omega)
  · exact hlo _ (by unfold rx; omega)
/-- who is next behind themselves is there alone -/
theorem nb_self {r : Nat} {k : Int} (h : nb r k = k) (hk : hb r k = true) (y : Int) (hy : hb r y = true) : y = k := by
  have hi := inb_iff.1 (hb_in hk)
  have hj := inb_iff.1 (hb_in hy)
  have hf := fs_eq k (by omega)
  obtain ⟨j, hj, e⟩ := place (fs k) y (fs_le k) hj.1 hj.2
  obtain ⟨i, h1, h2, _⟩ := nb_le r k j hj (by rw [e]; exact hy)
  rw [h] at h2
  unfold rx at h2 e
  omega
theorem hb_none {r : Nat} (hr : r < 18446744073709551616) (h : ∀ y, hb r y = false) : r = 0 := by
  refine ext64 fun k => ?_
  rw [Nat.zero_testBit]
  by_cases hk : k < 64
  · have := h (k : Int)
    unfold hb at this
    rw [inb_iff.2 (by omega), Bool.true_and, Int.toNat_natCast] at this
    exact this
  · exact bit_big hr (by omega)
theorem hb_zero (y : Int) : hb 0 y = false := by unfold hb; rw [Nat.zero_testBit, Bool.and_false]
theorem hb_some {r : Nat} (hr : r < 18446744073709551616) (h : r ≠ 0) : ∃ y, hb r y = true := by
  by_cases he : ∃ y, hb r y = true
  · exact he
  · exact absurd (hb_none hr fun y => by
      cases e : hb r y
      · rfl
      · exact absurd ⟨y, e⟩ he) h
theorem wo_alone {r : Nat} {k : Int} (hr : r < 18446744073709551616) (h : ∀ y, hb r y = true → y = k) : wo r k = 0 := by
  refine hb_none (wo_lt k hr) fun y => ?_
  rw [hb_wo k y hr]
  cases e : hb r y
  · rfl
  · rw [h y e]; simp

/-- what the program's Next asks -/
theorem fr_not {r : Nat} (hr : r < 18446744073709551616) (l : List Int) : fr (18446744073709551615 - r) 0 l = l.filter (hb r) := by
  unfold fr
  congr 1
  funext c
  rw [hb_not hr, hb_zero]
  cases h : inb c
  · rw [hb_out h]; rfl
  · cases hb r c <;> rfl
theorem nx_ring {r : Nat} (hr : r < 18446744073709551616) (c : Int) : nx (18446744073709551615 - r) 0 (rg (fs c)) = nb r c := by
  unfold nx nb
  rw [fr_not hr]

theorem bg_neg {c : Int} (p : Int) (h : c < 0) : bg c p = no := if_pos h
theorem bg_pos {c : Int} (p : Int) (h : 0 ≤ c) : bg c p = ⟨c, max 1 p⟩ := if_neg (by omega)
theorem hb_ge {r : Nat} {c : Int} (h : hb r c = true) : 0 ≤ c := (inb_iff.1 (hb_in h)).1

/-- who serves is ready, as long as one is -/
theorem st_ready (t : T) (r : Nat) (b : Bool) (p : Int) (hr : r < 18446744073709551616) : (r = 0 → st t r b p = no) ∧ (r ≠ 0 → hb r (st t r b p).c = true) := by
  constructor
  · rintro rfl
    unfold st
    rw [if_pos (hb_zero _), nb_none _ hb_zero]; rfl
  · intro h
    obtain ⟨y, hy⟩ := hb_some hr h
    have hn := nb_has t.c hy
    have hg := bg_pos p (hb_ge hn)
    unfold st
    by_cases h1 : hb r t.c = false
    · rw [if_pos h1, hg]; exact hn
    · rw [if_neg h1]
      have h1' : hb r t.c = true := by simpa using h1
      by_cases h2 : b = true
      · rw [if_pos h2]; exact h1'
      · rw [if_neg h2]
        by_cases h3 : t.l ≤ 1
        · rw [if_pos h3, hg]; exact hn
        · rw [if_neg h3]; exact h1'
theorem bg_left (c p : Int) (hp : 1 ≤ p) : (bg c p).l ≤ p ∧ 0 ≤ (bg c p).l := by
  unfold bg no
  by_cases h : c < 0
  · rw [if_pos h]; exact ⟨by simp; omega, by simp⟩
  · rw [if_neg h]; exact ⟨by simp; omega, by simp; omega⟩
theorem st_left (t : T) (r : Nat) (b : Bool) (p : Int) (hp : 1 ≤ p) (h : t.l ≤ p) (h0 : 0 ≤ t.l) : (st t r b p).l ≤ p ∧ 0 ≤ (st t r b p).l := by
  have hg := bg_left (nb r t.c) p hp
  unfold st
  by_cases h1 : hb r t.c = false
  · rw [if_pos h1]; exact hg
  · rw [if_neg h1]
    by_cases h2 : b = true
    · rw [if_pos h2]; exact ⟨h, h0⟩
    · rw [if_neg h2]
      by_cases h3 : t.l ≤ 1
      · rw [if_pos h3]; exact hg
      · rw [if_neg h3]; exact ⟨by simp; omega, by simp; omega⟩
theorem bg_car {c p : Int} (h : -1 ≤ c ∧ c < 64) : -1 ≤ (bg c p).c ∧ (bg c p).c < 64 := by
  unfold bg no
  by_cases k : c < 0
  · rw [if_pos k]; exact ⟨by simp, by simp⟩
  · rw [if_neg k]; exact h
theorem nb_in (r : Nat) (c : Int) : -1 ≤ nb r c ∧ nb r c < 64 := by
  rcases nb_cases r c with ⟨h, _⟩ | h
  · rw [h]; exact ⟨by omega, by omega⟩
  · have := inb_iff.1 (hb_in h); omega
theorem st_car (t : T) (r : Nat) (b : Bool) (p : Int) (h : -1 ≤ t.c ∧ t.c < 64) : -1 ≤ (st t r b p).c ∧ (st t r b p).c < 64 := by
  have hg := bg_car (p := p) (nb_in r t.c)
  unfold st
  by_cases h1 : hb r t.c = false
  · rw [if_pos h1]; exact hg
  · rw [if_neg h1]
    by_cases h2 : b = true
    · rw [if_pos h2]; exact h
    · rw [if_neg h2]
      by_cases h3 : t.l ≤ 1
      · rw [if_pos h3]; exact hg
      · rw [if_neg h3]; exact h

/-- all that are ready, by rising numbers -/
def cs (r n : Nat) : List Int := ((List.range n).map fun i : Nat => (i : Int)).filter (hb r)
theorem cs_succ (r n : Nat) : cs r (n + 1) = if hb r n = true then cs r n ++ [(n : Int)] else cs r n := by
  unfold cs
  rw [List.range_succ, List.map_append, List.filter_append]
  cases h : hb r n
  · simp [h]
  · simp [h]
theorem cs_mem {r n : Nat} {y : Int} : y ∈ cs r n ↔ hb r y = true ∧ y < n := by
  unfold cs
  rw [List.mem_filter, List.mem_map]
  constructor
  · rintro ⟨⟨i, hi, rfl⟩, h⟩
    exact ⟨h, by have := List.mem_range.1 hi; omega⟩
  · rintro ⟨h, hl⟩
    have := hb_ge h
    exact ⟨⟨y.toNat, List.mem_range.2 (by omega), by omega⟩, h⟩
theorem cs_up (r n : Nat) : (cs r n).Pairwise (· < ·) := by
  unfold cs
  refine List.Pairwise.filter _ ?_
  rw [List.pairwise_map]
  exact List.pairwise_lt_range.imp fun h => by omega
theorem cs_len (r n : Nat) : (cs r n).length ≤ n := by
  unfold cs
  have h1 := List.length_filter_le (hb r) ((List.range n).map fun i : Nat => (i : Int))
  rw [List.length_map, List.length_range] at h1
  exact h1
theorem cs_lt {r n i j : Nat} {x y : Int} (hx : (cs r n)[i]? = some x) (hy : (cs r n)[j]? = some y) (h : i < j) : x < y := by
  obtain ⟨h1, rfl⟩ := List.getElem?_eq_some_iff.1 hx
  obtain ⟨h2, rfl⟩ := List.getElem?_eq_some_iff.1 hy
  exact List.pairwise_iff_getElem.1 (cs_up r n) i j h1 h2 h
theorem cs_all {r : Nat} {y : Int} (h : hb r y = true) : ∃ i : Nat, (cs r 64)[i]? = some y := by
  have := inb_iff.1 (hb_in h)
  exact List.mem_iff_getElem?.1 (cs_mem.2 ⟨h, by omega⟩)
theorem cs_has {r i : Nat} {x : Int} (h : (cs r 64)[i]? = some x) : hb r x = true := (cs_mem.1 (List.mem_of_getElem? h)).1
/-- the first of all is next where nobody served -/
theorem nb_first {r : Nat} {x : Int} (h : (cs r 64)[0]? = some x) : nb r (-1) = x := by
  have hx := cs_has h
  refine nb_up (by omega) (by have := hb_ge hx; omega) hx fun y h1 h2 => ?_
  cases e : hb r y
  · rfl
  · obtain ⟨i, hi⟩ := cs_all e
    rcases Nat.eq_zero_or_pos i with rfl | hp
    · rw [h] at hi; injection hi with hi; omega
    · have := cs_lt h hi hp; omega
/-- the next one of all is next behind each -/
theorem nb_next {r i : Nat} {x y : Int} (hx : (cs r 64)[i]? = some x) (hy : (cs r 64)[(i + 1) % (cs r 64).length]? = some y) : nb r x = y := by
  obtain ⟨hl, _⟩ := List.getElem?_eq_some_iff.1 hx
  have hhx := cs_has hx
  have hhy := cs_has hy
  have hb1 := inb_iff.1 (hb_in hhx)
  by_cases h : i + 1 < (cs r 64).length
  · rw [Nat.mod_eq_of_lt h] at hy
    refine nb_up (by omega) (cs_lt hx hy (by omega)) hhy fun z h1 h2 => ?_
    cases e : hb r z
    · rfl
    · obtain ⟨k, hk⟩ := cs_all e
      rcases Nat.lt_or_ge i k with q | q
      · rcases Nat.lt_or_ge (i + 1) k with q2 | q2
        · have := cs_lt hy hk q2; omega
        · obtain rfl : k = i + 1 := by omega
          rw [hy] at hk; injection hk with hk; omega
      · rcases Nat.lt_or_ge k i with q2 | q2
        · have := cs_lt hk hx q2; omega
        · obtain rfl : k = i := by omega
          rw [hx] at hk; injection hk with hk; omega
  · obtain e1 : i + 1 = (cs r 64).length := by omega
    rw [e1, Nat.mod_self] at hy
    have hxy : y ≤ x := by
      rcases Nat.eq_zero_or_pos i with rfl | hp
      · rw [hx] at hy; injection hy with hy; omega
      · have := cs_lt hy hx hp; omega
    refine nb_low (by omega) hxy hhy (fun z h1 => ?_) (fun z h1 => ?_)
    · cases e : hb r z
      · rfl
      · obtain ⟨k, hk⟩ := cs_all e
        obtain ⟨hkl, _⟩ := List.getElem?_eq_some_iff.1 hk
        rcases Nat.lt_or_ge k i with q | q
        · have := cs_lt hk hx q; omega
        · obtain rfl : k = i := by omega
          rw [hx] at hk; injection hk with hk; omega
    · cases e : hb r z
      · rfl
      · obtain ⟨k, hk⟩ := cs_all e
        rcases Nat.eq_zero_or_pos k with rfl | q
        · rw [hy] at hk; injection hk with hk; omega
        · have := cs_lt hy hk q; omega
end Go.Proofs.Ytalkngnejnkemaa.TrnP
