/- Plain mathematics of how much a car draws: no program is named here. -/
import Derived.WalkKit
namespace Go.Proofs.Ytkicijgempccfaa.RatP
set_option linter.unusedVariables false

structure R where
  idle : Int
  move : Int
  gain : Int
  pull : Int
  door : Int
  weight : Int

/-- rates that may be -/
structure R.May (r : R) : Prop where
  i0 : 0 ≤ r.idle
  i1 : r.idle ≤ 1000
  m0 : 0 ≤ r.move
  m1 : r.move ≤ 1000
  g0 : 0 ≤ r.gain
  g1 : r.gain ≤ 1000
  p0 : 0 ≤ r.pull
  p1 : r.pull ≤ 100
  d0 : 0 ≤ r.door
  d1 : r.door ≤ 1000
  w0 : 0 ≤ r.weight
  w1 : r.weight ≤ 64

def sg (d : Int) : Int := if 0 < d then 1 else if d < 0 then -1 else 0
def bd (l : Int) : Int := if l < 0 then 0 else if 64 < l then 64 else l
theorem sg_cases (d : Int) : (0 < d ∧ sg d = 1) ∨ (d < 0 ∧ sg d = -1) ∨ (d = 0 ∧ sg d = 0) := by unfold sg; split <;> (try split) <;> omega
theorem sg_pos {d : Int} (h : 0 < d) : sg d = 1 := by unfold sg; rw [if_pos h]
theorem sg_neg {d : Int} (h : d < 0) : sg d = -1 := by unfold sg; rw [if_neg (by omega), if_pos h]
theorem sg_zero : sg 0 = 0 := rfl
theorem sg_sg (d : Int) : sg (sg d) = sg d := by rcases sg_cases d with ⟨_, h⟩ | ⟨_, h⟩ | ⟨_, h⟩ <;> rw [h] <;> rfl
theorem bd_ge (l : Int) : 0 ≤ bd l := by unfold bd; split <;> (try split) <;> omega
theorem bd_le (l : Int) : bd l ≤ 64 := by unfold bd; split <;> (try split) <;> omega
theorem bd_id {l : Int} (h0 : 0 ≤ l) (h1 : l ≤ 64) : bd l = l := by unfold bd; rw [if_neg (by omega), if_neg (by omega)]
theorem bd_bd (l : Int) : bd (bd l) = bd l := bd_id (bd_ge l) (bd_le l)

/-- how heavy a load is on a way -/
def hv (r : R) (l d : Int) : Int := sg d * (bd l - r.weight)
theorem hv_cases (r : R) (l d : Int) : (0 < d ∧ hv r l d = bd l - r.weight) ∨ (d < 0 ∧ hv r l d = r.weight - bd l) ∨ (d = 0 ∧ hv r l d = 0) := by
  unfold hv
  rcases sg_cases d with ⟨h, e⟩ | ⟨h, e⟩ | ⟨h, e⟩ <;> rw [e] <;> omega
theorem hv_bds {r : R} (h : r.May) (l d : Int) : -64 ≤ hv r l d ∧ hv r l d ≤ 64 := by
  have := bd_ge l; have := bd_le l; have := h.w0; have := h.w1
  rcases hv_cases r l d with ⟨_, e⟩ | ⟨_, e⟩ | ⟨_, e⟩ <;> rw [e] <;> omega
theorem hv_norm (r : R) (l d : Int) : hv r (bd l) (sg d) = hv r l d := by unfold hv; rw [sg_sg, bd_bd]

/-- what is pulled by something that heavy -/
def pl (r : R) (h : Int) : Int := r.pull * max 0 h
theorem pl_ge {r : R} (h : r.May) (x : Int) : 0 ≤ pl r x := Int.mul_nonneg h.p0 (by omega)
theorem pl_le {r : R} (h : r.May) {x : Int} (hx : x ≤ 64) : pl r x ≤ 6400 := by
  unfold pl
  have : r.pull * max 0 x ≤ 100 * 64 := Int.mul_le_mul h.p1 (by omega) (by omega) (by omega)
  omega
theorem pl_zero {r : R} {x : Int} (hx : x ≤ 0) : pl r x = 0 := by unfold pl; rw [show max 0 x = 0 by omega, Int.mul_zero]
theorem pl_pos {r : R} {x : Int} (hx : 0 ≤ x) : pl r x = r.pull * x := by unfold pl; rw [show max 0 x = x by omega]
theorem pl_mono {r : R} (h : r.May) {x y : Int} (hxy : x ≤ y) : pl r x ≤ pl r y := Int.mul_le_mul_of_nonneg_left (by omega) h.p0

def mv (r : R) (l d : Int) : Int := r.idle + r.move + pl r (hv r l d)
theorem mv_ge {r : R} (h : r.May) (l d : Int) : 0 ≤ mv r l d := by have := pl_ge h (hv r l d); have := h.i0; have := h.m0; unfold mv; omega
theorem mv_le {r : R} (h : r.May) (l d : Int) : mv r l d ≤ 8400 := by have := pl_le h (hv_bds h l d).2; have := h.i1; have := h.m1; unfold mv; omega

/-- how much is drawn -/
def dr (r : R) (what l d : Int) : Int :=
  if what = 4 then r.door else if d = 0 then 0 else if what = 1 then mv r l d + r.gain else if what = 2 then mv r l d else if what = 3 then mv r l d else 0
/-- how much is given back -/
def gv (r : R) (what l d : Int) : Int := if what = 2 ∨ what = 3 then pl r (-hv r l d) else 0
theorem dr_4 (r : R) (l d : Int) : dr r 4 l d = r.door := rfl
theorem dr_1 (r : R) (l : Int) {d : Int} (h : ¬ d = 0) : dr r 1 l d = mv r l d + r.gain := by unfold dr; rw [if_neg (by omega), if_neg h, if_pos rfl]
theorem dr_2 (r : R) (l : Int) {d : Int} (h : ¬ d = 0) : dr r 2 l d = mv r l d := by unfold dr; rw [if_neg (by omega), if_neg h, if_neg (by omega), if_pos rfl]
theorem dr_3 (r : R) (l : Int) {d : Int} (h : ¬ d = 0) : dr r 3 l d = mv r l d := by unfold dr; rw [if_neg (by omega), if_neg h, if_neg (by omega), if_neg (by omega), if_pos rfl]
theorem dr_still (r : R) (l : Int) {what : Int} (h : ¬ what = 4) : dr r what l 0 = 0 := by unfold dr; rw [if_neg h, if_pos rfl]
theorem dr_else (r : R) (l d : Int) {what : Int} (h4 : ¬ what = 4) (h1 : ¬ what = 1) (h2 : ¬ what = 2) (h3 : ¬ what = 3) : dr r what l d = 0 := by
  unfold dr; rw [if_neg h4, if_neg h1, if_neg h2, if_neg h3]; split <;> rfl
theorem dr_ge {r : R} (h : r.May) (what l d : Int) : 0 ≤ dr r what l d := by
  have := mv_ge h l d; have := h.g0; have := h.d0
  unfold dr; repeat' split
  all_goals omega
theorem dr_le {r : R} (h : r.May) (what l d : Int) : dr r what l d ≤ 9400 := by
  have := mv_le h l d; have := h.g1; have := h.d1
  unfold dr; repeat' split
  all_goals omega
theorem gv_ge {r : R} (h : r.May) (what l d : Int) : 0 ≤ gv r what l d := by
  unfold gv; split
  · exact pl_ge h _
  · omega
theorem gv_le {r : R} (h : r.May) (what l d : Int) : gv r what l d ≤ 6400 := by
  unfold gv; split
  · exact pl_le h (by have := hv_bds h l d; omega)
  · omega
theorem mv_norm (r : R) (l d : Int) : mv r (bd l) (sg d) = mv r l d := by unfold mv; rw [hv_norm]
theorem sg_is0 (d : Int) : (sg d = 0) = (d = 0) := by
  apply propext; rcases sg_cases d with ⟨_, h⟩ | ⟨_, h⟩ | ⟨_, h⟩ <;> rw [h] <;> omega
theorem dr_norm (r : R) (what l d : Int) : dr r what (bd l) (sg d) = dr r what l d := by unfold dr; simp only [mv_norm, sg_is0]
theorem gv_norm (r : R) (what l d : Int) : gv r what (bd l) (sg d) = gv r what l d := by unfold gv; rw [hv_norm]

/-- the most that is drawn on a way -/
def pk (r : R) (l d : Int) : Int := max (max (max (dr r 1 l d) (dr r 2 l d)) (dr r 3 l d)) (dr r 4 l d)
theorem pk_norm (r : R) (l d : Int) : pk r (bd l) (sg d) = pk r l d := by unfold pk; simp only [dr_norm]
theorem pk_ge {r : R} (h : r.May) (l d : Int) : 0 ≤ pk r l d := by have := dr_ge h 4 l d; unfold pk; omega
theorem pk_le {r : R} (h : r.May) (l d : Int) : pk r l d ≤ 9400 := by
  have := dr_le h 1 l d; have := dr_le h 2 l d; have := dr_le h 3 l d; have := dr_le h 4 l d
  unfold pk; omega
theorem dr_pk {r : R} (h : r.May) (what l d : Int) : dr r what l d ≤ pk r l d := by
  have h0 := pk_ge h l d
  by_cases h1 : what = 1
  · subst h1; unfold pk; omega
  by_cases h2 : what = 2
  · subst h2; unfold pk; omega
  by_cases h3 : what = 3
  · subst h3; unfold pk; omega
  by_cases h4 : what = 4
  · subst h4; unfold pk; omega
  rw [dr_else r l d h4 h1 h2 h3]; exact h0
theorem pk_door (r : R) (l d : Int) : r.door ≤ pk r l d := by have := dr_4 r l d; unfold pk; omega
theorem pk_still {r : R} (h : r.May) (l : Int) : pk r l 0 = r.door := by
  have := h.d0
  unfold pk; rw [dr_still r l (by omega), dr_still r l (by omega), dr_still r l (by omega), dr_4]; omega
theorem pk_way {r : R} (h : r.May) (l : Int) {d : Int} (hd : ¬ d = 0) : pk r l d = max (mv r l d + r.gain) r.door := by
  have := h.g0
  unfold pk; rw [dr_1 r l hd, dr_2 r l hd, dr_3 r l hd, dr_4]; omega

/-- the k-th peak that a table lays -/
def tp (r : R) (k : Nat) : Int := pk r (k % 65 : Nat) ((k / 65 : Nat) - 1)
/-- the greatest one of the first n -/
def mx (r : R) : Nat → Int
  | 0 => 0
  | n + 1 => max (mx r n) (tp r n)
theorem mx_ge (r : R) : ∀ n, 0 ≤ mx r n
  | 0 => Int.le_refl _
  | n + 1 => by have := mx_ge r n; unfold mx; omega
theorem mx_le {r : R} (h : r.May) : ∀ n, mx r n ≤ 9400
  | 0 => by unfold mx; omega
  | n + 1 => by have := mx_le h n; have := pk_le h (n % 65 : Nat) ((n / 65 : Nat) - 1); unfold mx tp; omega
theorem tp_mx (r : R) {k : Nat} : ∀ {n : Nat}, k < n → tp r k ≤ mx r n
  | n + 1, h => by
    unfold mx
    rcases Nat.lt_or_ge k n with h' | h'
    · have := tp_mx r h'; omega
    · obtain rfl : k = n := by omega
      omega
theorem mx_least (r : R) {x : Int} (h0 : 0 ≤ x) : ∀ {n : Nat}, (∀ k, k < n → tp r k ≤ x) → mx r n ≤ x
  | 0, _ => h0
  | n + 1, h => by have := mx_least r h0 (fun k hk => h k (Nat.lt_succ_of_lt hk)); have := h n (Nat.lt_succ_self n); unfold mx; omega
/-- the most that is ever drawn -/
def most (r : R) : Int := mx r 195
theorem pk_at (r : R) (l d : Int) : pk r l d = tp r ((bd l).toNat + 65 * (sg d + 1).toNat) := by
  unfold tp
  have h0 := bd_ge l; have h1 := bd_le l
  have hs : (((bd l).toNat + 65 * (sg d + 1).toNat) % 65 : Nat) = (bd l).toNat := by omega
  have hd : (((bd l).toNat + 65 * (sg d + 1).toNat) / 65 : Nat) = (sg d + 1).toNat := by omega
  rw [hs, hd, show (((bd l).toNat : Nat) : Int) = bd l by omega, show (((sg d + 1).toNat : Nat) : Int) - 1 = sg d by rcases sg_cases d with ⟨_, h⟩ | ⟨_, h⟩ | ⟨_, h⟩ <;> rw [h] <;> rfl, pk_norm]
theorem at_lt (l d : Int) : (bd l).toNat + 65 * (sg d + 1).toNat < 195 := by
  have h1 := bd_le l
  rcases sg_cases d with ⟨_, h⟩ | ⟨_, h⟩ | ⟨_, h⟩ <;> rw [h] <;> omega
theorem pk_most (r : R) (l d : Int) : pk r l d ≤ most r := by rw [pk_at]; exact tp_mx r (at_lt l d)
theorem most_ge (r : R) : 0 ≤ most r := mx_ge r _
theorem most_le {r : R} (h : r.May) : most r ≤ 9400 := mx_le h _

/-- the document's: of the first n loads, up and down -/
def my (r : R) : Nat → Int
  | 0 => 0
  | n + 1 => max (max (my r n) (pk r n 1)) (pk r n (-1))
theorem my_ge (r : R) : ∀ n, 0 ≤ my r n
  | 0 => Int.le_refl _
  | n + 1 => by have := my_ge r n; unfold my; omega
theorem my_le {r : R} (h : r.May) : ∀ n, my r n ≤ 9400
  | 0 => by unfold my; omega
  | n + 1 => by have := my_le h n; have := pk_le h n 1; have := pk_le h n (-1); unfold my; omega
theorem pk_my (r : R) {k : Nat} : ∀ {n : Nat}, k < n → pk r k 1 ≤ my r n ∧ pk r k (-1) ≤ my r n
  | n + 1, h => by
    unfold my
    rcases Nat.lt_or_ge k n with h' | h'
    · have := pk_my r h'; omega
    · obtain rfl : k = n := by omega
      omega
theorem my_least (r : R) {x : Int} (h0 : 0 ≤ x) : ∀ {n : Nat}, (∀ k, k < n → pk r k 1 ≤ x ∧ pk r k (-1) ≤ x) → my r n ≤ x
  | 0, _ => h0
  | n + 1, h => by have := my_least r h0 (fun k hk => h k (Nat.lt_succ_of_lt hk)); have := h n (Nat.lt_succ_self n); unfold my; omega
theorem most_my {r : R} (h : r.May) : my r 65 = most r := by
  apply Int.le_antisymm
  · exact my_least r (most_ge r) (fun k _ => ⟨pk_most r k 1, pk_most r k (-1)⟩)
  · refine mx_least r (my_ge r 65) (fun k hk => ?_)
    unfold tp
    have hm := pk_my r (n := 65) (k := k % 65) (by omega)
    have : k / 65 = 0 ∨ k / 65 = 1 ∨ k / 65 = 2 := by omega
    rcases this with e | e | e <;> rw [e]
    · exact hm.2
    · show pk r _ 0 ≤ _
      rw [pk_still h]
      exact Int.le_trans (pk_door r _ 1) hm.1
    · exact hm.1

/-- the greatest one of the first n of 1 to 4 -/
def pz (r : R) (l d : Int) : Nat → Int
  | 0 => 0
  | n + 1 => max (pz r l d n) (dr r (n + 1 : Nat) l d)
theorem pz_4 {r : R} (h : r.May) (l d : Int) : pz r l d 4 = pk r l d := by
  have := dr_ge h 1 l d
  show max (max (max (max 0 (dr r 1 l d)) (dr r 2 l d)) (dr r 3 l d)) (dr r 4 l d) = _
  unfold pk; omega

-- what the statements ask
theorem gives_one {r : R} (h : r.May) {what l d d' : Int} (hd : ¬ d = 0) (hd' : sg d' = -sg d) (hg : 0 < gv r what l d) : gv r what l d' = 0 ∧ dr r what l d = r.idle + r.move := by
  unfold gv at hg
  split at hg
  · rename_i hw
    have hn : hv r l d < 0 := by
      rcases Int.lt_or_le (hv r l d) 0 with hh | hh
      · exact hh
      · rw [pl_zero (by omega)] at hg; omega
    have ho : hv r l d' = -hv r l d := by unfold hv; rw [hd', Int.neg_mul]
    refine ⟨by unfold gv; rw [if_pos hw, ho, pl_zero (by omega)], ?_⟩
    have hm : mv r l d = r.idle + r.move := by unfold mv; rw [pl_zero (by omega)]; omega
    rcases hw with rfl | rfl
    · rw [dr_2 r l hd, hm]
    · rw [dr_3 r l hd, hm]
  · omega
theorem hv_up (r : R) {l d : Int} (h0 : 0 ≤ l) (h1 : l + 1 ≤ 64) (hd : 0 < d) : hv r (l + 1) d = hv r l d + 1 := by
  unfold hv; rw [sg_pos hd, bd_id h0 (by omega), bd_id (by omega) h1]; omega
theorem hv_down (r : R) {l d : Int} (h0 : 0 ≤ l) (h1 : l + 1 ≤ 64) (hd : ¬ 0 < d) : hv r (l + 1) d ≤ hv r l d := by
  unfold hv; rw [bd_id h0 (by omega), bd_id (by omega) h1]
  rcases sg_cases d with ⟨_, e⟩ | ⟨_, e⟩ | ⟨_, e⟩ <;> rw [e] <;> omega
theorem dr_mono {r : R} (h : r.May) (what : Int) {l l' d : Int} (hh : hv r l d ≤ hv r l' d) : dr r what l d ≤ dr r what l' d := by
  have := pl_mono h hh
  unfold dr mv; repeat' split
  all_goals omega
theorem gv_anti {r : R} (h : r.May) (what : Int) {l l' d : Int} (hh : hv r l d ≤ hv r l' d) : gv r what l' d ≤ gv r what l d := by
  unfold gv; split
  · exact pl_mono h (by omega)
  · omega
theorem pk_mono {r : R} (h : r.May) {l l' d : Int} (hh : hv r l d ≤ hv r l' d) : pk r l d ≤ pk r l' d := by
  have := dr_mono h 1 hh; have := dr_mono h 2 hh; have := dr_mono h 3 hh; have := dr_mono h 4 hh
  unfold pk; omega
theorem hv_mirror {r : R} {a b : Int} (ha0 : 0 ≤ a) (ha : a ≤ 64) (hb0 : 0 ≤ b) (hb : b ≤ 64) (e : a - r.weight = r.weight - b) : hv r a 1 = hv r b (-1) ∧ hv r b 1 = hv r a (-1) := by
  unfold hv; rw [bd_id ha0 ha, bd_id hb0 hb, show sg 1 = 1 from rfl, show sg (-1) = -1 from rfl]; omega
theorem dr_same (r : R) (what : Int) {a b : Int} (e : hv r a 1 = hv r b (-1)) : dr r what a 1 = dr r what b (-1) := by unfold dr mv; rw [e, if_neg (by omega : ¬ (1 : Int) = 0), if_neg (by omega : ¬ (-1 : Int) = 0)]
theorem gv_same (r : R) (what : Int) {a b : Int} (e : hv r a 1 = hv r b (-1)) : gv r what a 1 = gv r what b (-1) := by unfold gv; rw [e]
theorem pk_same (r : R) {a b : Int} (e : hv r a 1 = hv r b (-1)) : pk r a 1 = pk r b (-1) := by unfold pk; simp only [dr_same r _ e]

end Go.Proofs.Ytkicijgempccfaa.RatP
