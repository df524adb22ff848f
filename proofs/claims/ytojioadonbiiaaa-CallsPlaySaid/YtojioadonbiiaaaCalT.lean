/- Plain: what the statements of layer 22 ask. -/
import Derived.Test.YtojioadonbiiaaaCalQ
namespace Go.Proofs.Ytojioadonbiiaaa.CalP
set_option linter.unusedVariables false

theorem isF_in {f n : Int} (h : isF f n = true) : inb f = true := by unfold isF at h; exact (Bool.and_eq_true _ _ ▸ h).2
theorem isF_iff {f n : Int} : isF f n = true ↔ (0 ≤ f ∧ f < 32) ∧ f < n := by unfold isF; rw [Bool.and_eq_true, inb_iff]; simp; omega
theorem isF_no {f n : Int} : isF f n = false ↔ ¬ ((0 ≤ f ∧ f < 32) ∧ f < n) := by rw [← isF_iff]; simp
theorem mn_hall {c : C} (hc : c.Ok) (f m : Int) : mn (hall c f m) = mn c + (if isF f m = true ∧ hb c.h f = false then 1 else 0) := by
  unfold hall
  cases h : isF f m
  · rw [if_neg (by decide), if_neg (by simp)]; rfl
  · rw [if_pos rfl]
    unfold mn
    simp only
    rw [pc_wi f hc.1, isF_in h]
    cases hb c.h f <;> simp <;> omega
theorem car_row {c : C} {k : Int} (h : hasC c.l.length k = true) : c.l[k.toNat]? = some (row c k) := by
  obtain ⟨h0, h1⟩ := hasC_iff.1 h
  unfold row
  rw [List.getElem?_eq_getElem (by omega)]; rfl
theorem mn_car {c : C} (hc : c.Ok) (k f m : Int) : mn (car c k f m) = mn c + (if carOk c k f m = true ∧ hb (row c k) f = false then 1 else 0) := by
  unfold car
  cases h : carOk c k f m
  · rw [if_neg (by decide), if_neg (by simp)]; rfl
  · rw [if_pos rfl]
    unfold carOk at h
    rw [Bool.and_eq_true] at h
    have h1 := tot_set (wi (row c k) f) (car_row h.1)
    rw [pc_wi f (row_lt hc k), isF_in h.2] at h1
    unfold mn
    simp only
    revert h1
    cases hb (row c k) f <;> simp <;> omega
theorem mn_dn {c : C} (hc : c.Ok) (k f : Int) (b : Bool) : mn (dn c k f b) + (if b = true ∧ hb c.h f = true then 1 else 0) + (if hasC c.l.length k = true ∧ hb (row c k) f = true then 1 else 0) = mn c := by
  have h2 : pc (if b = true then wo c.h f else c.h) + (if b = true ∧ hb c.h f = true then 1 else 0) = pc c.h := by
    cases b
    · rw [if_neg (by decide), if_neg (by simp)]; rfl
    · rw [if_pos rfl, ← pc_wo f hc.1]
      congr 1
      exact ite_congr (by simp) (fun _ => rfl) (fun _ => rfl)
  have h3 : tot (if hasC c.l.length k = true then c.l.set k.toNat (wo (row c k) f) else c.l) + (if hasC c.l.length k = true ∧ hb (row c k) f = true then 1 else 0) = tot c.l := by
    cases h : hasC c.l.length k
    · rw [if_neg (by decide), if_neg (by simp)]; rfl
    · rw [if_pos rfl]
      have h1 := tot_set (wo (row c k) f) (car_row h)
      have h4 := pc_wo f (row_lt hc k)
      have e : (if true = true ∧ hb (row c k) f = true then 1 else 0) = (if hb (row c k) f = true then 1 else 0) := ite_congr (by simp) (fun _ => rfl) (fun _ => rfl)
      rw [e]
      omega
  unfold dn mn
  simp only
  omega

/-- where nobody calls -/
def c0 (n : Nat) : C := ⟨0, List.replicate n 0⟩
theorem c0_ok (n : Nat) : (c0 n).Ok := ⟨(by decide : 0 < 4294967296), fun x hx => by rw [List.eq_of_mem_replicate hx]; decide⟩
theorem c0_len (n : Nat) : (c0 n).l.length = n := by simp [c0]
theorem c0_row (n : Nat) (k : Int) : row (c0 n) k = 0 := by
  unfold row c0
  simp only
  rw [List.getElem?_replicate]
  split <;> rfl
theorem nr_zero (p : Int) : nr 0 p = -1 := (nr_no (by decide) p).2 rfl
theorem low_zero : low 0 = -1 := (low_no (by decide)).2 rfl
theorem c0_nx (n : Nat) (k p : Int) (hs : Nat) : nx (c0 n) k p hs = -1 := by
  unfold nx
  rw [c0_row, nr_zero]
  have : (c0 n).h &&& hs = 0 := by show 0 &&& hs = 0; simp
  rw [this, low_zero]
  split <;> simp
theorem pc_z : pc 0 = 0 := by decide +kernel
theorem c0_mn (n : Nat) : mn (c0 n) = 0 := by
  unfold mn tot c0
  simp only
  rw [List.map_replicate, pc_z]
  simp
theorem c0_hall (n : Nat) (f m : Int) : mn (hall (c0 n) f m) = if isF f m = true then 1 else 0 := by
  rw [mn_hall (c0_ok n), c0_mn, Nat.zero_add]
  exact ite_congr (by simp [c0, hb_zero]) (fun _ => rfl) (fun _ => rfl)
theorem c0_car (n : Nat) (k f m : Int) : mn (car (c0 n) k f m) = if carOk (c0 n) k f m = true then 1 else 0 := by
  rw [mn_car (c0_ok n), c0_mn, Nat.zero_add]
  exact ite_congr (by simp [c0_row, hb_zero]) (fun _ => rfl) (fun _ => rfl)
theorem c0_dn (n : Nat) (k f : Int) (b : Bool) : mn (dn (c0 n) k f b) = 0 := by
  have := mn_dn (c0_ok n) k f b
  rw [c0_mn] at this
  omega
theorem nx_range (c : C) (k p : Int) (hs : Nat) : -1 ≤ nx c k p hs ∧ nx c k p hs < 32 := by
  unfold nx
  have h1 := nr_range (row c k) p
  have h2 := low_range (c.h &&& hs)
  split
  · split <;> omega
  · omega
theorem nx_no (c : C) (k p : Int) (hs : Nat) (h : hasC c.l.length k = false) : nx c k p hs = -1 := by unfold nx; rw [if_neg (by rw [h]; decide)]

theorem hb_and (a b : Nat) (x : Int) : hb (a &&& b) x = (hb a x && hb b x) := by
  unfold hb; rw [Nat.testBit_and]; cases inb x <;> simp
theorem and_lt {a b : Nat} (h : b < 4294967296) : a &&& b < 4294967296 := Nat.and_lt_two_pow (n := 32) _ h
theorem nx_in {c : C} {k : Int} (h : hasC c.l.length k = true) (p : Int) (hs : Nat) : nx c k p hs = if nr (row c k) p = -1 then low (c.h &&& hs) else nr (row c k) p := by unfold nx; rw [if_pos h]
theorem nx_none {c : C} (hc : c.Ok) {k : Int} (hk : hasC c.l.length k = true) {p : Int} {hs : Nat} (hhs : hs < 4294967296) (h : nx c k p hs = -1) : row c k = 0 ∧ c.h &&& hs = 0 := by
  rw [nx_in hk] at h
  split at h
  · rename_i h1
    exact ⟨(nr_no (row_lt hc k) p).1 h1, (low_no (and_lt hhs)).1 h⟩
  · rename_i h1
    exact absurd h h1
theorem nx_row {c : C} (hc : c.Ok) {k : Int} (hk : hasC c.l.length k = true) (p : Int) (hs : Nat) (h : row c k ≠ 0) : hb (row c k) (nx c k p hs) = true ∧ ∀ g, hb (row c k) g = true → wy (nx c k p hs) p ≤ wy g p := by
  have h1 : nr (row c k) p ≠ -1 := fun e => h ((nr_no (row_lt hc k) p).1 e)
  rw [nx_in hk, if_neg h1]
  rcases nr_spec (row c k) p with ⟨_, h2⟩ | h2
  · exact absurd h2 h1
  · exact h2
theorem nx_hall {c : C} {k : Int} (hk : hasC c.l.length k = true) (p : Int) {hs : Nat} (h : row c k = 0) : nx c k p hs = low (c.h &&& hs) := by
  rw [nx_in hk, h, nr_zero, if_pos rfl]
theorem nx_hall_bit {c : C} {k : Int} (hk : hasC c.l.length k = true) {p : Int} {hs : Nat} (h : row c k = 0) (h0 : nx c k p hs ≠ -1) : hb c.h (nx c k p hs) = true := by
  rw [nx_hall hk p h] at h0 ⊢
  rcases low_spec (c.h &&& hs) with ⟨_, h2⟩ | h2
  · exact absurd h2 h0
  · rw [hb_and, Bool.and_eq_true] at h2
    exact h2.1
theorem row_dn {c : C} {k : Int} (hk : hasC c.l.length k = true) (f : Int) (b : Bool) : row (dn c k f b) k = wo (row c k) f := by
  obtain ⟨h0, h1⟩ := hasC_iff.1 hk
  unfold dn
  rw [if_pos hk]
  unfold row
  simp only
  rw [List.getElem?_set_self (by omega)]
  rfl
theorem row_dn_off {c : C} {k j : Int} (hj : 0 ≤ j) (hk : 0 ≤ k) (hne : j ≠ k) (f : Int) (b : Bool) : row (dn c k f b) j = row c j := by
  unfold dn row
  simp only
  split
  · rw [List.getElem?_set_ne (by omega)]
  · rfl
theorem nx_done {c : C} (hc : c.Ok) {k : Int} (hk : hasC c.l.length k = true) (p : Int) {hs : Nat} {y : Int} (hy : y ≠ -1) : nx (dn c k y true) k p hs ≠ y := by
  have hk2 : hasC (dn c k y true).l.length k = true := by rw [dn_len]; exact hk
  rw [nx_in hk2, row_dn hk]
  have hw : ∀ x, hb (wo (row c k) y) x = true → x ≠ y := fun x h e => by
    subst e
    rw [hb_wo _ _ (row_lt hc k)] at h
    simp at h
  have hh : ∀ x, hb ((dn c k y true).h &&& hs) x = true → x ≠ y := fun x h e => by
    subst e
    rw [hb_and] at h
    have e2 : (dn c k x true).h = wo c.h x := rfl
    rw [e2, hb_wo _ _ hc.1] at h
    simp at h
  split
  · rcases low_spec ((dn c k y true).h &&& hs) with ⟨_, h2⟩ | h2
    · rw [h2]; exact fun e => hy e.symm
    · exact hh _ h2
  · rename_i h1
    rcases nr_spec (wo (row c k) y) p with ⟨_, h2⟩ | ⟨h2, _⟩
    · exact absurd h2 h1
    · exact hw _ h2
theorem mn_less {c : C} (hc : c.Ok) {k : Int} (hk : hasC c.l.length k = true) {p : Int} {hs : Nat} {y : Int} (h : nx c k p hs = y) (hy : y ≠ -1) : mn (dn c k y true) < mn c := by
  have h1 := mn_dn hc k y true
  by_cases h0 : row c k = 0
  · have h2 := nx_hall_bit hk h0 (by rw [h]; exact hy)
    rw [h] at h2
    rw [if_pos ⟨rfl, h2⟩] at h1
    omega
  · have h2 := (nx_row hc hk p hs h0).1
    rw [h] at h2
    rw [if_pos (show hasC c.l.length k = true ∧ hb (row c k) y = true from ⟨hk, h2⟩)] at h1
    omega
theorem car_y {c : C} {k f m : Int} (h : carOk c k f m = true) : car c k f m = ⟨c.h, c.l.set k.toNat (wi (row c k) f)⟩ := by unfold car; rw [if_pos h]
theorem row_car {c : C} {k f m : Int} (h : carOk c k f m = true) : row (car c k f m) k = wi (row c k) f := by
  have h1 := h
  unfold carOk at h1
  rw [Bool.and_eq_true] at h1
  obtain ⟨h2, h3⟩ := hasC_iff.1 h1.1
  unfold car
  rw [if_pos h]
  unfold row
  simp only
  rw [List.getElem?_set_self (by omega)]
  rfl
theorem row_car_off {c : C} {k j f m : Int} (hj : 0 ≤ j) (hk : 0 ≤ k) (hne : j ≠ k) : row (car c k f m) j = row c j := by
  unfold car
  split
  · unfold row
    simp only
    rw [List.getElem?_set_ne (by omega)]
  · rfl
theorem carOk_car {c : C} {k f m : Int} (k' f' m' : Int) : carOk (car c k f m) k' f' m' = carOk c k' f' m' := by unfold carOk; rw [car_len]
theorem car_car {c : C} {k f m : Int} (h : carOk c k f m = true) : car (car c k f m) k f m = car c k f m := by
  have h2 : carOk (car c k f m) k f m = true := by rw [carOk_car]; exact h
  have e : row (car c k f m) k = wi (row c k) f := row_car h
  rw [car_y h2, e, wi_wi, car_y h]
  simp
theorem hall_hall (c : C) (f m : Int) : hall (hall c f m) f m = hall c f m := by
  cases h : isF f m
  · have e : hall c f m = c := by unfold hall; rw [if_neg (by rw [h]; decide)]
    rw [e, e]
  · have e : ∀ c, hall c f m = ⟨wi c.h f, c.l⟩ := fun c => by unfold hall; rw [if_pos h]
    rw [e, e]
    simp only
    rw [wi_wi]
theorem nx_z {c : C} {k : Int} (p : Int) (h : hasC c.l.length k = true) : nx c k p 0 = nr (row c k) p := by
  rw [nx_in h, Nat.and_zero, low_zero]
  split
  · rename_i h1; exact h1.symm
  · rfl
theorem nr_self {b : Nat} {f : Int} (h : hb b f = true) : nr b (8 * f) = f := by
  rcases nr_spec b (8 * f) with ⟨h1, _⟩ | ⟨_, h2⟩
  · have := (fl_mem b f).2 h
    rw [h1] at this
    cases this
  · have := h2 f h
    unfold wy at this
    omega
/-- a bit, as a shift and a mask tell it -/
theorem bit_div {b : Nat} {f : Nat} (hf : f < 32) : b / 2 ^ f % 2 = if hb b f = true then 1 else 0 := by
  unfold hb
  rw [inb_iff.2 (by omega), Int.toNat_natCast, Bool.true_and, Nat.testBit_eq_decide_div_mod_eq]
  by_cases h : b / 2 ^ f % 2 = 1
  · rw [if_pos (by simpa using h)]; exact h
  · rw [if_neg (by simpa using h)]; omega
end Go.Proofs.Ytojioadonbiiaaa.CalP
