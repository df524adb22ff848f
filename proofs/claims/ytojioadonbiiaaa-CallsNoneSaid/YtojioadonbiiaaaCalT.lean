/- Plain: what the statements of layer 22 ask. -/
import Derived.Test.YtojioadonbiiaaaCalQ
namespace Go.Proofs.Ytojioadonbiiaaa.CalP
set_option linter.unusedVariables false

theorem isF_in {f n : Int} (h : isF f n = true) : inb f = true := by unfold isF at h; exact (Bool.and_eq_true _ _ ▸ h).2
theorem isF_iff {f n : Int} : isF f n = true ↔ (0 ≤ f ∧ f < 32) ∧ f < n := by unfold isF; rw [Bool.and_eq_true, inb_iff]; simp; omega
theorem isF_no {f n : Int} : isF f n = false ↔ ¬ ((0 ≤ f ∧ f < 32) ∧ f < n) := by rw [← isF_iff]; simp
theorem mn_hall {c : C} (hc : c.Ok) (f m : Int) : mn (hall c f m) = mn c + (if isF f m = true ∧ hb c.h f = false then 1 else 0) := by
  unfold hall
  cases h : isF f m
  · rw [if_neg (by decide), if_neg (by simp)]; rfl
  · rw [if_pos rfl]
    unfold mn
    simp only
    rw [pc_wi f hc.1, isF_in h]
    cases hb c.h f <;> simp <;> omega
theorem car_row {c : C} {k : Int} (h : hasC c.l.length k = true) : c.l[k.toNat]? = some (row c k) := by
  obtain ⟨h0, h1⟩ := hasC_iff.1 h
  unfold row
  rw [List.getElem?_eq_getElem (by omega)]; rfl
theorem mn_car {c : C} (hc : c.Ok) (k f m : Int) : mn (car c k f m) = mn c + (if carOk c k f m = true ∧ hb (row c k) f = false then 1 else 0) := by
  unfold car
  cases h : carOk c k f m
  · rw [if_neg (by decide), if_neg (by simp)]; rfl
  · rw [if_pos rfl]
    unfold carOk at h
    rw [Bool.and_eq_true] at h
    have h1 := tot_set (wi (row c k) f) (car_row h.1)
    rw [pc_wi f (row_lt hc k), isF_in h.2] at h1
    unfold mn
    simp only
    revert h1
    cases hb (row c k) f <;> simp <;> omega
theorem mn_dn {c : C} (hc : c.Ok) (k f : Int) (b : Bool) : mn (dn c k f b) + (if b = true ∧ hb c.h f = true then 1 else 0) + (if hasC c.l.length k = true ∧ hb (row c k) f = true then 1 else 0) = mn c := by
  have h2 : pc (if b = true then wo c.h f else c.h) + (if b = true ∧ hb c.h f = true then 1 else 0) = pc c.h := by
    cases b
    · rw [if_neg (by decide), if_neg (by simp)]; rfl
    · rw [if_pos rfl, ← pc_wo f hc.1]
      congr 1
      exact ite_congr (by simp) (fun _ => rfl) (fun _ => rfl)
  have h3 : tot (if hasC c.l.length k = true then c.l.set k.toNat (wo (row c k) f) else c.l) + (if hasC c.l.length k = true ∧ hb (row c k) f = true then 1 else 0) = tot c.l := by
    cases h : hasC c.l.length k
    · rw [if_neg (by decide), if_neg (by simp)]; rfl
    · rw [if_pos rfl]
      have h1 := tot_set (wo (row c k) f) (car_row h)
      have h4 := pc_wo f (row_lt hc k)
      have e : (if true = true ∧ hb (row c k) f = true then 1 else 0) = (if hb (row c k) f = true then 1 else 0) := ite_congr (by simp) (fun _ => rfl) (fun _ => rfl)
      rw [e]
      omega
  unfold dn mn
  simp only
  omega

/-- where nobody calls -/
def c0 (n : Nat) : C := ⟨0, List.replicate n 0⟩
theorem c0_ok (n : Nat) : (c0 n).Ok := ⟨(by decide : 0 < 4294967296), fun x hx => by rw [List.eq_of_mem_replicate hx]; decide⟩
theorem c0_len (n : Nat) : (c0 n).l.length = n := by simp [c0]
theorem c0_row (n : Nat) (k : Int) : row (c0 n) k = 0 := by
  unfold row c0
  simp only
  rw [List.getElem?_replicate]
  split <;> rfl
theorem nr_zero (p : Int) : nr 0 p = -1 := (nr_no (by decide) p).2 rfl
theorem low_zero : low 0 = -1 := (low_no (by decide)).2 rfl
theorem c0_nx (n : Nat) (k p : Int) (hs : Nat) : nx (c0 n) k p hs = -1 := by
  unfold nx
  rw [c0_row, nr_zero]
  have : (c0 n).h &&& hs = 0 := by show 0 &&& hs = 0; simp
  rw [this, low_zero]
  split <;> simp
theorem pc_z : pc 0 = 0 := by decide +kernel
theorem c0_mn (n : Nat) : mn (c0 n) = 0 := by
  unfold mn tot c0
  simp only
  rw [List.map_replicate, pc_z]
  simp
theorem c0_hall (n : Nat) (f m : Int) : mn (hall (c0 n) f m) = if isF f m = true then 1 else 0 := by
  rw [mn_hall (c0_ok n), c0_mn, Nat.zero_add]
  exact ite_congr (by simp [c0, hb_zero]) (fun _ => rfl) (fun _ => rfl)
theorem c0_car (n : Nat) (k f m : Int) : mn (car (c0 n) k f m) = if carOk (c0 n) k f m = true then 1 else 0 := by
  rw [mn_car (c0_ok n), c0_mn, Nat.zero_add]
  exact ite_congr (by simp [c0_row, hb_zero]) (fun _ => rfl) (fun _ => rfl)
theorem c0_dn (n : Nat) (k f : Int) (b : Bool) : mn (dn (c0 n) k f b) = 0 := by
  have := mn_dn (c0_ok n) k f b
  rw [c0_mn] at this
  omega
theorem nx_range (c : C) (k p : Int) (hs : Nat) : -1 ≤ nx c k p hs ∧ nx c k p hs < 32 := by
  unfold nx
  have h1 := nr_range (row c k) p
  have h2 := low_range (c.h &&& hs)
  split
  · split <;> omega
  · omega
theorem nx_no (c : C) (k p : Int) (hs : Nat) (h : hasC c.l.length k = false) : nx c k p hs = -1 := by unfold nx; rw [if_neg (by rw [h]; decide)]
end Go.Proofs.Ytojioadonbiiaaa.CalP
