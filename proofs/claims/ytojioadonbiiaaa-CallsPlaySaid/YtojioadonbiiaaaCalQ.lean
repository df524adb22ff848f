/- Plain: calls, what is done with them, what is told of them. -/
import Derived.Test.YtojioadonbiiaaaCalP
namespace Go.Proofs.Ytojioadonbiiaaa.CalP
set_option linter.unusedVariables false

/-- calls: bits of halls, of cars -/
structure C where
  h : Nat
  l : List Nat
deriving DecidableEq
def C.Ok (c : C) : Prop := c.h < 4294967296 ∧ ∀ x ∈ c.l, x < 4294967296
def hasC (n : Nat) (k : Int) : Bool := decide (0 ≤ k) && decide (k < n)
def row (c : C) (k : Int) : Nat := c.l[k.toNat]?.getD 0
def nx (c : C) (k p : Int) (hs : Nat) : Int := if hasC c.l.length k = true then (if nr (row c k) p = -1 then low (c.h &&& hs) else nr (row c k) p) else -1
def tot (l : List Nat) : Nat := (l.map pc).sum
def mn (c : C) : Nat := pc c.h + tot c.l
def hall (c : C) (f n : Int) : C := if isF f n = true then ⟨wi c.h f, c.l⟩ else c
def carOk (c : C) (k f n : Int) : Bool := hasC c.l.length k && isF f n
def car (c : C) (k f n : Int) : C := if carOk c k f n = true then ⟨c.h, c.l.set k.toNat (wi (row c k) f)⟩ else c
def dn (c : C) (k f : Int) (b : Bool) : C := ⟨if b = true then wo c.h f else c.h, if hasC c.l.length k = true then c.l.set k.toNat (wo (row c k) f) else c.l⟩

theorem hasC_iff {n : Nat} {k : Int} : hasC n k = true ↔ 0 ≤ k ∧ k < n := by unfold hasC; simp
theorem hasC_no {n : Nat} {k : Int} : hasC n k = false ↔ ¬ (0 ≤ k ∧ k < n) := by rw [← hasC_iff]; simp
theorem row_lt {c : C} (h : c.Ok) (k : Int) : row c k < 4294967296 := by
  unfold row
  cases e : c.l[k.toNat]? with
  | none => decide
  | some x => exact h.2 x (List.mem_of_getElem? e)
theorem row_at {c : C} {k : Nat} (h : k < c.l.length) : c.l[k]? = some (row c k) := by
  unfold row
  rw [Int.toNat_natCast, List.getElem?_eq_getElem h]; rfl
theorem hall_l (c : C) (f n : Int) : (hall c f n).l = c.l := by unfold hall; split <;> rfl
theorem car_h (c : C) (k f n : Int) : (car c k f n).h = c.h := by unfold car; split <;> rfl
theorem car_len (c : C) (k f n : Int) : (car c k f n).l.length = c.l.length := by unfold car; split <;> simp
theorem dn_len (c : C) (k f : Int) (b : Bool) : (dn c k f b).l.length = c.l.length := by unfold dn; simp only; split <;> simp
theorem set_ok {l : List Nat} {B : Nat} (h : ∀ x ∈ l, x < B) (k x : Nat) (hx : x < B) : ∀ y ∈ l.set k x, y < B := by
  intro y hy
  rcases List.mem_or_eq_of_mem_set hy with h1 | rfl
  · exact h y h1
  · exact hx
theorem hall_ok {c : C} (h : c.Ok) (f n : Int) : (hall c f n).Ok := by
  unfold hall
  split
  · exact ⟨wi_lt f h.1, h.2⟩
  · exact h
theorem car_ok {c : C} (h : c.Ok) (k f n : Int) : (car c k f n).Ok := by
  unfold car
  split
  · exact ⟨h.1, set_ok h.2 _ _ (wi_lt f (row_lt h k))⟩
  · exact h
theorem dn_ok {c : C} (h : c.Ok) (k f : Int) (b : Bool) : (dn c k f b).Ok := by
  unfold dn
  refine ⟨?_, ?_⟩
  · show (if b = true then wo c.h f else c.h) < _
    split
    · exact wo_lt f h.1
    · exact h.1
  · show ∀ x ∈ (if hasC c.l.length k = true then c.l.set k.toNat (wo (row c k) f) else c.l), _
    split
    · exact set_ok h.2 _ _ (wo_lt f (row_lt h k))
    · exact h.2
theorem tot_take {l : List Nat} {k : Nat} {x : Nat} (h : l[k]? = some x) : tot (l.take (k + 1)) = tot (l.take k) + pc x := by
  unfold tot
  rw [List.take_add_one, h]; simp
theorem tot_le (l : List Nat) : tot l ≤ 32 * l.length := by
  unfold tot
  induction l with
  | nil => simp
  | cons x l ih =>
    have := pc_le x
    simp only [List.map_cons, List.sum_cons, List.length_cons]
    omega
theorem tot_set {l : List Nat} {k : Nat} {x : Nat} (y : Nat) (h : l[k]? = some x) : tot (l.set k y) + pc x = tot l + pc y := by
  unfold tot
  induction l generalizing k with
  | nil => simp at h
  | cons a l ih =>
    cases k with
    | zero =>
      simp at h
      subst h
      simp; omega
    | succ k =>
      simp at h
      have := ih h
      simp only [List.set_cons_succ, List.map_cons, List.sum_cons]
      omega

end Go.Proofs.Ytojioadonbiiaaa.CalP
