/- Plain mathematics of the switch, and of what is known of a capacity: no program is named here. -/
import Derived.WalkKit
namespace Go.Proofs.YthgfjikhbgippaaDoor.FedP
open Go.RowKit

/-- the switch: where it stands, where it goes, in how many ticks it is there -/
structure F where
  a : Int
  t : Int
  l : Int
/-- may power come from there? -/
def src (n : Int) : Bool := decide (n = 1 ∨ n = 2)
theorem src_yes {n : Int} (h : src n = true) : n = 1 ∨ n = 2 := by unfold src at h; simpa using h
theorem src_no {n : Int} (h : src n = false) : ¬ n = 1 ∧ ¬ n = 2 := by unfold src at h; simpa using h
theorem src_1 : src 1 = true := rfl
theorem src_2 : src 2 = true := rfl
theorem src_0 : src 0 = false := rfl
/-- a number, or the end that it is beyond -/
def bo (n lo hi : Int) : Int := max lo (min n hi)
/-- how many ticks it takes -/
def bd (d : Int) : Int := bo d 1 200
theorem bd_ge (d : Int) : 1 ≤ bd d := by unfold bd bo; omega
theorem bd_le (d : Int) : bd d ≤ 200 := by unfold bd bo; omega
/-- a switch on its way, a tick on -/
def nr (f : F) : F := if 1 < f.l then ⟨f.a, f.t, f.l - 1⟩ else if src f.t = true then ⟨f.t, 0, 0⟩ else ⟨1, 0, 0⟩
/-- does it leave? -/
def goes (a want : Int) (still : Bool) : Bool := decide (¬ want = a ∧ src want = true ∧ still = true)
/-- a switch a tick on -/
def st (f : F) (want : Int) (still : Bool) (dead : Int) : F :=
  if src f.a = true then (if goes f.a want still = true then ⟨0, want, bd dead⟩ else f) else nr f
/-- where power comes from -/
def pw (a : Int) (mains gen : Bool) : Int := if a = 1 then (if mains then 1 else 0) else if a = 2 then (if gen then 2 else 0) else 0

/-- a row of eight numbers told: how late, what is told now -/
def tl (n : Nat) (x : Int) (t : List Int) : List Int := (x :: t).take n ++ t.drop n
/-- what was told, the last one first, as it is kept -/
def kt (n : Nat) (h : List Int) : List Int := (h ++ List.replicate 8 0).take n ++ List.replicate (8 - n) 0
/-- .. what is known of it -/
def an (n : Nat) (h : List Int) : Int := ((h ++ List.replicate 8 0)[n]?).getD 0
theorem kt_len (n : Nat) (h : List Int) (hn : n ≤ 8) : (kt n h).length = 8 := by unfold kt; simp; omega
theorem kt_nil (n : Nat) (hn : n ≤ 8) : kt n [] = [0, 0, 0, 0, 0, 0, 0, 0] := by
  have : ∀ n : Fin 9, kt n.1 [] = [0, 0, 0, 0, 0, 0, 0, 0] := by decide
  exact this ⟨n, by omega⟩
theorem take_len (n : Nat) (h : List Int) (hn : n ≤ 8) : ((h ++ List.replicate 8 (0 : Int)).take n).length = n := by simp; omega
theorem kt_tl (n : Nat) (x : Int) (h : List Int) (hn : n ≤ 8) : tl n x (kt n h) = kt n (x :: h) := by
  have e := take_len n h hn
  unfold tl kt
  generalize hL : h ++ List.replicate 8 (0 : Int) = L at *
  have e1 : (L.take n ++ List.replicate (8 - n) (0 : Int)).drop n = List.replicate (8 - n) 0 := by
    rw [List.drop_append_of_le_length (by omega), List.drop_eq_nil_of_le (by omega), List.nil_append]
  have e2 : (x :: (L.take n ++ List.replicate (8 - n) (0 : Int))).take n = (x :: L).take n := by
    cases n with
    | zero => rfl
    | succ n =>
      rw [List.take_succ_cons, List.take_succ_cons, List.take_append_of_le_length (by omega), List.take_take]
      congr 2; omega
  rw [e1, e2, List.cons_append, hL]
/-- what is known where a tick's is told: place n of the row -/
theorem an_kt (n : Nat) (x : Int) (h : List Int) (hn : n ≤ 8) : ((x :: kt n h)[n]?).getD 0 = an n (x :: h) := by
  have e := take_len n h hn
  unfold an kt
  cases n with
  | zero => rfl
  | succ n =>
    rw [List.cons_append, List.getElem?_cons_succ, List.getElem?_cons_succ, List.getElem?_append_left (by omega)]
    simp
/-- known: what was told n times ahead -/
theorem an_in (n : Nat) (h : List Int) (hn : n < h.length) : an n h = h[n] := by
  unfold an; rw [List.getElem?_append_left hn, List.getElem?_eq_getElem hn]; rfl
theorem an_out (n : Nat) (h : List Int) (hn : h.length ≤ n) : an n h = 0 := by
  unfold an
  rw [List.getElem?_append_right hn, List.getElem?_replicate]
  split <;> rfl

end Go.Proofs.YthgfjikhbgippaaDoor.FedP
