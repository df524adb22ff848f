/- Plain: events read from words by their place, as the reference reads them. -/
import Derived.Test.YthpbcbbiampamaaGreatDoorScrM
namespace Go.Proofs.YthpbcbbiampamaaGreatDoor.Scr
open Go.Lib Go.Proofs.YthpbcbbiampamaaGreatDoor.ScrP
set_option linter.unusedVariables false
set_option linter.unusedSimpArgs false

theorem drop_at {q : List By} {a : Nat} {w : By} (h : q[a]? = some w) : q.drop a = w :: q.drop (a + 1) := by
  obtain ⟨hl, hw⟩ := List.getElem?_eq_some_iff.1 h
  rw [List.drop_eq_getElem_cons hl, hw]
theorem rd_at (c : Bool) (q : List By) (a : Nat) : rd c (q.drop a) = if c then (match q[a]? with
    | some w => (num w).map (·, q.drop (a + 1))
    | none => none) else some (0, q.drop a) := by
  cases c
  · rfl
  · cases h : q[a]? with
    | none =>
      have : q.length ≤ a := List.getElem?_eq_none_iff.1 h
      rw [List.drop_eq_nil_of_le this]
      rfl
    | some w => rw [drop_at h]; rfl
theorem ev_at {q : List By} {a : Nat} {w : By} (h : q[a]? = some w) : ev (q.drop a) = (kd w).bind fun k => (rd k.2.1 (q.drop (a + 1))).bind fun x => (rd k.2.2 x.2).bind fun y => (ev y.2).map fun l => ⟨k.1, x.1, y.1⟩ :: l := by
  rw [drop_at h, ev_cons]
/-- as far as place a, these events were read -/
def At (q : List By) (a : Nat) (es : List E) : Prop := 4 ≤ a ∧ a ≤ q.length ∧ ev (q.drop 4) = (ev (q.drop a)).map (es ++ ·)
theorem At.start {q : List By} (h : 4 ≤ q.length) : At q 4 [] := ⟨Nat.le_refl _, h, by cases ev (q.drop 4) <;> simp⟩
theorem At.done {q : List By} {es : List E} (h : At q q.length es) : ev (q.drop 4) = some es := by
  rw [h.2.2, List.drop_length, ev_nil]; simp
/-- no event stands there -/
theorem At.no {q : List By} {a : Nat} {es : List E} (h : At q a es) {w : By} (hw : q[a]? = some w) (hk : kd w = none) : ev (q.drop 4) = none := by
  rw [h.2.2, ev_at hw, hk]; rfl
/-- its car's number is none -/
theorem At.no1 {q : List By} {a : Nat} {es : List E} (h : At q a es) {w : By} (hw : q[a]? = some w) {k : Int} {c m : Bool} (hk : kd w = some (k, c, m)) (h1 : rd c (q.drop (a + 1)) = none) : ev (q.drop 4) = none := by
  rw [h.2.2, ev_at hw, hk]
  simp only [Option.bind_some, h1]
  rfl
/-- its other number is none -/
theorem At.no2 {q : List By} {a : Nat} {es : List E} (h : At q a es) {w : By} (hw : q[a]? = some w) {k : Int} {c m : Bool} (hk : kd w = some (k, c, m)) {x : Int × List By} (h1 : rd c (q.drop (a + 1)) = some x) (h2 : rd m x.2 = none) : ev (q.drop 4) = none := by
  rw [h.2.2, ev_at hw, hk]
  simp only [Option.bind_some, h1, h2]
  rfl
/-- one event more -/
theorem At.more {q : List By} {a b : Nat} {es : List E} (h : At q a es) {w : By} (hw : q[a]? = some w) {k : Int} {c m : Bool} (hk : kd w = some (k, c, m)) {x : Int × List By} {y : Int} (h1 : rd c (q.drop (a + 1)) = some x) (h2 : rd m x.2 = some (y, q.drop b)) (hb : a < b) (hb2 : b ≤ q.length) : At q b (es ++ [⟨k, x.1, y⟩]) := by
  refine ⟨by have := h.1; omega, hb2, ?_⟩
  rw [h.2.2, ev_at hw, hk]
  simp only [Option.bind_some, h1, h2]
  cases ev (q.drop b) <;> simp
/-- what the first k kinds find -/
def fk (w : By) : Nat → Int × Bool × Bool
  | 0 => (-1, false, false)
  | k + 1 => if (kw k).1 = w then ((k : Int), (kw k).2) else fk w k
theorem fk_all (w : By) (hw : w ≠ []) : (kd w = none ∧ (fk w 7).1 = -1) ∨ ∃ k c m, kd w = some (k, c, m) ∧ fk w 7 = (k, c, m) ∧ 0 ≤ k := by
  have e0 : (kw ((0 : Nat) : Int)).1 = wHall := rfl
  have e1 : (kw ((1 : Nat) : Int)).1 = wCall := rfl
  have e2 : (kw ((2 : Nat) : Int)).1 = wLoad := rfl
  have e3 : (kw ((3 : Nat) : Int)).1 = wFault := rfl
  have e4 : (kw ((4 : Nat) : Int)).1 = wReset := rfl
  have e5 : (kw ((5 : Nat) : Int)).1 = wPick := rfl
  have e6 : (kw ((6 : Nat) : Int)).1 = wRestart := rfl
  cases hk : kd w with
  | none =>
    left
    refine ⟨rfl, ?_⟩
    have h : ∀ i : Nat, i < 7 → (kw i).1 ≠ w := fun i hi e => by
      have := (kd_kw (k := (i : Int)) ⟨by omega, by omega⟩).2
      rw [e, hk] at this; cases this
    unfold fk
    rw [if_neg (h 6 (by decide))]; unfold fk
    rw [if_neg (h 5 (by decide))]; unfold fk
    rw [if_neg (h 4 (by decide))]; unfold fk
    rw [if_neg (h 3 (by decide))]; unfold fk
    rw [if_neg (h 2 (by decide))]; unfold fk
    rw [if_neg (h 1 (by decide))]; unfold fk
    rw [if_neg (h 0 (by decide))]; rfl
  | some x =>
    obtain ⟨i, hi, rfl, rfl⟩ := kd_some hk
    right
    refine ⟨i, (kw i).2.1, (kw i).2.2, rfl, ?_, by omega⟩
    have : i = 0 ∨ i = 1 ∨ i = 2 ∨ i = 3 ∨ i = 4 ∨ i = 5 ∨ i = 6 := by omega
    rcases this with rfl | rfl | rfl | rfl | rfl | rfl | rfl <;> rfl
end Go.Proofs.YthpbcbbiampamaaGreatDoor.Scr
