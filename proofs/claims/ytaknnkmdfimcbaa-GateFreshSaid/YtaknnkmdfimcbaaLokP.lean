/- Plain mathematics of what may not be: no program is named here. -/
import Derived.Test.YtaknnkmdfimcbaaCarP
import Derived.Test.YtaknnkmdfimcbaaLefP
namespace Go.Proofs.Ytaknnkmdfimcbaa.LokP
open Go.RowKit Go.Proofs.Ytaknnkmdfimcbaa.CarP Go.Proofs.Ytaknnkmdfimcbaa.LefP

/-- does a car stand at a floor? -/
def lv (c : K) : Bool := decide (c.v = 0) && decide (c.p % 8 = 0)
/-- may a car, and its doors, be so? -/
def sf (c : K) (l : L) : Bool := decide (l.o = 0) || lv c
/-- how fast; is it braked? -/
def dv (o vel : Int) : Int := if o = 0 then vel else 0
def db (o : Int) (b : Bool) : Bool := if o = 0 then b else true
/-- may something be done with doors? -/
def md (y b : Bool) (what : Int) : Bool := if what = 2 then true else if what = 1 then b && y else false
/-- what is done with doors -/
def dw (y b : Bool) (what : Int) : Int := if md y b what then what else 0

/-- a car, and doors, as the law wants them -/
def both (c : K) (l : L) : Bool := decide (0 ≤ c.p) && decide (c.p ≤ 1000000) && decide (-8 ≤ c.v) && decide (c.v ≤ 8) && decide (1 ≤ l.d) && decide (l.d ≤ 16) && decide (0 ≤ l.o) && decide (l.o ≤ l.d)
theorem both_may {c : K} {l : L} (h : both c l = true) : c.May ∧ l.May := by
  simp only [both, Bool.and_eq_true, decide_eq_true_eq] at h
  obtain ⟨⟨⟨⟨⟨⟨⟨a, b⟩, x⟩, d⟩, e⟩, f⟩, g⟩, i⟩ := h
  exact ⟨⟨a, b, x, d⟩, ⟨g, i, e, f⟩⟩

/-- doors that are shut open only if they may -/
theorem shut_opens {l : L} (h : l.May) {y b bl : Bool} {what : Int} (ho : l.o = 0) (hm : (st l (dw y b what) bl).o ≠ 0) : b = true ∧ y = true := by
  have h1 := h.o1
  have hd := h.d0
  revert hm
  unfold dw md st so
  simp only [ho]
  by_cases k2 : what = 2
  · simp [k2]
  · by_cases k1 : what = 1
    · subst k1
      cases b <;> cases y <;> simp
    · simp [k1, k2]
/-- a tick on: shut, or it stands where it stood, at a floor -/
theorem safe_on {c : K} {l : L} (hl : l.May) (hs : sf c l = true) (vel : Int) (b : Bool) (what f : Int) (bl : Bool) :
    (st l (dw (lv c) (db l.o b) what) bl).o = 0 ∨ ((tick c (dv l.o vel) (db l.o b) f).p = c.p ∧ (tick c (dv l.o vel) (db l.o b) f).v = 0 ∧ lv (tick c (dv l.o vel) (db l.o b) f) = true) := by
  by_cases hm : (st l (dw (lv c) (db l.o b) what) bl).o = 0
  · exact .inl hm
  · right
    have key : db l.o b = true ∧ lv c = true := by
      by_cases ho : l.o = 0
      · exact shut_opens hl ho hm
      · refine ⟨by unfold db; rw [if_neg ho], ?_⟩
        simp only [sf, Bool.or_eq_true, decide_eq_true_eq] at hs
        exact hs.resolve_left ho
    obtain ⟨k1, k2⟩ := key
    rw [k1]
    refine ⟨rfl, rfl, ?_⟩
    simp only [lv, Bool.and_eq_true, decide_eq_true_eq] at k2
    simp only [tick, if_true, lv, Bool.and_eq_true, decide_eq_true_eq]
    exact ⟨trivial, k2.2⟩
/-- with open doors it stands -/
theorem open_stands {c : K} {o vel : Int} {b : Bool} {f : Int} (h : o ≠ 0) : tick c (dv o vel) (db o b) f = ⟨c.p, 0, c.l⟩ := by
  have : db o b = true := by unfold db; rw [if_neg h]
  rw [this]; rfl
theorem tick_top {c : K} (h : c.May) (vel : Int) (b : Bool) (f : Int) : (tick c vel b f).p ≤ 1000000 := (tick_may h vel b f).p1
/-- what is done may be done -/
theorem md_dw (y b : Bool) (what : Int) : dw y b (dw y b what) = dw y b what := by
  unfold dw
  by_cases h : md y b what = true
  · rw [if_pos h, if_pos h]
  · rw [if_neg h]; split <;> rfl

end Go.Proofs.Ytaknnkmdfimcbaa.LokP
