/- Plain mathematics of a battery: no program is named here. -/
import Derived.WalkKit
import Derived.Test.YtmkdgmkpgkeikaaSatP
namespace Go.Proofs.Ytmkdgmkpgkeikaa.CelP
open Go.RowKit Go.Proofs.Ytmkdgmkpgkeikaa.SatP

/-- a battery: what it has, and what goes into it -/
structure K where
  h : Int
  f : Int
/-- may it be? -/
structure K.May (c : K) : Prop where
  h0 : 0 ≤ c.h
  h1 : c.h ≤ c.f
  f1 : c.f ≤ 1048576
/-- how much an n counts as -/
def am (n : Int) : Int := if n < 0 then 0 else n
theorem am0 (n : Int) : 0 ≤ am n := by unfold am; split <;> omega
theorem am_id {n : Int} (h : 0 ≤ n) : am n = n := by unfold am; rw [if_neg (by omega)]
theorem am_no {n : Int} (h : n ≤ 0) : am n = 0 := by unfold am; split <;> omega
/-- a battery of which n was spent, or into which n was filled -/
def sp (c : K) (n : Int) : K := if am n ≤ c.h then ⟨c.h - am n, c.f⟩ else c
def fi (h f n : Int) : Int := min (h + am n) f
def fl (c : K) (n : Int) : K := ⟨fi c.h c.f n, c.f⟩
theorem fi_add {c : K} (h : c.May) (n : Int) : min (addV c.h (am n)) c.f = fi c.h c.f n := by
  have h0 := h.h0
  have h1 := h.h1
  have h2 := h.f1
  have h3 := am0 n
  unfold fi addV bnd
  repeat' split
  all_goals omega
theorem sp_may {c : K} (h : c.May) (n : Int) : (sp c n).May := by
  obtain ⟨h0, h1, h2⟩ := h
  have := am0 n
  unfold sp
  split
  · exact ⟨by simp only; omega, by simp only; omega, h2⟩
  · exact ⟨h0, h1, h2⟩
theorem fl_may {c : K} (h : c.May) (n : Int) : (fl c n).May := by
  obtain ⟨h0, h1, h2⟩ := h
  have := am0 n
  exact ⟨by simp only [fl, fi]; omega, by simp only [fl, fi]; omega, h2⟩

end Go.Proofs.Ytmkdgmkpgkeikaa.CelP
