/- Plain mathematics of doors: no program is named here. -/
import Derived.WalkKit
namespace Go.Proofs.Ytaknnkmdfimcbaa.LefP
open Go.RowKit

/-- doors: how far they are open, and how far they can be -/
structure L where
  o : Int
  d : Int
/-- may they be? -/
structure L.May (c : L) : Prop where
  o0 : 0 ≤ c.o
  o1 : c.o ≤ c.d
  d0 : 1 ≤ c.d
  d1 : c.d ≤ 16
/-- how far doors are open a tick on -/
def so (o d what : Int) (b : Bool) : Int := if what = 1 then (if o < d then o + 1 else o) else if what = 2 then (if b then o else if 0 < o then o - 1 else o) else o
/-- doors a tick on -/
def st (c : L) (what : Int) (b : Bool) : L := ⟨so c.o c.d what b, c.d⟩
theorem so_bd {o d : Int} (what : Int) (b : Bool) (h0 : 0 ≤ o) (h1 : o ≤ d) : 0 ≤ so o d what b ∧ so o d what b ≤ d ∧ so o d what b - o ≤ 1 ∧ o - so o d what b ≤ 1 := by
  unfold so; repeat' split
  all_goals omega
theorem st_may {c : L} (h : c.May) (what : Int) (b : Bool) : (st c what b).May :=
  ⟨(so_bd what b h.o0 h.o1).1, (so_bd what b h.o0 h.o1).2.1, h.d0, h.d1⟩

end Go.Proofs.Ytaknnkmdfimcbaa.LefP
