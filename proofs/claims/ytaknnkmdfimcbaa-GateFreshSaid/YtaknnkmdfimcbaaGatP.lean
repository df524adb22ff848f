/- Plain mathematics of what is done with doors, and for how long they stay: no program is named here. -/
import Derived.Test.YtaknnkmdfimcbaaLokP
namespace Go.Proofs.Ytaknnkmdfimcbaa.GatP
open Go.RowKit Go.Proofs.Ytaknnkmdfimcbaa.CarP Go.Proofs.Ytaknnkmdfimcbaa.LefP Go.Proofs.Ytaknnkmdfimcbaa.LokP

/-- a gate: for how long doors wait, how often they opened again -/
structure G where
  w : Int
  t : Int
/-- may it be? -/
structure G.May (g : G) : Prop where
  w0 : 0 ≤ g.w
  w1 : g.w ≤ 200
  t0 : 0 ≤ g.t
  t1 : g.t ≤ 1000000
/-- are doors as open as can be? are they shut? -/
def wd (l : L) : Bool := decide (l.o = l.d)
def sh (l : L) : Bool := decide (l.o = 0)
/-- what is done: the car stands at a floor (y), doors are wide (z), shut (s) -/
def wx (y z s op pw : Bool) : Int := if op then (if pw && (y && !z) then 1 else 0) else (if pw && !s then 2 else 0)
def wh (c : K) (l : L) (op pw : Bool) : Int := wx (lv c) (wd l) (sh l) op pw
/-- for how long they wait a tick on -/
def ws (w : Int) (was now : Bool) (d : Int) : Int := if now then (if was then max 0 (w - 1) else d) else 0
/-- a gate a tick on -/
def gs (g : G) (a b : L) (d : Int) : G := ⟨ws g.w (wd a) (wd b) d, if sh b then 0 else g.t⟩
/-- may doors be shut? -/
def rd (g : G) (l : L) : Bool := !wd l || decide (g.w = 0)
/-- neither shut nor wide -/
def aj (l : L) : Bool := !sh l && !wd l
/-- do they open again? -/
def ag (g : G) (l : L) (b : Bool) (m : Int) : Bool := aj l && b && decide (g.t < m)
/-- .. and the gate then -/
def gg (g : G) (l : L) (b : Bool) (m : Int) : G := if ag g l b m then ⟨g.w, g.t + 1⟩ else g

theorem ws_bd {w d : Int} (h0 : 0 ≤ w) (h1 : w ≤ 200) (d0 : 0 ≤ d) (d1 : d ≤ 200) (a b : Bool) : 0 ≤ ws w a b d ∧ ws w a b d ≤ 200 := by
  unfold ws; cases a <;> cases b <;> simp <;> omega
theorem gs_may {g : G} (h : g.May) (a b : L) {d : Int} (d0 : 0 ≤ d) (d1 : d ≤ 200) : (gs g a b d).May := by
  obtain ⟨h0, h1, h2, h3⟩ := h
  obtain ⟨k0, k1⟩ := ws_bd h0 h1 d0 d1 (wd a) (wd b)
  refine ⟨k0, k1, ?_, ?_⟩
  · show 0 ≤ if sh b then 0 else g.t
    split <;> omega
  · show (if sh b then 0 else g.t) ≤ 1000000
    split <;> omega

end Go.Proofs.Ytaknnkmdfimcbaa.GatP
