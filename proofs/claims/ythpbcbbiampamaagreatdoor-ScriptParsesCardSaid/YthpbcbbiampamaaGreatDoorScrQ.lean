/- A tick that comes in; what a letter of a law is. -/
import Derived.Test.YthpbcbbiampamaaGreatDoorScrO
namespace Go.Proofs.YthpbcbbiampamaaGreatDoor.Scr
open Go.RowKit Go.Maps Go.Proofs.YthpbcbbiampamaaGreatDoor.ScrP Go.Proofs.YthpbcbbiampamaaGreatDoor.Box Go.Proofs.YthpbcbbiampamaaGreatDoor.Held Go.Proofs.YthpbcbbiampamaaGreatDoor.Sees Go.Proofs.YthpbcbbiampamaaGreatDoor.Jrn
set_option linter.unusedVariables false
set_option linter.unusedSimpArgs false
set_option maxRecDepth 100000

/-- a tick that lies in memory -/
structure Tk where
  t : T
  A : Option Addr
  c : Nat
def Tk.val (x : Tk) : Value := tv x.t x.A x.t.es.length x.c
structure Tk.In (w : World) (x : Tk) : Prop where
  t : x.t.In
  s : Sees w w.heap.size x.A (evc x.t.es)
/-- some value of a tick -/
def TV (v : Value) (w : World) (t : T) : Prop := ∃ A c, v = tv t A t.es.length c ∧ Sees w w.heap.size A (evc t.es)
theorem TV.next {v : Value} {w w' : World} {t : T} (h : TV v w t) (hb : Below w.heap.size w w') : TV v w' t := by
  obtain ⟨A, c, h1, h2⟩ := h
  exact ⟨A, c, h1, h2.on hb⟩
end Go.Proofs.YthpbcbbiampamaaGreatDoor.Scr
