/- What stands in the laws' worlds. -/
import Derived.Test.YtgbgbodhpahceaaDoorJrnR
import Derived.Deep.QuietTactic
import Derived.BigQuiet
namespace Go.Proofs.YtgbgbodhpahceaaDoor.Jrn
open Go.RowKit Go.Proofs.YtgbgbodhpahceaaDoor.Plain Go.Proofs.YtgbgbodhpahceaaDoor.Sees Go.Proofs.YtgbgbodhpahceaaDoor.Oct Go.Proofs.YtgbgbodhpahceaaDoor.Crc Go.Proofs.YtgbgbodhpahceaaDoor.Box Go.Proofs.YtgbgbodhpahceaaDoor.Held Go.Proofs.YtgbgbodhpahceaaDoor.JrnP Go.Proofs.YtgbgbodhpahceaaDoor.Open Go.Proofs.YtgbgbodhpahceaaDoor.LgrP
set_option linter.unusedVariables false
set_option maxRecDepth 100000

/-- bytes that came in -/
structure SB (W : World) (A : Option Addr) (n : Nat) (z : List Int) : Prop where
  len : z.length = n
  see : Sees W W.heap.size A (nums .u8 z)
theorem SB.next {W W' : World} {A : Option Addr} {n : Nat} {z : List Int} (h : SB W A n z) (hb : Below W.heap.size W W') : SB W' A n z := ⟨h.len, sees_next h.see hb⟩
/-- memory made alone -/
structure BW (w W : World) : Prop where
  bel : Below w.heap.size w W
theorem BW.next {w W W' : World} (h : BW w W) (hb : Below W.heap.size W W') : BW w W' := ⟨h.bel.trans (hb.mono h.bel.size)⟩
/-- a journal in a box -/
structure JB (W : World) (B : Nat) (j : Jr) : Prop where
  box : BxT W B j.arr 45
  in_ : j.In W
theorem JB.next {W W' : World} {B : Nat} {j : Jr} (h : JB W B j) (hb : Below W.heap.size W W') : JB W' B j := ⟨h.box.next hb, h.in_.next hb⟩
/-- both places, in a slice -/
structure SI (W : World) (g c : Nat) (r0 r1 : RowV) : Prop where
  c2 : 2 ≤ c
  h0 : W.cell? ⟨g, 0, none⟩ = some r0.val
  h1 : W.cell? ⟨g, 1, none⟩ = some r1.val
  lt : g < W.heap.size
  t0 : RT W r0
  t1 : RT W r1
theorem SI.next {W W' : World} {g c : Nat} {r0 r1 : RowV} (h : SI W g c r0 r1) (hb : Below W.heap.size W W') : SI W' g c r0 r1 :=
  ⟨h.c2, (hb.cell (p := ⟨g, 0, none⟩) h.lt).trans h.h0, (hb.cell (p := ⟨g, 1, none⟩) h.lt).trans h.h1, Nat.lt_of_lt_of_le h.lt hb.size, h.t0.next hb, h.t1.next hb⟩
theorem slots_si {W : World} (z0 z1 y0 y1 : List Int) (j : Jr) (hj : j.In W) (he : j.n0.bs = z0 ∧ j.n1.bs = z1 ∧ j.a0.bs = y0 ∧ j.a1.bs = y1) :
    Calls Tryd.prog 20 #[j.val] W fun e w' => ∃ g c r0 r1, e = .returned (.slice (some ⟨g, 0, none⟩) 2 c) ∧ SI w' g c r0 r1 ∧ (r0.bs = z0 ∧ r1.bs = z1) ∧ Below W.heap.size W w' :=
  (slots_at z0 z1 y0 y1 j W hj he).mono fun e w' ⟨g, c, r0, r1, h1, h2, h3, h4, h5, h6, h7, h8, h9⟩ => ⟨g, c, r0, r1, h1, ⟨h2, h3, h4, h5, h6, h7⟩, h8, h9⟩
/-- what is told of a row, in whatever drawn world -/
theorem conv_sb {W : World} {A : Option Addr} {n c : Nat} {z : List Int} (h : SB W A n z) : ∀ k, (convert 26 9 (.slice A n c)).run Tryd.prog (W.drewN k) = .ok (.string (strOfNums z)) (W.drewN k) := fun k =>
  conv_sees (c := c) (h.see.below (below_drewN (Below.refl _ W) k) (Nat.le_refl _)) h.len
theorem conv_row {W : World} {A : Option Addr} {c : Nat} {q z : List Int} (h : RT W ⟨A, c, q⟩) (he : q = z) : ∀ k, (convert 26 9 (.slice A q.length c)).run Tryd.prog (W.drewN k) = .ok (.string (strOfNums z)) (W.drewN k) := by
  subst he
  exact conv_sb ⟨rfl, h.ty.sees⟩
theorem load_b {W : World} (z0 z1 y0 y1 : List Int) (j : Jr) (ht : Tab W) (hj : j.In W) (he : j.n0.bs = z0 ∧ j.n1.bs = z1 ∧ j.a0.bs = y0 ∧ j.a1.bs = y1) {e0 b m s : Int} {l : List Pm} {n : Nat} {bv : Bool} (hg : JrnP.load z0 z1 = ⟨e0, b, m, l, s⟩) (hl : l.length = n) (hv : decide (0 < s) = bv) :
    Calls Tryd.prog 18 #[j.val] W fun e w' => ∃ A c, e = .returned (.tuple #[.agg #[.int .i64 b, .int .i64 m, .int .i64 0, .slice A n c], .int .u64 s, .bool bv]) ∧ LI w' A c n l ∧ Below W.heap.size W w' := by
  subst hv
  exact load_li z0 z1 y0 y1 j ht hj he hg hl

end Go.Proofs.YtgbgbodhpahceaaDoor.Jrn
