import Derived.Test.YtjedkkkhficmoaaDoorJrnB
import Derived.Test.YtjedkkkhficmoaaDoorOctD
import Derived.LoopN
import Derived.RangeFuncBox
import Derived.Deep.DeepMust
import Derived.Test.YtjedkkkhficmoaaDoorJrnG
import Derived.Test.YtjedkkkhficmoaaDoorJrnF
import Derived.Test.YtjedkkkhficmoaaDoorLgrP

/- A journal as it lies: From, Slots. -/
namespace Go.Proofs.YtjedkkkhficmoaaDoor.Jrn
open Go.RowKit Go.Proofs.YtjedkkkhficmoaaDoor.Plain Go.Proofs.YtjedkkkhficmoaaDoor.Sees Go.Proofs.YtjedkkkhficmoaaDoor.Oct Go.Proofs.YtjedkkkhficmoaaDoor.Crc Go.Proofs.YtjedkkkhficmoaaDoor.Box Go.Proofs.YtjedkkkhficmoaaDoor.Held Go.Proofs.YtjedkkkhficmoaaDoor.JrnP
set_option linter.unusedVariables false
set_option maxRecDepth 100000

/-- a row of bytes in memory of bytes -/
structure RT (W : World) (r : RowV) : Prop where
  cap : r.bs.length ≤ r.c
  max : r.c ≤ maxLen
  ty : TS W 5 r.A (nums .u8 r.bs)
  byte : ∀ b ∈ r.bs, 0 ≤ b ∧ b ≤ 255
  few : r.bs.length ≤ 10000
theorem RT.next {W W' : World} {r : RowV} (h : RT W r) (hb : Below W.heap.size W W') : RT W' r := ⟨h.cap, h.max, h.ty.next hb, h.byte, h.few⟩
theorem RT.set {W : World} {r : RowV} (h : RT W r) {X : Nat} {cs : Array Value} {t : TypeId} (hX : BxT W X cs t) (ht : t ≠ 5) (j : Nat) (u : Value) : RT (W.setCell ⟨X, j, none⟩ u) r := ⟨h.cap, h.max, h.ty.set hX ht j u, h.byte, h.few⟩
theorem RT.ok {W : World} {r : RowV} (h : RT W r) : r.Ok W W.heap.size := ⟨h.cap, h.ty.sees, h.byte⟩
/-- a journal: both places as they are, and as they were -/
structure Jr where
  n0 : RowV
  n1 : RowV
  a0 : RowV
  a1 : RowV
def Jr.arr (j : Jr) : Array Value := #[j.n0.val, j.n1.val, j.a0.val, j.a1.val]
def Jr.val (j : Jr) : Value := .agg j.arr
structure Jr.In (W : World) (j : Jr) : Prop where
  n0 : RT W j.n0
  n1 : RT W j.n1
  a0 : RT W j.a0
  a1 : RT W j.a1
theorem Jr.In.next {W W' : World} {j : Jr} (h : j.In W) (hb : Below W.heap.size W W') : j.In W' := ⟨h.n0.next hb, h.n1.next hb, h.a0.next hb, h.a1.next hb⟩
theorem Jr.In.set {W : World} {r : Jr} (h : r.In W) {X : Nat} {cs : Array Value} {t : TypeId} (hX : BxT W X cs t) (ht : t ≠ 5) (j : Nat) (u : Value) : r.In (W.setCell ⟨X, j, none⟩ u) := ⟨h.n0.set hX ht j u, h.n1.set hX ht j u, h.a0.set hX ht j u, h.a1.set hX ht j u⟩
/-- a journal of such places is answered, and memory made alone -/
def JP (w : World) (z0 z1 y0 y1 : List Int) (e : Ending) (w' : World) : Prop :=
  ∃ j : Jr, e = .returned j.val ∧ j.In w' ∧ (j.n0.bs = z0 ∧ j.n1.bs = z1 ∧ j.a0.bs = y0 ∧ j.a1.bs = y1) ∧ Below w.heap.size w w'

theorem set4 {W : World} {X : Nat} {a b c d x y z u : Value} {t : TypeId} (h : BxT W X #[a, b, c, d] t) : BxT ((((W.setCell ⟨X, 0, none⟩ x).setCell ⟨X, 1, none⟩ y).setCell ⟨X, 2, none⟩ z).setCell ⟨X, 3, none⟩ u) X #[x, y, z, u] t := (((h.set 0 x).set 1 y).set 2 z).set 3 u
theorem in4 {W : World} {r : Jr} (h : r.In W) {X : Nat} {a b c d : Value} {t : TypeId} (hX : BxT W X #[a, b, c, d] t) (ht : t ≠ 5) (x y z u : Value) : r.In ((((W.setCell ⟨X, 0, none⟩ x).setCell ⟨X, 1, none⟩ y).setCell ⟨X, 2, none⟩ z).setCell ⟨X, 3, none⟩ u) :=
  (((h.set hX ht 0 x).set (hX.set 0 x) ht 1 y).set ((hX.set 0 x).set 1 y) ht 2 z).set (((hX.set 0 x).set 1 y).set 2 z) ht 3 u
theorem below4 {B : Nat} {A W : World} (h : Below B A W) {X : Nat} (hX : B ≤ X) (x y z u : Value) : Below B A ((((W.setCell ⟨X, 0, none⟩ x).setCell ⟨X, 1, none⟩ y).setCell ⟨X, 2, none⟩ z).setCell ⟨X, 3, none⟩ u) :=
  (((h.setCell (p := ⟨X, 0, none⟩) hX x).setCell (p := ⟨X, 1, none⟩) hX y).setCell (p := ⟨X, 2, none⟩) hX z).setCell (p := ⟨X, 3, none⟩) hX u

/-- a clone, as a row -/
theorem clone_row (bs : List Int) (A : Option Addr) (n c : Nat) (w : World) (hl : bs.length = n) (hn : n ≤ 10000) (hs : Sees w w.heap.size A (nums .u8 bs)) (hb : ∀ b ∈ bs, 0 ≤ b ∧ b ≤ 255) :
    Calls Tryd.prog 23 #[.slice A n c] w fun e w' => ∃ A' c', e = .returned (.slice A' n c') ∧ RT w' ⟨A', c', bs⟩ ∧ Below w.heap.size w w' :=
  (bClone_any bs A n c w hl (by omega) hs).mono fun e w' ⟨A', c', h1, h2, h3, h4, h5⟩ => ⟨A', c', h1, ⟨by simp only; omega, h3, h4, hb, by simp only; omega⟩, h5⟩

set_option maxHeartbeats 3200000 in
theorem jFrom_any (za zb : List Int) (A0 A1 : Option Addr) (n0 n1 c0 c1 : Nat) (w : World) (hl0 : za.length = n0) (hl1 : zb.length = n1) (h0 : n0 ≤ 10000) (h1 : n1 ≤ 10000)
    (hs0 : Sees w w.heap.size A0 (nums .u8 za)) (hs1 : Sees w w.heap.size A1 (nums .u8 zb)) (hb0 : ∀ b ∈ za, 0 ≤ b ∧ b ≤ 255) (hb1 : ∀ b ∈ zb, 0 ≤ b ∧ b ≤ 255) :
    Calls Tryd.prog 10 #[.slice A0 n0 c0, .slice A1 n1 c1] w (JP w za zb za zb) := by
  have H0 : Hid (∀ W, Below w.heap.size w W → Calls Tryd.prog 23 #[.slice A0 n0 c0] W fun e w' => ∃ A' c', e = .returned (.slice A' n0 c') ∧ RT w' ⟨A', c', za⟩ ∧ Below W.heap.size W w') := Lib.hid fun W hW => clone_row za A0 n0 c0 W hl0 h0 (sees_next hs0 hW) hb0
  have H1 : Hid (∀ W, Below w.heap.size w W → Calls Tryd.prog 23 #[.slice A1 n1 c1] W fun e w' => ∃ A' c', e = .returned (.slice A' n1 c') ∧ RT w' ⟨A', c', zb⟩ ∧ Below W.heap.size W w') := Lib.hid fun W hW => clone_row zb A1 n1 c1 W hl1 h1 (sees_next hs1 hW) hb1
  have hj := Lib.hid (J.one w #[.slice none 0 0, .slice none 0 0, .slice none 0 0, .slice none 0 0] 38)
  have hT := Lib.hid (BxT.new w #[.slice none 0 0, .slice none 0 0, .slice none 0 0, .slice none 0 0] 38)
  clear hs0 hs1 hb0 hb1
  go_enter Tryd.func10, Tryd.ntmps10
  go_wp2_with (first
    | (go_at_call 23; (with_reducible refine (H0.out _ hj.out.below).mono ?_); clear H0; rintro e w1 ⟨A2, c2, rfl, hr1, h1⟩; have hj1 := Lib.hid (hj.out.next h1); have hT1 := Lib.hid (hT.out.next h1); have HR1 := Lib.hid hr1; clear h1 hr1 hj hT)
    | (go_at_call 23; (with_reducible refine (H1.out _ hj1.out.below).mono ?_); clear H1; rintro e w2 ⟨A3, c3, rfl, hr2, h2⟩; have hj2 := Lib.hid ((hj1.out.next h2).push #[.slice A2 n0 c2, .slice A3 n1 c3] 36); have hT2 := Lib.hid ((hT1.out.next h2).next (below_box (o := .cells #[.slice A2 n0 c2, .slice A3 n1 c3] 36))); have HR2 := Lib.hid (And.intro ((HR1.out.next h2).next (below_box (o := .cells #[.slice A2 n0 c2, .slice A3 n1 c3] 36))) (hr2.next (below_box (o := .cells #[.slice A2 n0 c2, .slice A3 n1 c3] 36)))); clear h2 hr2 hj1 hT1; obtain ⟨a0, a1⟩ := (hj2.out.bx 0 rfl).c2; obtain ⟨f0, f1, f2, f3⟩ := (hj2.out.bx 1 rfl).f4; obtain ⟨y0, y1, y2, y3⟩ := (hj2.out.bx 1 rfl).c4))
  have hne : ∀ x ∈ ([] : List (Nat × Array Value)), x.1 ≠ w.heap.size := fun x hx => by cases hx
  have hje := ((((hj2.out.less (bs' := [(w.heap.size, #[.slice none 0 0, .slice none 0 0, .slice none 0 0, .slice none 0 0])]) (by simp)).put (Nat.le_refl _) hne 0 (.slice A2 n0 c2)).put (Nat.le_refl _) hne 1 (.slice A3 n1 c3)).put (Nat.le_refl _) hne 2 (.slice A2 n0 c2)).put (Nat.le_refl _) hne 3 (.slice A3 n1 c3)
  have hin : ({ n0 := ⟨A2, c2, za⟩, n1 := ⟨A3, c3, zb⟩, a0 := ⟨A2, c2, za⟩, a1 := ⟨A3, c3, zb⟩ } : Jr).In _ := in4 ⟨HR2.out.1, HR2.out.2, HR2.out.1, HR2.out.2⟩ hT2.out (by decide) (.slice A2 n0 c2) (.slice A3 n1 c3) (.slice A2 n0 c2) (.slice A3 n1 c3)
  obtain ⟨k0, k1, k2, k3⟩ := (hje.bx 0 rfl).c4
  refine bodyPost_ret (v := .agg #[.slice A2 n0 c2, .slice A3 n1 c3, .slice A2 n0 c2, .slice A3 n1 c3]) (by simp [results, Tryd.results10, go_sem, k0, k1, k2, k3]) rfl ⟨⟨⟨A2, c2, za⟩, ⟨A3, c3, zb⟩, ⟨A2, c2, za⟩, ⟨A3, c3, zb⟩⟩, by simp [Jr.val, Jr.arr, RowV.val, hl0, hl1], hin, ⟨rfl, rfl, rfl, rfl⟩, hje.below⟩

theorem idx0 (A0 A1 : Option Addr) (n0 n1 c0 c1 : Nat) : ∀ W, (Instr.index 36 (.agg #[.slice A0 n0 c0, .slice A1 n1 c1]) (.int .i64 0)).run Tryd.prog W = .ok (.slice A0 n0 c0) W := fun W => by kernel_rfl
theorem idx1 (A0 A1 : Option Addr) (n0 n1 c0 c1 : Nat) : ∀ W, (Instr.index 36 (.agg #[.slice A0 n0 c0, .slice A1 n1 c1]) (.int .i64 1)).run Tryd.prog W = .ok (.slice A1 n1 c1) W := fun W => by kernel_rfl
theorem grown_cells {W W' : World} {X : Nat} {cs : Array Value} {t : TypeId} {v : Value} (h : BxT W X cs t) (hg : W.grownBy W' v.ownBlock) (hne : ∀ g, v.ownBlock = some g → g ≠ X) : BxT W' X cs t :=
  (hg.block X h.bx.lt (fun e => hne X e.symm rfl)).trans h
theorem ts_own_grown {W W' : World} {t : TypeId} {A : Option Addr} {xs : List Value} {base : Nat} {e : TypeId} {size : Nat} {v : Value} {n : Nat} {ys : List Value} (h : TS W t A xs) (ho : W.ownsRow base e size v n ys) (hte : e ≠ t) (hg : W.grownBy W' v.ownBlock) : TS W' t A xs := by
  rcases h with h | ⟨g, o, cur, hA, hh, hc⟩
  · exact .inl h
  · refine .inr ⟨g, o, cur, hA, (hg.block g (Array.getElem?_eq_some_iff.1 hh).1 (fun e' => ?_)).trans hh, hc⟩
    rcases ho.2 with ⟨rfl, _⟩ | ⟨g2, cap, cur2, rfl, _, hh2, _⟩
    · simp [Value.ownBlock] at e'
    · simp [Value.ownBlock] at e'
      subst e'
      rw [hh] at hh2
      injection hh2 with hh2
      injection hh2 with _ h4
      exact hte h4.symm
theorem RT.grown {W W' : World} {r : RowV} {base : Nat} {e : TypeId} {size : Nat} {v : Value} {n : Nat} {ys : List Value} (h : RT W r) (ho : W.ownsRow base e size v n ys) (hte : e ≠ 5) (hg : W.grownBy W' v.ownBlock) : RT W' r := ⟨h.cap, h.max, ts_own_grown h.ty ho hte hg, h.byte, h.few⟩

end Go.Proofs.YtjedkkkhficmoaaDoor.Jrn

/- The contract of Load. -/
namespace Go.Proofs.YtjedkkkhficmoaaDoor.Jrn
open Go.RowKit Go.Proofs.YtjedkkkhficmoaaDoor.Plain Go.Proofs.YtjedkkkhficmoaaDoor.Sees Go.Proofs.YtjedkkkhficmoaaDoor.Oct Go.Proofs.YtjedkkkhficmoaaDoor.Crc Go.Proofs.YtjedkkkhficmoaaDoor.Box Go.Proofs.YtjedkkkhficmoaaDoor.Held Go.Proofs.YtjedkkkhficmoaaDoor.JrnP Go.Proofs.YtjedkkkhficmoaaDoor.Open Go.Proofs.YtjedkkkhficmoaaDoor.LgrP
set_option linter.unusedVariables false
set_option maxRecDepth 100000

/-- what Load answers -/
def LP (w : World) (g : G) (e : Ending) (w' : World) : Prop :=
  ∃ A c, e = .returned (.tuple #[.agg #[.int .i64 g.b, .int .i64 g.m, .int .i64 0, .slice A g.l.length c], .int .u64 g.s, .bool (decide (0 < g.s))]) ∧ g.l.length ≤ c ∧ c ≤ maxLen ∧ TS w' 54 A (pms g.l) ∧ Below w.heap.size w w'
/-- what is told when so many places were looked at -/
def fold (z0 z1 : List Int) : Nat → G
  | 0 => bad 0
  | 1 => best 0 (bad 0) (JrnP.get z0)
  | _ => JrnP.load z0 z1
theorem gs_in (z : List Int) (h : ∀ b ∈ z, 0 ≤ b ∧ b ≤ 255) : 0 ≤ (JrnP.get z).s ∧ (JrnP.get z).s ≤ 18446744073709551615 := by
  unfold JrnP.get
  split
  · exact ⟨by decide, by decide⟩
  · rename_i pre hp
    split
    · exact ⟨by decide, by decide⟩
    · rename_i rows hr
      have hb := opn_in hp h
      have hrr := (parts_small pre.length pre rows (Nat.le_refl _) hb hr).2
      unfold getR
      split
      · rename_i r0 r1 r2
        split
        · rename_i hc
          split
          · have h1 := ofB_bounds r0 (hrr r0 (by simp)).2
            rw [hc.1] at h1
            simp only
            omega
          · exact ⟨by decide, by decide⟩
        · exact ⟨by decide, by decide⟩
      · exact ⟨by decide, by decide⟩
theorem best_in {p : Int} {x y : G} (hx : 0 ≤ x.s ∧ x.s ≤ 18446744073709551615) (hy : 0 ≤ y.s ∧ y.s ≤ 18446744073709551615) : 0 ≤ (best p x y).s ∧ (best p x y).s ≤ 18446744073709551615 := by
  unfold best
  split
  · exact hy
  · exact hx
theorem best_yes {p : Int} {x y : G} (h1 : y.e = 0) (h2 : y.s % 2 = p) (h3 : x.s < y.s) : best p x y = ⟨0, y.b, y.m, y.l, y.s⟩ := if_pos ⟨h1, h2, h3⟩
theorem best_no {p : Int} {x y : G} (h : y.e ≠ 0 ∨ y.s % 2 ≠ p ∨ ¬ x.s < y.s) : best p x y = x := if_neg fun ⟨h1, h2, h3⟩ => by
  rcases h with h | h | h
  · exact h h1
  · exact h h2
  · exact h h3
theorem fold_in (z0 z1 : List Int) (h0 : ∀ b ∈ z0, 0 ≤ b ∧ b ≤ 255) (h1 : ∀ b ∈ z1, 0 ≤ b ∧ b ≤ 255) (k : Nat) : 0 ≤ (fold z0 z1 k).s ∧ (fold z0 z1 k).s ≤ 18446744073709551615 := by
  have hb : 0 ≤ (bad 0).s ∧ (bad 0).s ≤ 18446744073709551615 := ⟨by decide, by decide⟩
  match k with
  | 0 => exact hb
  | 1 => exact best_in hb (gs_in z0 h0)
  | k + 2 => exact best_in (best_in hb (gs_in z0 h0)) (gs_in z1 h1)

/-- what Get answers, at letters -/
def GQ (w : World) (ge gb gm : Int) (gl : List Pm) (gs : Int) (nl : Nat) (e : Ending) (w' : World) : Prop :=
  ∃ A c, e = .returned (.tuple #[.agg #[.int .i64 gb, .int .i64 gm, .int .i64 0, .slice A nl c], .int .u64 gs, .int .i64 ge]) ∧ nl ≤ c ∧ c ≤ maxLen ∧ TS w' 54 A (pms gl) ∧ Below w.heap.size w w'
theorem GQ.of {w w' : World} {ge gb gm : Int} {gl : List Pm} {gs : Int} {nl : Nat} {e : Ending} (h : GP w ⟨ge, gb, gm, gl, gs⟩ e w') (hn : gl.length = nl) : GQ w ge gb gm gl gs nl e w' := by
  subst hn
  exact h
/-- while Load runs -/
structure LQ (w wr : World) (A : Option Addr) (c : Nat) (b m : Int) (l : List Pm) (n : Nat) (ja : Array Value) : Prop where
  cap : n ≤ c
  max : c ≤ maxLen
  ty : TS wr 54 A (pms l)
  box : BxT wr (w.heap.size + 1 + 1) #[.int .i64 b, .int .i64 m, .int .i64 0, .slice A n c] 32
  res : BxT wr (w.heap.size + 1) #[.int .i64 0, .int .i64 0, .int .i64 0, .slice none 0 0] 32
  j : J w wr [(w.heap.size + 1, #[.int .i64 0, .int .i64 0, .int .i64 0, .slice none 0 0]), (w.heap.size, ja)]
theorem lq_next {w wr w1 : World} {A : Option Addr} {c : Nat} {b m : Int} {l : List Pm} {n : Nat} {ja : Array Value} (h : LQ w wr A c b m l n ja) (h1 : Below wr.heap.size wr w1) (o : Obj) : LQ w (w1.alloc o) A c b m l n ja :=
  ⟨h.cap, h.max, (h.ty.next h1).next below_box, (h.box.next h1).next below_box, (h.res.next h1).next below_box, (h.j.next h1).alloc _⟩
theorem lq_store {w wr : World} {A A' : Option Addr} {c c' : Nat} {b m b' m' : Int} {l l' : List Pm} {n n' : Nat} {ja : Array Value} (h : LQ w wr A c b m l n ja) (h1 : n' ≤ c') (h2 : c' ≤ maxLen) (h3 : TS wr 54 A' (pms l')) :
    LQ w ((((wr.setCell ⟨w.heap.size + 1 + 1, 0, none⟩ (.int .i64 b')).setCell ⟨w.heap.size + 1 + 1, 1, none⟩ (.int .i64 m')).setCell ⟨w.heap.size + 1 + 1, 2, none⟩ (.int .i64 0)).setCell ⟨w.heap.size + 1 + 1, 3, none⟩ (.slice A' n' c')) A' c' b' m' l' n' ja := by
  have hb := h.box
  have hd : (32 : TypeId) ≠ 54 := by decide
  have ho : ∀ j u (W : World), J w W [(w.heap.size + 1, #[.int .i64 0, .int .i64 0, .int .i64 0, .slice none 0 0]), (w.heap.size, ja)] → J w (W.setCell ⟨w.heap.size + 1 + 1, j, none⟩ u) [(w.heap.size + 1, #[.int .i64 0, .int .i64 0, .int .i64 0, .slice none 0 0]), (w.heap.size, ja)] := fun j u W hW => by
    refine ⟨hW.below.setCell (p := ⟨w.heap.size + 1 + 1, j, none⟩) (by simp only; omega) u, fun x hx => (hW.at_ x hx).off u ?_⟩
    simp only [List.mem_cons, List.not_mem_nil, or_false] at hx
    rcases hx with rfl | rfl <;> simp only <;> omega
  have hr : ∀ (W : World), BxT W (w.heap.size + 1) #[.int .i64 0, .int .i64 0, .int .i64 0, .slice none 0 0] 32 → ∀ j u, BxT (W.setCell ⟨w.heap.size + 1 + 1, j, none⟩ u) (w.heap.size + 1) #[.int .i64 0, .int .i64 0, .int .i64 0, .slice none 0 0] 32 := fun W hW j u => (Below.heap_setCell W ⟨w.heap.size + 1 + 1, j, none⟩ u (w.heap.size + 1) (by simp only; omega)).trans hW
  exact ⟨h1, h2, (((h3.set hb hd 0 _).set (hb.set 0 _) hd 1 _).set ((hb.set 0 _).set 1 _) hd 2 _).set (((hb.set 0 _).set 1 _).set 2 _) hd 3 _, set4 hb, hr _ (hr _ (hr _ (hr _ h.res _ _) _ _) _ _) _ _, ho 3 _ _ (ho 2 _ _ (ho 1 _ _ (ho 0 _ _ h.j)))⟩
theorem ne_of_lt' {a b c : Nat} (h : a < b) (k : b ≤ c) : a ≠ c := by omega

set_option maxHeartbeats 12800000 in
theorem jLoad_any (j : Jr) (w : World) (ht : Tab w) (hj : j.In w) : Calls Tryd.prog 19 #[j.val] w (LP w (JrnP.load j.n0.bs j.n1.bs)) := by
  obtain ⟨h0, h1, _, _⟩ := hj
  obtain ⟨⟨A0, c0, z0⟩, ⟨A1, c1, z1⟩, ⟨A2, c2, z2⟩, ⟨A3, c3, z3⟩⟩ := j
  simp only at h0 h1
  unfold Jr.val Jr.arr RowV.val
  simp only
  obtain ⟨n0, hn0⟩ : ∃ n, z0.length = n := ⟨_, rfl⟩
  obtain ⟨n1, hn1⟩ : ∃ n, z1.length = n := ⟨_, rfl⟩
  generalize z2.length = n2
  generalize z3.length = n3
  rw [hn0, hn1]
  have HF := Lib.hid (fold_in z0 z1 h0.byte h1.byte)
  have HG := Lib.hid (And.intro (gs_in z0 h0.byte) (gs_in z1 h1.byte))
  have H0 : Hid (∀ W, Below w.heap.size w W → Calls Tryd.prog 33 #[.slice A0 n0 c0] W (GP W (JrnP.get z0))) := Lib.hid fun W hW => jGet_any z0 A0 n0 c0 W hn0 (by have := h0.few; simp only at this; omega) (by have := h0.cap; simp only at this; omega) (ht.next hW) (sees_next h0.ty.sees hW) h0.byte
  have H1 : Hid (∀ W, Below w.heap.size w W → Calls Tryd.prog 33 #[.slice A1 n1 c1] W (GP W (JrnP.get z1))) := Lib.hid fun W hW => jGet_any z1 A1 n1 c1 W hn1 (by have := h1.few; simp only at this; omega) (by have := h1.cap; simp only at this; omega) (ht.next hW) (sees_next h1.ty.sees hW) h1.byte
  have HFD : Hid (fold z0 z1 1 = best 0 (fold z0 z1 0) (JrnP.get z0) ∧ fold z0 z1 2 = best 1 (fold z0 z1 1) (JrnP.get z1) ∧ fold z0 z1 2 = JrnP.load z0 z1 ∧ fold z0 z1 0 = bad 0) := Lib.hid ⟨rfl, rfl, rfl, rfl⟩
  clear h0 h1 hn0 hn1
  generalize JrnP.get z0 = g0 at *
  generalize JrnP.get z1 = g1 at *
  generalize JrnP.load z0 z1 = gL at *
  generalize hfo : fold z0 z1 = fo at *
  clear hfo
  have hjb := Lib.hid ((J.one w #[.slice A0 n0 c0, .slice A1 n1 c1, .slice A2 n2 c2, .slice A3 n3 c3] 38).push #[.int .i64 0, .int .i64 0, .int .i64 0, .slice none 0 0] 32 |>.push #[.int .i64 0, .int .i64 0, .int .i64 0, .slice none 0 0] 32)
  have hT := Lib.hid (BxT.new ((w.alloc (.cells #[.slice A0 n0 c0, .slice A1 n1 c1, .slice A2 n2 c2, .slice A3 n3 c3] 38)).alloc (.cells #[.int .i64 0, .int .i64 0, .int .i64 0, .slice none 0 0] 32)) #[.int .i64 0, .int .i64 0, .int .i64 0, .slice none 0 0] 32)
  have hT1 := Lib.hid ((BxT.new (w.alloc (.cells #[.slice A0 n0 c0, .slice A1 n1 c1, .slice A2 n2 c2, .slice A3 n3 c3] 38)) #[.int .i64 0, .int .i64 0, .int .i64 0, .slice none 0 0] 32).next (below_box (o := .cells #[.int .i64 0, .int .i64 0, .int .i64 0, .slice none 0 0] 32)))
  simp only [World.size_alloc] at hjb hT hT1
  obtain ⟨a0, a1, a2, a3⟩ := (hjb.out.bx 2 rfl).c4
  have x0 := idx0 A0 A1 n0 n1 c0 c1
  have x1 := idx1 A0 A1 n0 n1 c0 c1
  go_enter Tryd.func19, Tryd.ntmps19
  go_wp2
  go_loopw [6, 14] (fun most i wr => ∃ (k : Nat) (A : Option Addr) (c : Nat), k ≤ 2 ∧ i = .int .i64 k ∧ most = .int .u64 (fo k).s ∧ Hid (LQ w wr A c (fo k).b (fo k).m (fo k).l (fo k).l.length #[.slice A0 n0 c0, .slice A1 n1 c1, .slice A2 n2 c2, .slice A3 n3 c3])) (fun _ i _ => 2 - (intOf i).toNat)
  case atStart =>
    refine ⟨0, none, 0, by omega, rfl, by rw [HFD.out.2.2.2]; rfl, Lib.hid ?_⟩
    rw [HFD.out.2.2.2]
    exact ⟨Nat.le_refl _, Nat.zero_le _, .inl rfl, hT.out, hT1.out, hjb.out.less (by simp)⟩
  case round =>
    obtain ⟨k, A, c, hk, rfl, rfl, hQ⟩ := hrel
    clear hjb hT hT1 a0 a1 a2 a3
    have ks : k = 0 ∨ k = 1 ∨ k = 2 := by omega
    rcases ks with rfl | rfl | rfl
    ·
      have hf := HFD.out.1
      obtain ⟨ge, gb, gm, gl, gs⟩ := g0
      have hgs := HG.out.1
      simp only at hgs hf
      generalize hfk : fo 0 = fk at *
      have hfs := HF.out 0
      rw [hfk] at hfs
      obtain ⟨fe, fb, fm, fl, fs⟩ := fk
      simp only at hfs hQ
      have HFN := Lib.hid hf
      obtain ⟨nl, hnl⟩ : ∃ nl, gl.length = nl := ⟨_, rfl⟩
      obtain ⟨nf, hnf⟩ : ∃ nf, fl.length = nf := ⟨_, rfl⟩
      have HGk : Hid (∀ W, Below w.heap.size w W → Calls Tryd.prog 33 #[.slice A0 n0 c0] W (GQ W ge gb gm gl gs nl)) := Lib.hid fun W hW => (H0.out W hW).mono fun e w' h => GQ.of h hnl
      rw [hnf] at hQ
      have HNL := Lib.hid (And.intro hnl hnf)
      have ways : ge ≠ 0 ∨ (ge = 0 ∧ gs % 2 ≠ 0) ∨ (ge = 0 ∧ gs % 2 = 0 ∧ ¬ fs < gs) ∨ (ge = 0 ∧ gs % 2 = 0 ∧ fs < gs) := by omega
      clear hf hfk hnl hnf H0 H1
      rcases ways with hw | ⟨rfl, hw⟩ | ⟨rfl, hw, hw2⟩ | ⟨rfl, hw, hw2⟩
      ·
        have d1 : decide (ge = 0) = false := decide_eq_false hw
        have d2 : (ge == 0) = false := beq_eq_false_iff_ne.2 hw
        have e : fo 1 = ⟨fe, fb, fm, fl, fs⟩ := HFN.out.trans (best_no (.inl hw))
        have HE := Lib.hid e
        clear e hw
        go_wp2_with (go_at_call 33; go_must ((with_reducible refine (HGk.out _ hQ.out.j.below).mono ?_); clear HGk; rintro e w1 ⟨A4, c4, rfl, hc4, hm4, hs4, h1⟩; have hQ1 := Lib.hid (lq_next hQ.out h1 (.cells #[.int .i64 gb, .int .i64 gm, .int .i64 0, .slice A4 nl c4] 32)); have hs5 := Lib.hid (hs4.next (below_box (o := .cells #[.int .i64 gb, .int .i64 gm, .int .i64 0, .slice A4 nl c4] 32))); obtain ⟨z0, z1, z2, z3⟩ := hQ1.out.box.bx.c4; obtain ⟨f0, f1, f2, f3⟩ := hQ1.out.box.bx.f4; have n1 : w.heap.size + 1 + 1 ≠ w1.heap.size := ne_of_lt' hQ.out.box.bx.lt h1.size; have n2 : w1.heap.size ≠ w.heap.size + 1 + 1 := fun e => n1 e.symm; obtain ⟨b0, b1, b2, b3⟩ := (Bx.new w1 #[.int .i64 gb, .int .i64 gm, .int .i64 0, .slice A4 nl c4] 32).c4; clear h1 hs4))
        go_roundw
        case rel =>
          have e := HE.out
          exact ⟨1, A, c, by omega, rfl, by rw [e], Lib.hid (by rw [e]; simp only [HNL.out.2]; exact hQ1.out)⟩
        case measure => simp [intOf]
      ·
        have d1 : decide (gs % 2 = 0) = false := decide_eq_false hw
        have d2 : (gs % 2 == 0) = false := beq_eq_false_iff_ne.2 hw
        have e : fo 1 = ⟨fe, fb, fm, fl, fs⟩ := HFN.out.trans (best_no (.inr (.inl hw)))
        have HE := Lib.hid e
        clear e hw
        go_wp2_with (go_at_call 33; go_must ((with_reducible refine (HGk.out _ hQ.out.j.below).mono ?_); clear HGk; rintro e w1 ⟨A4, c4, rfl, hc4, hm4, hs4, h1⟩; have hQ1 := Lib.hid (lq_next hQ.out h1 (.cells #[.int .i64 gb, .int .i64 gm, .int .i64 0, .slice A4 nl c4] 32)); have hs5 := Lib.hid (hs4.next (below_box (o := .cells #[.int .i64 gb, .int .i64 gm, .int .i64 0, .slice A4 nl c4] 32))); obtain ⟨z0, z1, z2, z3⟩ := hQ1.out.box.bx.c4; obtain ⟨f0, f1, f2, f3⟩ := hQ1.out.box.bx.f4; have n1 : w.heap.size + 1 + 1 ≠ w1.heap.size := ne_of_lt' hQ.out.box.bx.lt h1.size; have n2 : w1.heap.size ≠ w.heap.size + 1 + 1 := fun e => n1 e.symm; obtain ⟨b0, b1, b2, b3⟩ := (Bx.new w1 #[.int .i64 gb, .int .i64 gm, .int .i64 0, .slice A4 nl c4] 32).c4; clear h1 hs4))
        go_roundw
        case rel =>
          have e := HE.out
          exact ⟨1, A, c, by omega, rfl, by rw [e], Lib.hid (by rw [e]; simp only [HNL.out.2]; exact hQ1.out)⟩
        case measure => simp [intOf]
      ·
        have d1 : decide (gs % 2 = 0) = true := decide_eq_true hw
        have d2 : (gs % 2 == 0) = true := beq_iff_eq.2 hw
        have d3 : decide (fs < gs) = false := decide_eq_false hw2
        have e : fo 1 = ⟨fe, fb, fm, fl, fs⟩ := HFN.out.trans (best_no (.inr (.inr hw2)))
        have HE := Lib.hid e
        clear e
        go_wp2_with (go_at_call 33; go_must ((with_reducible refine (HGk.out _ hQ.out.j.below).mono ?_); clear HGk; rintro e w1 ⟨A4, c4, rfl, hc4, hm4, hs4, h1⟩; have hQ1 := Lib.hid (lq_next hQ.out h1 (.cells #[.int .i64 gb, .int .i64 gm, .int .i64 0, .slice A4 nl c4] 32)); have hs5 := Lib.hid (hs4.next (below_box (o := .cells #[.int .i64 gb, .int .i64 gm, .int .i64 0, .slice A4 nl c4] 32))); obtain ⟨z0, z1, z2, z3⟩ := hQ1.out.box.bx.c4; obtain ⟨f0, f1, f2, f3⟩ := hQ1.out.box.bx.f4; have n1 : w.heap.size + 1 + 1 ≠ w1.heap.size := ne_of_lt' hQ.out.box.bx.lt h1.size; have n2 : w1.heap.size ≠ w.heap.size + 1 + 1 := fun e => n1 e.symm; obtain ⟨b0, b1, b2, b3⟩ := (Bx.new w1 #[.int .i64 gb, .int .i64 gm, .int .i64 0, .slice A4 nl c4] 32).c4; clear h1 hs4))
        go_roundw
        case rel =>
          have e := HE.out
          exact ⟨1, A, c, by omega, rfl, by rw [e], Lib.hid (by rw [e]; simp only [HNL.out.2]; exact hQ1.out)⟩
        case measure => simp [intOf]
      ·
        have d1 : decide (gs % 2 = 0) = true := decide_eq_true hw
        have d2 : (gs % 2 == 0) = true := beq_iff_eq.2 hw
        have d3 : decide (fs < gs) = true := decide_eq_true hw2
        have e : fo 1 = ⟨0, gb, gm, gl, gs⟩ := HFN.out.trans (best_yes rfl hw hw2)
        have HE := Lib.hid e
        clear e
        go_wp2_with (go_at_call 33; go_must ((with_reducible refine (HGk.out _ hQ.out.j.below).mono ?_); clear HGk; rintro e w1 ⟨A4, c4, rfl, hc4, hm4, hs4, h1⟩; have hQ1 := Lib.hid (lq_next hQ.out h1 (.cells #[.int .i64 gb, .int .i64 gm, .int .i64 0, .slice A4 nl c4] 32)); have hs5 := Lib.hid (hs4.next (below_box (o := .cells #[.int .i64 gb, .int .i64 gm, .int .i64 0, .slice A4 nl c4] 32))); obtain ⟨z0, z1, z2, z3⟩ := hQ1.out.box.bx.c4; obtain ⟨f0, f1, f2, f3⟩ := hQ1.out.box.bx.f4; have n1 : w.heap.size + 1 + 1 ≠ w1.heap.size := ne_of_lt' hQ.out.box.bx.lt h1.size; have n2 : w1.heap.size ≠ w.heap.size + 1 + 1 := fun e => n1 e.symm; obtain ⟨b0, b1, b2, b3⟩ := (Bx.new w1 #[.int .i64 gb, .int .i64 gm, .int .i64 0, .slice A4 nl c4] 32).c4; clear h1 hs4))
        go_roundw
        case rel =>
          have e := HE.out
          exact ⟨1, A4, c4, by omega, rfl, by rw [e], Lib.hid (by rw [e]; simp only [HNL.out.1]; exact lq_store hQ1.out hc4 hm4 hs5.out)⟩
        case measure => simp [intOf]
    ·
      have hf := HFD.out.2.1
      obtain ⟨ge, gb, gm, gl, gs⟩ := g1
      have hgs := HG.out.2
      simp only at hgs hf
      generalize hfk : fo 1 = fk at *
      have hfs := HF.out 1
      rw [hfk] at hfs
      obtain ⟨fe, fb, fm, fl, fs⟩ := fk
      simp only at hfs hQ
      have HFN := Lib.hid hf
      obtain ⟨nl, hnl⟩ : ∃ nl, gl.length = nl := ⟨_, rfl⟩
      obtain ⟨nf, hnf⟩ : ∃ nf, fl.length = nf := ⟨_, rfl⟩
      have HGk : Hid (∀ W, Below w.heap.size w W → Calls Tryd.prog 33 #[.slice A1 n1 c1] W (GQ W ge gb gm gl gs nl)) := Lib.hid fun W hW => (H1.out W hW).mono fun e w' h => GQ.of h hnl
      rw [hnf] at hQ
      have HNL := Lib.hid (And.intro hnl hnf)
      have ways : ge ≠ 0 ∨ (ge = 0 ∧ gs % 2 ≠ 1) ∨ (ge = 0 ∧ gs % 2 = 1 ∧ ¬ fs < gs) ∨ (ge = 0 ∧ gs % 2 = 1 ∧ fs < gs) := by omega
      clear hf hfk hnl hnf H0 H1
      rcases ways with hw | ⟨rfl, hw⟩ | ⟨rfl, hw, hw2⟩ | ⟨rfl, hw, hw2⟩
      ·
        have d1 : decide (ge = 0) = false := decide_eq_false hw
        have d2 : (ge == 0) = false := beq_eq_false_iff_ne.2 hw
        have e : fo 2 = ⟨fe, fb, fm, fl, fs⟩ := HFN.out.trans (best_no (.inl hw))
        have HE := Lib.hid e
        clear e hw
        go_wp2_with (go_at_call 33; go_must ((with_reducible refine (HGk.out _ hQ.out.j.below).mono ?_); clear HGk; rintro e w1 ⟨A4, c4, rfl, hc4, hm4, hs4, h1⟩; have hQ1 := Lib.hid (lq_next hQ.out h1 (.cells #[.int .i64 gb, .int .i64 gm, .int .i64 0, .slice A4 nl c4] 32)); have hs5 := Lib.hid (hs4.next (below_box (o := .cells #[.int .i64 gb, .int .i64 gm, .int .i64 0, .slice A4 nl c4] 32))); obtain ⟨z0, z1, z2, z3⟩ := hQ1.out.box.bx.c4; obtain ⟨f0, f1, f2, f3⟩ := hQ1.out.box.bx.f4; have n1 : w.heap.size + 1 + 1 ≠ w1.heap.size := ne_of_lt' hQ.out.box.bx.lt h1.size; have n2 : w1.heap.size ≠ w.heap.size + 1 + 1 := fun e => n1 e.symm; obtain ⟨b0, b1, b2, b3⟩ := (Bx.new w1 #[.int .i64 gb, .int .i64 gm, .int .i64 0, .slice A4 nl c4] 32).c4; clear h1 hs4))
        go_roundw
        case rel =>
          have e := HE.out
          exact ⟨2, A, c, by omega, rfl, by rw [e], Lib.hid (by rw [e]; simp only [HNL.out.2]; exact hQ1.out)⟩
        case measure => simp [intOf]
      ·
        have d1 : decide (gs % 2 = 1) = false := decide_eq_false hw
        have d2 : (gs % 2 == 1) = false := beq_eq_false_iff_ne.2 hw
        have e : fo 2 = ⟨fe, fb, fm, fl, fs⟩ := HFN.out.trans (best_no (.inr (.inl hw)))
        have HE := Lib.hid e
        clear e hw
        go_wp2_with (go_at_call 33; go_must ((with_reducible refine (HGk.out _ hQ.out.j.below).mono ?_); clear HGk; rintro e w1 ⟨A4, c4, rfl, hc4, hm4, hs4, h1⟩; have hQ1 := Lib.hid (lq_next hQ.out h1 (.cells #[.int .i64 gb, .int .i64 gm, .int .i64 0, .slice A4 nl c4] 32)); have hs5 := Lib.hid (hs4.next (below_box (o := .cells #[.int .i64 gb, .int .i64 gm, .int .i64 0, .slice A4 nl c4] 32))); obtain ⟨z0, z1, z2, z3⟩ := hQ1.out.box.bx.c4; obtain ⟨f0, f1, f2, f3⟩ := hQ1.out.box.bx.f4; have n1 : w.heap.size + 1 + 1 ≠ w1.heap.size := ne_of_lt' hQ.out.box.bx.lt h1.size; have n2 : w1.heap.size ≠ w.heap.size + 1 + 1 := fun e => n1 e.symm; obtain ⟨b0, b1, b2, b3⟩ := (Bx.new w1 #[.int .i64 gb, .int .i64 gm, .int .i64 0, .slice A4 nl c4] 32).c4; clear h1 hs4))
        go_roundw
        case rel =>
          have e := HE.out
          exact ⟨2, A, c, by omega, rfl, by rw [e], Lib.hid (by rw [e]; simp only [HNL.out.2]; exact hQ1.out)⟩
        case measure => simp [intOf]
      ·
        have d1 : decide (gs % 2 = 1) = true := decide_eq_true hw
        have d2 : (gs % 2 == 1) = true := beq_iff_eq.2 hw
        have d3 : decide (fs < gs) = false := decide_eq_false hw2
        have e : fo 2 = ⟨fe, fb, fm, fl, fs⟩ := HFN.out.trans (best_no (.inr (.inr hw2)))
        have HE := Lib.hid e
        clear e
        go_wp2_with (go_at_call 33; go_must ((with_reducible refine (HGk.out _ hQ.out.j.below).mono ?_); clear HGk; rintro e w1 ⟨A4, c4, rfl, hc4, hm4, hs4, h1⟩; have hQ1 := Lib.hid (lq_next hQ.out h1 (.cells #[.int .i64 gb, .int .i64 gm, .int .i64 0, .slice A4 nl c4] 32)); have hs5 := Lib.hid (hs4.next (below_box (o := .cells #[.int .i64 gb, .int .i64 gm, .int .i64 0, .slice A4 nl c4] 32))); obtain ⟨z0, z1, z2, z3⟩ := hQ1.out.box.bx.c4; obtain ⟨f0, f1, f2, f3⟩ := hQ1.out.box.bx.f4; have n1 : w.heap.size + 1 + 1 ≠ w1.heap.size := ne_of_lt' hQ.out.box.bx.lt h1.size; have n2 : w1.heap.size ≠ w.heap.size + 1 + 1 := fun e => n1 e.symm; obtain ⟨b0, b1, b2, b3⟩ := (Bx.new w1 #[.int .i64 gb, .int .i64 gm, .int .i64 0, .slice A4 nl c4] 32).c4; clear h1 hs4))
        go_roundw
        case rel =>
          have e := HE.out
          exact ⟨2, A, c, by omega, rfl, by rw [e], Lib.hid (by rw [e]; simp only [HNL.out.2]; exact hQ1.out)⟩
        case measure => simp [intOf]
      ·
        have d1 : decide (gs % 2 = 1) = true := decide_eq_true hw
        have d2 : (gs % 2 == 1) = true := beq_iff_eq.2 hw
        have d3 : decide (fs < gs) = true := decide_eq_true hw2
        have e : fo 2 = ⟨0, gb, gm, gl, gs⟩ := HFN.out.trans (best_yes rfl hw hw2)
        have HE := Lib.hid e
        clear e
        go_wp2_with (go_at_call 33; go_must ((with_reducible refine (HGk.out _ hQ.out.j.below).mono ?_); clear HGk; rintro e w1 ⟨A4, c4, rfl, hc4, hm4, hs4, h1⟩; have hQ1 := Lib.hid (lq_next hQ.out h1 (.cells #[.int .i64 gb, .int .i64 gm, .int .i64 0, .slice A4 nl c4] 32)); have hs5 := Lib.hid (hs4.next (below_box (o := .cells #[.int .i64 gb, .int .i64 gm, .int .i64 0, .slice A4 nl c4] 32))); obtain ⟨z0, z1, z2, z3⟩ := hQ1.out.box.bx.c4; obtain ⟨f0, f1, f2, f3⟩ := hQ1.out.box.bx.f4; have n1 : w.heap.size + 1 + 1 ≠ w1.heap.size := ne_of_lt' hQ.out.box.bx.lt h1.size; have n2 : w1.heap.size ≠ w.heap.size + 1 + 1 := fun e => n1 e.symm; obtain ⟨b0, b1, b2, b3⟩ := (Bx.new w1 #[.int .i64 gb, .int .i64 gm, .int .i64 0, .slice A4 nl c4] 32).c4; clear h1 hs4))
        go_roundw
        case rel =>
          have e := HE.out
          exact ⟨2, A4, c4, by omega, rfl, by rw [e], Lib.hid (by rw [e]; simp only [HNL.out.1]; exact lq_store hQ1.out hc4 hm4 hs5.out)⟩
        case measure => simp [intOf]
    · have hgL := HFD.out.2.2.1
      have hfs := HF.out 2
      rw [hgL] at hfs hQ
      rw [hgL]
      clear H0 H1
      obtain ⟨fe, fb, fm, fl, fs⟩ := gL
      simp only at hQ hfs
      obtain ⟨nf, hnf⟩ : ∃ nf, fl.length = nf := ⟨_, rfl⟩
      rw [hnf] at hQ
      have HNF := Lib.hid hnf
      clear hnf
      obtain ⟨z0, z1, z2, z3⟩ := hQ.out.box.bx.c4
      obtain ⟨f0, f1, f2, f3⟩ := (hQ.out.j.bx 0 rfl).f4
      obtain ⟨y0, y1, y2, y3⟩ := (hQ.out.j.bx 0 rfl).c4
      go_wp2
      have hne : ∀ x ∈ ([] : List (Nat × Array Value)), x.1 ≠ w.heap.size + 1 := fun x hx => by cases hx
      have hje := ((((hQ.out.j.less (bs' := [(w.heap.size + 1, #[.int .i64 0, .int .i64 0, .int .i64 0, .slice none 0 0])]) (by simp)).put (by omega) hne 0 (.int .i64 fb)).put (by omega) hne 1 (.int .i64 fm)).put (by omega) hne 2 (.int .i64 0)).put (by omega) hne 3 (.slice A nf c)
      obtain ⟨k0, k1, k2, k3⟩ := (hje.bx 0 rfl).c4
      have hbt := hQ.out.res
      have hd : (32 : TypeId) ≠ 54 := by decide
      have hTe := (((hQ.out.ty.set hbt hd 0 (.int .i64 fb)).set (hbt.set 0 (.int .i64 fb)) hd 1 (.int .i64 fm)).set ((hbt.set 0 (.int .i64 fb)).set 1 (.int .i64 fm)) hd 2 (.int .i64 0)).set (((hbt.set 0 (.int .i64 fb)).set 1 (.int .i64 fm)).set 2 (.int .i64 0)) hd 3 (.slice A nf c)
      refine bodyPost_ret (v := .tuple #[.agg #[.int .i64 fb, .int .i64 fm, .int .i64 0, .slice A nf c], .int .u64 fs, .bool (decide (0 < fs))]) (by simp [results, Tryd.results19, go_sem, k0, k1, k2, k3]) rfl ⟨A, c, by simp only [HNF.out], by simp only [HNF.out]; exact hQ.out.cap, hQ.out.max, hTe, hje.below⟩

end Go.Proofs.YtjedkkkhficmoaaDoor.Jrn

/- The contract of Tear. -/
namespace Go.Proofs.YtjedkkkhficmoaaDoor.Jrn
open Go.RowKit Go.Proofs.YtjedkkkhficmoaaDoor.Plain Go.Proofs.YtjedkkkhficmoaaDoor.Sees Go.Proofs.YtjedkkkhficmoaaDoor.Oct Go.Proofs.YtjedkkkhficmoaaDoor.Crc Go.Proofs.YtjedkkkhficmoaaDoor.Box Go.Proofs.YtjedkkkhficmoaaDoor.Held Go.Proofs.YtjedkkkhficmoaaDoor.JrnP
set_option linter.unusedVariables false
set_option maxRecDepth 100000

theorem torn_row (r a : RowV) (k : Nat) (w : World) (hk : k ≤ 9223372036854775807) (hr : RT w r) (ha : RT w a) :
    Calls Tryd.prog 31 #[r.val, a.val, .int .i64 k] w fun e w' => ∃ q : RowV, e = .returned q.val ∧ (RT w' q ∧ q.bs = torn r.bs a.bs k) ∧ Below w.heap.size w w' := by
  refine (torn_any r.bs a.bs r.A a.A r.bs.length r.c a.bs.length a.c k w rfl rfl hr.cap hr.max ha.cap (by have := hr.few; omega) (by have := ha.few; omega) hk hr.ty ha.ty.sees hr.byte ha.byte).mono ?_
  rintro e w' ⟨A, c, rfl, h1, h2, h3, h4⟩
  exact ⟨⟨A, c, torn r.bs a.bs k⟩, rfl, ⟨⟨h1, h2, h3, torn_in hr.byte ha.byte, by have := torn_len r.bs a.bs k; have := hr.few; have := ha.few; simp only; omega⟩, rfl⟩, h4⟩
/-- a place, torn -/
def TV (v : Value) (W : World) (r a : RowV) (k : Nat) : Prop := ∃ q : RowV, v = q.val ∧ RT W q ∧ q.bs = torn r.bs a.bs k
theorem TV.next {v : Value} {W W' : World} {r a : RowV} {k : Nat} (h : TV v W r a k) (hb : Below W.heap.size W W') : TV v W' r a k := by
  obtain ⟨q, h1, h2, h3⟩ := h
  exact ⟨q, h1, h2.next hb, h3⟩
/-- while Tear runs -/
structure TQ (w wr : World) (j : Jr) : Prop where
  box : BxT wr w.heap.size j.arr 38
  res : BxT wr (w.heap.size + 1) #[.slice none 0 0, .slice none 0 0, .slice none 0 0, .slice none 0 0] 38
  in_ : j.In wr
  bel : Below w.heap.size w wr
theorem TQ.next {w wr wr' : World} {j : Jr} (h : TQ w wr j) (hb : Below wr.heap.size wr wr') : TQ w wr' j := ⟨h.box.next hb, h.res.next hb, h.in_.next hb, h.bel.trans (hb.mono h.bel.size)⟩
theorem RT.setJ {w wr : World} {j : Jr} (h : TQ w wr j) {r : RowV} (hr : RT wr r) (i : Nat) (u : Value) : RT (wr.setCell ⟨w.heap.size, i, none⟩ u) r := hr.set h.box (by decide) i u
theorem TQ.set {w wr : World} {j j' : Jr} (h : TQ w wr j) (i : Nat) (u : Value) (ha : j.arr.setIfInBounds i u = j'.arr) (hi : j'.In wr) : TQ w (wr.setCell ⟨w.heap.size, i, none⟩ u) j' :=
  ⟨by rw [← ha]; exact h.box.set i u, (Below.heap_setCell wr ⟨w.heap.size, i, none⟩ u (w.heap.size + 1) (by simp only; omega)).trans h.res, hi.set h.box (by decide) i u, h.bel.setCell (p := ⟨w.heap.size, i, none⟩) (Nat.le_refl _) u⟩
def TearF0 (X : Nat) (r a : RowV) (n : Int) (k : Nat) : Nat → Value → World → Prop
  | 0, vv, _ => vv = .int .i64 0
  | 1, vv, _ => vv = .int .i64 0
  | 2, vv, _ => vv = .pointer (some ⟨X, 0, none⟩)
  | 3, vv, _ => vv = .pointer (some ⟨X, 0, none⟩)
  | 4, vv, _ => vv = r.val
  | 5, vv, _ => vv = .int .i64 0
  | 6, vv, _ => vv = .pointer (some ⟨X, 2, none⟩)
  | 7, vv, _ => vv = .pointer (some ⟨X, 2, none⟩)
  | 8, vv, _ => vv = a.val
  | 9, vv, _ => vv = .int .i64 n
  | 10, vv, _ => vv = .int .i64 k
  | 11, vv, w' => TV vv w' r a k
  | 12, vv, _ => vv = .pointer (some ⟨X, 0, none⟩)
  | 13, vv, _ => vv = .pointer (some ⟨X, 0, none⟩)
  | _, _, _ => True
def TearF1 (X : Nat) (r a : RowV) (n : Int) (k : Nat) : Nat → Value → World → Prop
  | 0, vv, _ => vv = .int .i64 1
  | 1, vv, _ => vv = .int .i64 1
  | 2, vv, _ => vv = .pointer (some ⟨X, 0, none⟩)
  | 3, vv, _ => vv = .pointer (some ⟨X, 1, none⟩)
  | 4, vv, _ => vv = r.val
  | 5, vv, _ => vv = .int .i64 1
  | 6, vv, _ => vv = .pointer (some ⟨X, 2, none⟩)
  | 7, vv, _ => vv = .pointer (some ⟨X, 3, none⟩)
  | 8, vv, _ => vv = a.val
  | 9, vv, _ => vv = .int .i64 n
  | 10, vv, _ => vv = .int .i64 k
  | 11, vv, w' => TV vv w' r a k
  | 12, vv, _ => vv = .pointer (some ⟨X, 0, none⟩)
  | 13, vv, _ => vv = .pointer (some ⟨X, 1, none⟩)
  | _, _, _ => True

set_option maxHeartbeats 12800000 in
theorem jTear_any (j : Jr) (n : Int) (w : World) (hn : n ≤ 9223372036854775807) (hj : j.In w) : Calls Tryd.prog 16 #[j.val, .int .i64 n] w (JP w (torn j.n0.bs j.a0.bs n.toNat) (torn j.n1.bs j.a1.bs n.toNat) j.a0.bs j.a1.bs) := by
  have HM : Hid (∀ W, (Builtin.max_ #[3, 3] 3 #[.int .i64 0, .int .i64 n]).run Tryd.prog W = .ok (.int .i64 (n.toNat : Int)) W) := Lib.hid fun W => by
    rw [run_max_int2]; congr 2; split <;> omega
  have hk : n.toNat ≤ 9223372036854775807 := by omega
  generalize n.toNat = k at *
  obtain ⟨r0, r1, a0, a1⟩ := j
  unfold Jr.val Jr.arr
  simp only
  have hQ : Hid (TQ w ((w.alloc (.cells #[r0.val, r1.val, a0.val, a1.val] 38)).alloc (.cells #[.slice none 0 0, .slice none 0 0, .slice none 0 0, .slice none 0 0] 38)) ⟨r0, r1, a0, a1⟩) := Lib.hid
    ⟨(BxT.new w _ _).next below_box, by have := BxT.new (w.alloc (.cells #[r0.val, r1.val, a0.val, a1.val] 38)) #[.slice none 0 0, .slice none 0 0, .slice none 0 0, .slice none 0 0] 38; rwa [World.size_alloc] at this, (hj.next below_box).next below_box, below_two⟩
  clear hj
  go_enter Tryd.func16, Tryd.ntmps16
  go_wp2
  generalize hW0 : (w.alloc (.cells #[r0.val, r1.val, a0.val, a1.val] 38)).alloc (.cells #[.slice none 0 0, .slice none 0 0, .slice none 0 0, .slice none 0 0] 38) = w0 at hQ ⊢
  clear hW0
  refine wp_loop_rounds 3 ?_
  rw [rounds_succ]
  go_wp2
  have HA : Hid (∀ W, Below w0.heap.size w0 W → W.cell? ⟨w.heap.size, 0, none⟩ = some r0.val ∧ W.cell? ⟨w.heap.size, 2, none⟩ = some a0.val ∧ Calls Tryd.prog 31 #[r0.val, a0.val, .int .i64 k] W fun e w' => ∃ q : RowV, e = .returned q.val ∧ (RT w' q ∧ q.bs = torn r0.bs a0.bs k) ∧ Below W.heap.size W w') := Lib.hid fun W hW =>
    ⟨(hQ.out.next hW).box.bx.cell rfl, (hQ.out.next hW).box.bx.cell rfl, torn_row r0 a0 k W hk (hQ.out.in_.n0.next hW) (hQ.out.in_.a0.next hW)⟩
  refine Held.wp_region_invt 14 (TearF0 w.heap.size r0 a0 n k) (by kernel_rfl) (by kernel_rfl) ?_ ?_ ?_
  · intro i v W W' h hb
    unfold TearF0 at h ⊢
    split at h <;> first | exact h | exact TV.next h hb 
  · intro i o x W K hi ho hB hd hK
    have HX := Lib.hid (HA.out W hB)
    match i, ho with
    | 0, ho =>
      obtain rfl := Option.some.inj ho
      simp only [Inv.fill, Act.put, List.setIfInBounds_toArray, List.set_cons_zero, List.set_cons_succ, List.take_succ_cons, List.take_zero] at hK ⊢
      clear hd ho
      rw [wpOp]
      refine (if_pos rfl).mpr (.inl ?_)
      go_simp
      exact hK _ _ (Below.refl _ _) rfl
    | 1, ho =>
      obtain rfl := Option.some.inj ho
      simp only [Inv.fill, Act.put, List.setIfInBounds_toArray, List.set_cons_zero, List.set_cons_succ, List.take_succ_cons, List.take_zero] at hK ⊢
      clear hd ho
      rw [wpOp]
      refine (if_pos rfl).mpr (.inl ?_)
      go_simp
      exact hK _ _ (Below.refl _ _) rfl
    | 2, ho =>
      obtain rfl := Option.some.inj ho
      simp only [Inv.fill, Act.put, List.setIfInBounds_toArray, List.set_cons_zero, List.set_cons_succ, List.take_succ_cons, List.take_zero] at hK ⊢
      clear hd ho
      rw [wpOp]
      refine (if_pos rfl).mpr (.inl ?_)
      go_simp
      exact hK _ _ (Below.refl _ _) rfl
    | 3, ho =>
      obtain rfl := Option.some.inj ho
      have e2 : x 2 = .pointer (some ⟨w.heap.size, 0, none⟩) := hd ⟨2, .data⟩ (by simp) rfl
      have e1 : x 1 = .int .i64 0 := hd ⟨1, .data⟩ (by simp) rfl
      simp only [Inv.fill, Act.put, List.setIfInBounds_toArray, List.set_cons_zero, List.set_cons_succ, List.take_succ_cons, List.take_zero, e2, e1] at hK ⊢
      clear hd ho e2 e1
      rw [wpOp]
      refine (if_pos rfl).mpr (.inl ?_)
      go_simp
      exact hK _ _ (Below.refl _ _) rfl
    | 4, ho =>
      obtain rfl := Option.some.inj ho
      have e3 : x 3 = .pointer (some ⟨w.heap.size, 0, none⟩) := hd ⟨3, .data⟩ (by simp) rfl
      simp only [Inv.fill, Act.put, List.setIfInBounds_toArray, List.set_cons_zero, List.set_cons_succ, List.take_succ_cons, List.take_zero, e3] at hK ⊢
      clear hd ho e3
      rw [wpOp]
      refine (if_pos rfl).mpr (.inl ?_)
      have k0 := HX.out.1
      go_simp
      exact hK _ _ (Below.refl _ _) rfl
    | 5, ho =>
      obtain rfl := Option.some.inj ho
      simp only [Inv.fill, Act.put, List.setIfInBounds_toArray, List.set_cons_zero, List.set_cons_succ, List.take_succ_cons, List.take_zero] at hK ⊢
      clear hd ho
      rw [wpOp]
      refine (if_pos rfl).mpr (.inl ?_)
      go_simp
      exact hK _ _ (Below.refl _ _) rfl
    | 6, ho =>
      obtain rfl := Option.some.inj ho
      simp only [Inv.fill, Act.put, List.setIfInBounds_toArray, List.set_cons_zero, List.set_cons_succ, List.take_succ_cons, List.take_zero] at hK ⊢
      clear hd ho
      rw [wpOp]
      refine (if_pos rfl).mpr (.inl ?_)
      go_simp
      exact hK _ _ (Below.refl _ _) rfl
    | 7, ho =>
      obtain rfl := Option.some.inj ho
      have e6 : x 6 = .pointer (some ⟨w.heap.size, 2, none⟩) := hd ⟨6, .data⟩ (by simp) rfl
      have e5 : x 5 = .int .i64 0 := hd ⟨5, .data⟩ (by simp) rfl
      simp only [Inv.fill, Act.put, List.setIfInBounds_toArray, List.set_cons_zero, List.set_cons_succ, List.take_succ_cons, List.take_zero, e6, e5] at hK ⊢
      clear hd ho e6 e5
      rw [wpOp]
      refine (if_pos rfl).mpr (.inl ?_)
      go_simp
      exact hK _ _ (Below.refl _ _) rfl
    | 8, ho =>
      obtain rfl := Option.some.inj ho
      have e7 : x 7 = .pointer (some ⟨w.heap.size, 2, none⟩) := hd ⟨7, .data⟩ (by simp) rfl
      simp only [Inv.fill, Act.put, List.setIfInBounds_toArray, List.set_cons_zero, List.set_cons_succ, List.take_succ_cons, List.take_zero, e7] at hK ⊢
      clear hd ho e7
      rw [wpOp]
      refine (if_pos rfl).mpr (.inl ?_)
      have k1 := HX.out.2.1
      go_simp
      exact hK _ _ (Below.refl _ _) rfl
    | 9, ho =>
      obtain rfl := Option.some.inj ho
      simp only [Inv.fill, Act.put, List.setIfInBounds_toArray, List.set_cons_zero, List.set_cons_succ, List.take_succ_cons, List.take_zero] at hK ⊢
      clear hd ho
      rw [wpOp]
      refine (if_pos rfl).mpr (.inl ?_)
      go_simp
      exact hK _ _ (Below.refl _ _) rfl
    | 10, ho =>
      obtain rfl := Option.some.inj ho
      have e9 : x 9 = .int .i64 n := hd ⟨9, .data⟩ (by simp) rfl
      simp only [Inv.fill, Act.put, List.setIfInBounds_toArray, List.set_cons_zero, List.set_cons_succ, List.take_succ_cons, List.take_zero, e9] at hK ⊢
      clear hd ho e9
      rw [wpOp]
      refine (if_pos rfl).mpr (.inl ?_)
      have k2 := HM.out W
      go_simp
      exact hK _ _ (Below.refl _ _) rfl
    | 11, ho =>
      obtain rfl := Option.some.inj ho
      have e4 : x 4 = r0.val := hd ⟨4, .data⟩ (by simp) rfl
      have e8 : x 8 = a0.val := hd ⟨8, .data⟩ (by simp) rfl
      have e10 : x 10 = .int .i64 k := hd ⟨10, .data⟩ (by simp) rfl
      simp only [Inv.fill, Act.put, List.setIfInBounds_toArray, List.set_cons_zero, List.set_cons_succ, List.take_succ_cons, List.take_zero, e4, e8, e10] at hK ⊢
      clear hd ho e4 e8 e10
      rw [wpOp]
      refine (if_pos rfl).mpr (.inl ?_)
      have hc := HX.out.2.2
      go_simp
      refine hc.mono ?_
      rintro e w2 ⟨q, rfl, h1, h2⟩
      exact hK _ _ h2 ⟨q, rfl, h1⟩
    | 12, ho =>
      obtain rfl := Option.some.inj ho
      simp only [Inv.fill, Act.put, List.setIfInBounds_toArray, List.set_cons_zero, List.set_cons_succ, List.take_succ_cons, List.take_zero] at hK ⊢
      clear hd ho
      rw [wpOp]
      refine (if_pos rfl).mpr (.inl ?_)
      go_simp
      exact hK _ _ (Below.refl _ _) rfl
    | 13, ho =>
      obtain rfl := Option.some.inj ho
      have e12 : x 12 = .pointer (some ⟨w.heap.size, 0, none⟩) := hd ⟨12, .data⟩ (by simp) rfl
      have e0 : x 0 = .int .i64 0 := hd ⟨0, .data⟩ (by simp) rfl
      simp only [Inv.fill, Act.put, List.setIfInBounds_toArray, List.set_cons_zero, List.set_cons_succ, List.take_succ_cons, List.take_zero, e12, e0] at hK ⊢
      clear hd ho e12 e0
      rw [wpOp]
      refine (if_pos rfl).mpr (.inl ?_)
      go_simp
      exact hK _ _ (Below.refl _ _) rfl
    | n + 14, ho => exact absurd hi (by omega)
  · intro x W hB hx
    obtain ⟨r11, e11, hr11⟩ := (hx 11 (by simp) : TV (x 11) W r0 a0 k)
    have e13 : x 13 = .pointer (some ⟨w.heap.size, 0, none⟩) := hx 13 (by simp)
    simp only [Inv.fill, Act.put, List.setIfInBounds_toArray, List.set_cons_zero, List.set_cons_succ, List.take_succ_cons, List.take_zero, List.drop_succ_cons, List.drop_zero, e11, e13]
    clear hx e11 e13
    have hQ1 := Lib.hid (hQ.out.next hB)
    obtain ⟨A11, c11, z11⟩ := r11
    obtain ⟨k0, k1, k2, k3⟩ := hQ1.out.box.bx.c4
    obtain ⟨f0, f1, f2, f3⟩ := hQ1.out.box.bx.f4
    have hQ2 : Hid (TQ w (W.setCell ⟨w.heap.size, 0, none⟩ (RowV.val ⟨A11, c11, z11⟩)) ⟨⟨A11, c11, z11⟩, r1, a0, a1⟩) := Lib.hid (hQ1.out.set 0 _ rfl ⟨hr11.1, hQ1.out.in_.n1, hQ1.out.in_.a0, hQ1.out.in_.a1⟩)
    have HE := Lib.hid hr11.2
    clear hQ hB hr11 HA hQ1
    change wpList _ _ _ _ _ _
    simp only [RowV.val] at k0 k1 k2 k3 f0 f1 f2 f3 hQ2 ⊢
    go_wp2
    clear k0 k1 k2 k3 f0 f1 f2 f3
    generalize hW1 : W.setCell ⟨w.heap.size, 0, none⟩ (.slice A11 z11.length c11) = w1 at hQ2 ⊢
    clear hW1
    rw [rounds_succ]
    go_wp2
    have HA : Hid (∀ W, Below w1.heap.size w1 W → W.cell? ⟨w.heap.size, 1, none⟩ = some r1.val ∧ W.cell? ⟨w.heap.size, 3, none⟩ = some a1.val ∧ Calls Tryd.prog 31 #[r1.val, a1.val, .int .i64 k] W fun e w' => ∃ q : RowV, e = .returned q.val ∧ (RT w' q ∧ q.bs = torn r1.bs a1.bs k) ∧ Below W.heap.size W w') := Lib.hid fun W hW =>
      ⟨(hQ2.out.next hW).box.bx.cell rfl, (hQ2.out.next hW).box.bx.cell rfl, torn_row r1 a1 k W hk (hQ2.out.in_.n1.next hW) (hQ2.out.in_.a1.next hW)⟩
    refine Held.wp_region_invt 14 (TearF1 w.heap.size r1 a1 n k) (by kernel_rfl) (by kernel_rfl) ?_ ?_ ?_
    · intro i v W W' h hb
      unfold TearF1 at h ⊢
      split at h <;> first | exact h | exact TV.next h hb 
    · intro i o x W K hi ho hB hd hK
      have HX := Lib.hid (HA.out W hB)
      match i, ho with
      | 0, ho =>
        obtain rfl := Option.some.inj ho
        simp only [Inv.fill, Act.put, List.setIfInBounds_toArray, List.set_cons_zero, List.set_cons_succ, List.take_succ_cons, List.take_zero] at hK ⊢
        clear hd ho
        rw [wpOp]
        refine (if_pos rfl).mpr (.inl ?_)
        go_simp
        exact hK _ _ (Below.refl _ _) rfl
      | 1, ho =>
        obtain rfl := Option.some.inj ho
        simp only [Inv.fill, Act.put, List.setIfInBounds_toArray, List.set_cons_zero, List.set_cons_succ, List.take_succ_cons, List.take_zero] at hK ⊢
        clear hd ho
        rw [wpOp]
        refine (if_pos rfl).mpr (.inl ?_)
        go_simp
        exact hK _ _ (Below.refl _ _) rfl
      | 2, ho =>
        obtain rfl := Option.some.inj ho
        simp only [Inv.fill, Act.put, List.setIfInBounds_toArray, List.set_cons_zero, List.set_cons_succ, List.take_succ_cons, List.take_zero] at hK ⊢
        clear hd ho
        rw [wpOp]
        refine (if_pos rfl).mpr (.inl ?_)
        go_simp
        exact hK _ _ (Below.refl _ _) rfl
      | 3, ho =>
        obtain rfl := Option.some.inj ho
        have e2 : x 2 = .pointer (some ⟨w.heap.size, 0, none⟩) := hd ⟨2, .data⟩ (by simp) rfl
        have e1 : x 1 = .int .i64 1 := hd ⟨1, .data⟩ (by simp) rfl
        simp only [Inv.fill, Act.put, List.setIfInBounds_toArray, List.set_cons_zero, List.set_cons_succ, List.take_succ_cons, List.take_zero, e2, e1] at hK ⊢
        clear hd ho e2 e1
        rw [wpOp]
        refine (if_pos rfl).mpr (.inl ?_)
        go_simp
        exact hK _ _ (Below.refl _ _) rfl
      | 4, ho =>
        obtain rfl := Option.some.inj ho
        have e3 : x 3 = .pointer (some ⟨w.heap.size, 1, none⟩) := hd ⟨3, .data⟩ (by simp) rfl
        simp only [Inv.fill, Act.put, List.setIfInBounds_toArray, List.set_cons_zero, List.set_cons_succ, List.take_succ_cons, List.take_zero, e3] at hK ⊢
        clear hd ho e3
        rw [wpOp]
        refine (if_pos rfl).mpr (.inl ?_)
        have k0 := HX.out.1
        go_simp
        exact hK _ _ (Below.refl _ _) rfl
      | 5, ho =>
        obtain rfl := Option.some.inj ho
        simp only [Inv.fill, Act.put, List.setIfInBounds_toArray, List.set_cons_zero, List.set_cons_succ, List.take_succ_cons, List.take_zero] at hK ⊢
        clear hd ho
        rw [wpOp]
        refine (if_pos rfl).mpr (.inl ?_)
        go_simp
        exact hK _ _ (Below.refl _ _) rfl
      | 6, ho =>
        obtain rfl := Option.some.inj ho
        simp only [Inv.fill, Act.put, List.setIfInBounds_toArray, List.set_cons_zero, List.set_cons_succ, List.take_succ_cons, List.take_zero] at hK ⊢
        clear hd ho
        rw [wpOp]
        refine (if_pos rfl).mpr (.inl ?_)
        go_simp
        exact hK _ _ (Below.refl _ _) rfl
      | 7, ho =>
        obtain rfl := Option.some.inj ho
        have e6 : x 6 = .pointer (some ⟨w.heap.size, 2, none⟩) := hd ⟨6, .data⟩ (by simp) rfl
        have e5 : x 5 = .int .i64 1 := hd ⟨5, .data⟩ (by simp) rfl
        simp only [Inv.fill, Act.put, List.setIfInBounds_toArray, List.set_cons_zero, List.set_cons_succ, List.take_succ_cons, List.take_zero, e6, e5] at hK ⊢
        clear hd ho e6 e5
        rw [wpOp]
        refine (if_pos rfl).mpr (.inl ?_)
        go_simp
        exact hK _ _ (Below.refl _ _) rfl
      | 8, ho =>
        obtain rfl := Option.some.inj ho
        have e7 : x 7 = .pointer (some ⟨w.heap.size, 3, none⟩) := hd ⟨7, .data⟩ (by simp) rfl
        simp only [Inv.fill, Act.put, List.setIfInBounds_toArray, List.set_cons_zero, List.set_cons_succ, List.take_succ_cons, List.take_zero, e7] at hK ⊢
        clear hd ho e7
        rw [wpOp]
        refine (if_pos rfl).mpr (.inl ?_)
        have k1 := HX.out.2.1
        go_simp
        exact hK _ _ (Below.refl _ _) rfl
      | 9, ho =>
        obtain rfl := Option.some.inj ho
        simp only [Inv.fill, Act.put, List.setIfInBounds_toArray, List.set_cons_zero, List.set_cons_succ, List.take_succ_cons, List.take_zero] at hK ⊢
        clear hd ho
        rw [wpOp]
        refine (if_pos rfl).mpr (.inl ?_)
        go_simp
        exact hK _ _ (Below.refl _ _) rfl
      | 10, ho =>
        obtain rfl := Option.some.inj ho
        have e9 : x 9 = .int .i64 n := hd ⟨9, .data⟩ (by simp) rfl
        simp only [Inv.fill, Act.put, List.setIfInBounds_toArray, List.set_cons_zero, List.set_cons_succ, List.take_succ_cons, List.take_zero, e9] at hK ⊢
        clear hd ho e9
        rw [wpOp]
        refine (if_pos rfl).mpr (.inl ?_)
        have k2 := HM.out W
        go_simp
        exact hK _ _ (Below.refl _ _) rfl
      | 11, ho =>
        obtain rfl := Option.some.inj ho
        have e4 : x 4 = r1.val := hd ⟨4, .data⟩ (by simp) rfl
        have e8 : x 8 = a1.val := hd ⟨8, .data⟩ (by simp) rfl
        have e10 : x 10 = .int .i64 k := hd ⟨10, .data⟩ (by simp) rfl
        simp only [Inv.fill, Act.put, List.setIfInBounds_toArray, List.set_cons_zero, List.set_cons_succ, List.take_succ_cons, List.take_zero, e4, e8, e10] at hK ⊢
        clear hd ho e4 e8 e10
        rw [wpOp]
        refine (if_pos rfl).mpr (.inl ?_)
        have hc := HX.out.2.2
        go_simp
        refine hc.mono ?_
        rintro e w2 ⟨q, rfl, h1, h2⟩
        exact hK _ _ h2 ⟨q, rfl, h1⟩
      | 12, ho =>
        obtain rfl := Option.some.inj ho
        simp only [Inv.fill, Act.put, List.setIfInBounds_toArray, List.set_cons_zero, List.set_cons_succ, List.take_succ_cons, List.take_zero] at hK ⊢
        clear hd ho
        rw [wpOp]
        refine (if_pos rfl).mpr (.inl ?_)
        go_simp
        exact hK _ _ (Below.refl _ _) rfl
      | 13, ho =>
        obtain rfl := Option.some.inj ho
        have e12 : x 12 = .pointer (some ⟨w.heap.size, 0, none⟩) := hd ⟨12, .data⟩ (by simp) rfl
        have e0 : x 0 = .int .i64 1 := hd ⟨0, .data⟩ (by simp) rfl
        simp only [Inv.fill, Act.put, List.setIfInBounds_toArray, List.set_cons_zero, List.set_cons_succ, List.take_succ_cons, List.take_zero, e12, e0] at hK ⊢
        clear hd ho e12 e0
        rw [wpOp]
        refine (if_pos rfl).mpr (.inl ?_)
        go_simp
        exact hK _ _ (Below.refl _ _) rfl
      | n + 14, ho => exact absurd hi (by omega)
    · intro x W hB hx
      obtain ⟨r12, e11, hr12⟩ := (hx 11 (by simp) : TV (x 11) W r1 a1 k)
      have e13 : x 13 = .pointer (some ⟨w.heap.size, 1, none⟩) := hx 13 (by simp)
      simp only [Inv.fill, Act.put, List.setIfInBounds_toArray, List.set_cons_zero, List.set_cons_succ, List.take_succ_cons, List.take_zero, List.drop_succ_cons, List.drop_zero, e11, e13]
      clear hx e11 e13
      have hQ3 := Lib.hid (hQ2.out.next hB)
      obtain ⟨A12, c12, z12⟩ := r12
      obtain ⟨A20, c20, z20⟩ := a0
      obtain ⟨A21, c21, z21⟩ := a1
      obtain ⟨k0, k1, k2, k3⟩ := hQ3.out.box.bx.c4
      obtain ⟨f0, f1, f2, f3⟩ := hQ3.out.box.bx.f4
      have hQ4 : Hid (TQ w (W.setCell ⟨w.heap.size, 1, none⟩ (RowV.val ⟨A12, c12, z12⟩)) ⟨⟨A11, c11, z11⟩, ⟨A12, c12, z12⟩, ⟨A20, c20, z20⟩, ⟨A21, c21, z21⟩⟩) := Lib.hid (hQ3.out.set 1 _ rfl ⟨hQ3.out.in_.n0, hr12.1, hQ3.out.in_.a0, hQ3.out.in_.a1⟩)
      have HE2 := Lib.hid hr12.2
      clear hQ2 hB hr12 HA hQ3
      change wpList _ _ _ _ _ _
      simp only [RowV.val] at k0 k1 k2 k3 f0 f1 f2 f3 hQ4 ⊢
      go_wp2
      clear k0 k1 k2 k3 f0 f1 f2 f3
      generalize hW2 : W.setCell ⟨w.heap.size, 1, none⟩ (.slice A12 z12.length c12) = w2 at hQ4 ⊢
      clear hW2
      rw [rounds_succ]
      obtain ⟨k0, k1, k2, k3⟩ := hQ4.out.box.bx.c4
      obtain ⟨g0, g1, g2, g3⟩ := hQ4.out.res.bx.c4
      obtain ⟨f0, f1, f2, f3⟩ := hQ4.out.res.bx.f4
      simp only [RowV.val] at k0 k1 k2 k3
      go_wp2
      have hR := set4 (x := .slice A11 z11.length c11) (y := .slice A12 z12.length c12) (z := .slice A20 z20.length c20) (u := .slice A21 z21.length c21) hQ4.out.res
      have hin := in4 hQ4.out.in_ hQ4.out.res (by decide) (.slice A11 z11.length c11) (.slice A12 z12.length c12) (.slice A20 z20.length c20) (.slice A21 z21.length c21)
      obtain ⟨m0, m1, m2, m3⟩ := hR.bx.c4
      refine bodyPost_ret (v := .agg #[.slice A11 z11.length c11, .slice A12 z12.length c12, .slice A20 z20.length c20, .slice A21 z21.length c21]) (by simp [results, Tryd.results16, go_sem, m0, m1, m2, m3]) rfl ⟨_, rfl, hin, ⟨HE.out, HE2.out, rfl, rfl⟩, below4 hQ4.out.bel (by omega) _ _ _ _⟩

end Go.Proofs.YtjedkkkhficmoaaDoor.Jrn

/- The contract of Write. -/
namespace Go.Proofs.YtjedkkkhficmoaaDoor.Jrn
open Go.RowKit Go.Proofs.YtjedkkkhficmoaaDoor.Plain Go.Proofs.YtjedkkkhficmoaaDoor.Sees Go.Proofs.YtjedkkkhficmoaaDoor.Oct Go.Proofs.YtjedkkkhficmoaaDoor.Crc Go.Proofs.YtjedkkkhficmoaaDoor.Box Go.Proofs.YtjedkkkhficmoaaDoor.Held Go.Proofs.YtjedkkkhficmoaaDoor.JrnP Go.Proofs.YtjedkkkhficmoaaDoor.Open Go.Proofs.YtjedkkkhficmoaaDoor.LgrP
set_option linter.unusedVariables false
set_option maxRecDepth 100000

/-- the number of the next write, and both places behind it -/
def nxt (z0 z1 : List Int) : Int := u ((JrnP.load z0 z1).s + 1)
def wr0 (z0 z1 : List Int) (b m : Int) (l : List Pm) : List Int := if nxt z0 z1 % 2 = 0 then put b m l (nxt z0 z1) else z0
def wr1 (z0 z1 : List Int) (b m : Int) (l : List Pm) : List Int := if nxt z0 z1 % 2 = 0 then z1 else put b m l (nxt z0 z1)
theorem put_row (x : Lg) (s : Int) (w : World) (hx : x.In w) (hl : x.l.length ≤ 100) (hs : 0 ≤ s ∧ s ≤ 18446744073709551615) (ht : Tab w) :
    Calls Tryd.prog 30 #[x.val, .int .u64 s] w fun e w' => ∃ q : RowV, e = .returned q.val ∧ (RT w' q ∧ q.bs = put x.b x.m x.l s) ∧ Below w.heap.size w w' := by
  refine (jPut_any x s _ w hx hl rfl hs ht).mono ?_
  rintro e w' ⟨A, c, rfl, h1, h2, h3⟩
  have hl2 := put_len x.b x.m x.l s
  exact ⟨⟨A, c, put x.b x.m x.l s⟩, by rw [RowV.val]; simp only [hl2], ⟨⟨by simp only; omega, h1.2, h2, put_in _ _ _ _, by simp only; omega⟩, rfl⟩, h3⟩
/-- a place, put -/
def PV (v : Value) (W : World) (bs : List Int) : Prop := ∃ q : RowV, v = q.val ∧ RT W q ∧ q.bs = bs
theorem PV.next {v : Value} {W W' : World} {bs : List Int} (h : PV v W bs) (hb : Below W.heap.size W W') : PV v W' bs := by
  obtain ⟨q, h1, h2, h3⟩ := h
  exact ⟨q, h1, h2.next hb, h3⟩
/-- while Write runs -/
structure WQ (w wr : World) (ja la : Array Value) : Prop where
  box : BxT wr w.heap.size ja 38
  lbx : BxT wr (w.heap.size + 1) la 32
  res : BxT wr (w.heap.size + 1 + 1) #[.slice none 0 0, .slice none 0 0, .slice none 0 0, .slice none 0 0] 38
  bel : Below w.heap.size w wr
theorem WQ.next {w wr wr' : World} {ja la : Array Value} (h : WQ w wr ja la) (hb : Below wr.heap.size wr wr') : WQ w wr' ja la := ⟨h.box.next hb, h.lbx.next hb, h.res.next hb, h.bel.trans (hb.mono h.bel.size)⟩
theorem WQ.set {w wr : World} {ja ja' la : Array Value} (h : WQ w wr ja la) (i : Nat) (u : Value) (ha : ja.setIfInBounds i u = ja') : WQ w (wr.setCell ⟨w.heap.size, i, none⟩ u) ja' la :=
  ⟨by rw [← ha]; exact h.box.set i u, (Below.heap_setCell wr ⟨w.heap.size, i, none⟩ u (w.heap.size + 1) (by simp only; omega)).trans h.lbx, (Below.heap_setCell wr ⟨w.heap.size, i, none⟩ u (w.heap.size + 1 + 1) (by simp only; omega)).trans h.res, h.bel.setCell (p := ⟨w.heap.size, i, none⟩) (Nat.le_refl _) u⟩

set_option maxHeartbeats 12800000 in
theorem jWrite_any (j : Jr) (x : Lg) (w : World) (ht : Tab w) (hj : j.In w) (hx : x.In w) (hl : x.l.length ≤ 100) : Calls Tryd.prog 15 #[j.val, x.val] w (JP w (wr0 j.n0.bs j.n1.bs x.b x.m x.l) (wr1 j.n0.bs j.n1.bs x.b x.m x.l) j.n0.bs j.n1.bs) := by
  obtain ⟨s', hs'⟩ : ∃ s', nxt j.n0.bs j.n1.bs = s' := ⟨_, rfl⟩
  have hsb : 0 ≤ s' ∧ s' ≤ 18446744073709551615 := by rw [← hs']; exact u_in _
  have HL : Hid (∀ W, Below w.heap.size w W → Calls Tryd.prog 19 #[j.val] W (LP W (JrnP.load j.n0.bs j.n1.bs))) := Lib.hid fun W hW => jLoad_any j W (ht.next hW) (hj.next hW)
  have HP : Hid (∀ W, Below w.heap.size w W → Calls Tryd.prog 30 #[x.val, .int .u64 s'] W fun e w' => ∃ q : RowV, e = .returned q.val ∧ (RT w' q ∧ q.bs = put x.b x.m x.l s') ∧ Below W.heap.size W w') := Lib.hid fun W hW => put_row x s' W (hx.next hW) hl hsb (ht.next hW)
  have HJ := Lib.hid hj
  have HW : Hid ((s' % 2 = 0 → wr0 j.n0.bs j.n1.bs x.b x.m x.l = put x.b x.m x.l s' ∧ wr1 j.n0.bs j.n1.bs x.b x.m x.l = j.n1.bs) ∧ (s' % 2 = 1 → wr0 j.n0.bs j.n1.bs x.b x.m x.l = j.n0.bs ∧ wr1 j.n0.bs j.n1.bs x.b x.m x.l = put x.b x.m x.l s')) := Lib.hid ⟨fun h => by unfold wr0 wr1; rw [hs', if_pos h, if_pos h]; exact ⟨rfl, rfl⟩, fun h => by unfold wr0 wr1; rw [hs', if_neg (by omega), if_neg (by omega)]; exact ⟨rfl, rfl⟩⟩
  unfold nxt at hs'
  generalize wr0 j.n0.bs j.n1.bs x.b x.m x.l = o0 at *
  generalize wr1 j.n0.bs j.n1.bs x.b x.m x.l = o1 at *
  generalize put x.b x.m x.l s' = pb at *
  obtain ⟨⟨A0, c0, z0⟩, ⟨A1, c1, z1⟩, ⟨A2, c2, z2⟩, ⟨A3, c3, z3⟩⟩ := j
  unfold Jr.val Jr.arr RowV.val at HL ⊢
  simp only at HL HW hs' ⊢
  generalize JrnP.load z0 z1 = g at *
  obtain ⟨fe, fb, fm, fl, fs⟩ := g
  simp only at hs'
  have e1 : IntKind.u64.wrap (fs + 1) = s' := by rw [IntKind.wrap_u64]; exact hs'
  obtain ⟨b, m, k, A, cap, l⟩ := x
  unfold Lg.val at HP ⊢
  simp only at hl HP ⊢
  obtain ⟨nf, hnf⟩ : ∃ nf, fl.length = nf := ⟨_, rfl⟩
  obtain ⟨n, hn⟩ : ∃ n, l.length = n := ⟨_, rfl⟩
  rw [hn] at HP ⊢
  have HLP : Hid (∀ W, Below w.heap.size w W → Calls Tryd.prog 19 #[.agg #[.slice A0 z0.length c0, .slice A1 z1.length c1, .slice A2 z2.length c2, .slice A3 z3.length c3]] W fun e w' => ∃ A' c', e = .returned (.tuple #[.agg #[.int .i64 fb, .int .i64 fm, .int .i64 0, .slice A' nf c'], .int .u64 fs, .bool (decide (0 < fs))]) ∧ Below W.heap.size W w') := Lib.hid fun W hW => (HL.out W hW).mono fun e w' ⟨A', c', h1, _, _, _, h5⟩ => ⟨A', c', by rw [h1]; simp only [hnf], h5⟩
  clear HL hs' hl hn hnf hx hj ht
  have hQ : Hid (WQ w (((w.alloc (.cells #[.slice A0 z0.length c0, .slice A1 z1.length c1, .slice A2 z2.length c2, .slice A3 z3.length c3] 38)).alloc (.cells #[.int .i64 b, .int .i64 m, .int .i64 k, .slice A n cap] 32)).alloc (.cells #[.slice none 0 0, .slice none 0 0, .slice none 0 0, .slice none 0 0] 38)) #[.slice A0 z0.length c0, .slice A1 z1.length c1, .slice A2 z2.length c2, .slice A3 z3.length c3] #[.int .i64 b, .int .i64 m, .int .i64 k, .slice A n cap]) := Lib.hid
    ⟨((BxT.new w _ _).next below_box).next below_box, by have := (BxT.new (w.alloc (.cells #[.slice A0 z0.length c0, .slice A1 z1.length c1, .slice A2 z2.length c2, .slice A3 z3.length c3] 38)) #[.int .i64 b, .int .i64 m, .int .i64 k, .slice A n cap] 32).next (below_box (o := .cells #[.slice none 0 0, .slice none 0 0, .slice none 0 0, .slice none 0 0] 38)); rwa [World.size_alloc] at this, by have := BxT.new ((w.alloc (.cells #[.slice A0 z0.length c0, .slice A1 z1.length c1, .slice A2 z2.length c2, .slice A3 z3.length c3] 38)).alloc (.cells #[.int .i64 b, .int .i64 m, .int .i64 k, .slice A n cap] 32)) #[.slice none 0 0, .slice none 0 0, .slice none 0 0, .slice none 0 0] 38; rwa [World.size_alloc, World.size_alloc] at this, below_more below_two below_box (by simp)⟩
  obtain ⟨a0, a1, a2, a3⟩ := hQ.out.box.bx.c4
  have ways : s' % 2 = 0 ∨ s' % 2 = 1 := by omega
  rcases ways with hp | hp
  · have HR := Lib.hid (HW.out.1 hp)
    clear HW
    go_enter Tryd.func15, Tryd.ntmps15
    go_wp2_with (first
      | (go_at_call 19; go_must ((with_reducible refine (HLP.out _ hQ.out.bel).mono ?_); clear HLP; rintro e w1 ⟨A4, c4, rfl, h1⟩; have hQ1 := Lib.hid ((hQ.out.next h1).next (below_box (o := .cells #[.int .i64 fb, .int .i64 fm, .int .i64 0, .slice A4 nf c4] 32))); obtain ⟨k0, k1, k2, k3⟩ := hQ1.out.box.bx.c4; obtain ⟨f0, f1, f2, f3⟩ := hQ1.out.box.bx.f4; obtain ⟨l0, l1, l2, l3⟩ := hQ1.out.lbx.bx.c4; clear h1 a0 a1 a2 a3))
      | (go_at_call 30; go_must (have hQ2 := Lib.hid ((hQ1.out.set 2 (.slice A0 z0.length c0) rfl).set 3 (.slice A1 z1.length c1) rfl); clear k0 k1 k2 k3 f0 f1 f2 f3 l0 l1 l2 l3 hQ1; (with_reducible refine (HP.out _ hQ2.out.bel).mono ?_); clear HP; rintro e w2 ⟨⟨A5, c5, z5⟩, rfl, ⟨hr5, he5⟩, h2⟩; have hQ3 := Lib.hid (hQ2.out.next h2); have HR5 := Lib.hid hr5; have HE5 := Lib.hid he5; obtain ⟨k0, k1, k2, k3⟩ := hQ3.out.box.bx.c4; obtain ⟨f0, f1, f2, f3⟩ := hQ3.out.box.bx.f4; obtain ⟨l0, l1, l2, l3⟩ := hQ3.out.res.bx.c4; obtain ⟨m0, m1, m2, m3⟩ := hQ3.out.res.bx.f4; clear hr5 he5 h2 hQ2; simp only [RowV.val])))
    have hQ4 := hQ3.out.set 0 (.slice A5 z5.length c5) rfl
    have hin : Jr.In (w2.setCell ⟨w.heap.size, 0, none⟩ (.slice A5 z5.length c5)) ⟨⟨A5, c5, z5⟩, ⟨A1, c1, z1⟩, ⟨A0, c0, z0⟩, ⟨A1, c1, z1⟩⟩ := Jr.In.set (r := ⟨⟨A5, c5, z5⟩, ⟨A1, c1, z1⟩, ⟨A0, c0, z0⟩, ⟨A1, c1, z1⟩⟩) ⟨HR5.out, HJ.out.n1.next hQ3.out.bel, HJ.out.n0.next hQ3.out.bel, HJ.out.n1.next hQ3.out.bel⟩ hQ3.out.box (by decide) 0 _
    have hR := set4 (x := (.slice A5 z5.length c5)) (y := (.slice A1 z1.length c1)) (z := (.slice A0 z0.length c0)) (u := (.slice A1 z1.length c1)) hQ4.res
    have hin2 := in4 hin hQ4.res (by decide) (.slice A5 z5.length c5) (.slice A1 z1.length c1) (.slice A0 z0.length c0) (.slice A1 z1.length c1)
    obtain ⟨q0, q1, q2, q3⟩ := hR.bx.c4
    refine bodyPost_ret (v := .agg #[.slice A5 z5.length c5, .slice A1 z1.length c1, .slice A0 z0.length c0, .slice A1 z1.length c1]) (by simp [results, Tryd.results15, go_sem, q0, q1, q2, q3]) rfl ⟨_, rfl, hin2, ⟨HE5.out.trans HR.out.1.symm, HR.out.2.symm, rfl, rfl⟩, below4 hQ4.bel (by omega) _ _ _ _⟩
  · have HR := Lib.hid (HW.out.2 hp)
    clear HW
    go_enter Tryd.func15, Tryd.ntmps15
    go_wp2_with (first
      | (go_at_call 19; go_must ((with_reducible refine (HLP.out _ hQ.out.bel).mono ?_); clear HLP; rintro e w1 ⟨A4, c4, rfl, h1⟩; have hQ1 := Lib.hid ((hQ.out.next h1).next (below_box (o := .cells #[.int .i64 fb, .int .i64 fm, .int .i64 0, .slice A4 nf c4] 32))); obtain ⟨k0, k1, k2, k3⟩ := hQ1.out.box.bx.c4; obtain ⟨f0, f1, f2, f3⟩ := hQ1.out.box.bx.f4; obtain ⟨l0, l1, l2, l3⟩ := hQ1.out.lbx.bx.c4; clear h1 a0 a1 a2 a3))
      | (go_at_call 30; go_must (have hQ2 := Lib.hid ((hQ1.out.set 2 (.slice A0 z0.length c0) rfl).set 3 (.slice A1 z1.length c1) rfl); clear k0 k1 k2 k3 f0 f1 f2 f3 l0 l1 l2 l3 hQ1; (with_reducible refine (HP.out _ hQ2.out.bel).mono ?_); clear HP; rintro e w2 ⟨⟨A5, c5, z5⟩, rfl, ⟨hr5, he5⟩, h2⟩; have hQ3 := Lib.hid (hQ2.out.next h2); have HR5 := Lib.hid hr5; have HE5 := Lib.hid he5; obtain ⟨k0, k1, k2, k3⟩ := hQ3.out.box.bx.c4; obtain ⟨f0, f1, f2, f3⟩ := hQ3.out.box.bx.f4; obtain ⟨l0, l1, l2, l3⟩ := hQ3.out.res.bx.c4; obtain ⟨m0, m1, m2, m3⟩ := hQ3.out.res.bx.f4; clear hr5 he5 h2 hQ2; simp only [RowV.val])))
    have hQ4 := hQ3.out.set 1 (.slice A5 z5.length c5) rfl
    have hin : Jr.In (w2.setCell ⟨w.heap.size, 1, none⟩ (.slice A5 z5.length c5)) ⟨⟨A0, c0, z0⟩, ⟨A5, c5, z5⟩, ⟨A0, c0, z0⟩, ⟨A1, c1, z1⟩⟩ := Jr.In.set (r := ⟨⟨A0, c0, z0⟩, ⟨A5, c5, z5⟩, ⟨A0, c0, z0⟩, ⟨A1, c1, z1⟩⟩) ⟨HJ.out.n0.next hQ3.out.bel, HR5.out, HJ.out.n0.next hQ3.out.bel, HJ.out.n1.next hQ3.out.bel⟩ hQ3.out.box (by decide) 1 _
    have hR := set4 (x := (.slice A0 z0.length c0)) (y := (.slice A5 z5.length c5)) (z := (.slice A0 z0.length c0)) (u := (.slice A1 z1.length c1)) hQ4.res
    have hin2 := in4 hin hQ4.res (by decide) (.slice A0 z0.length c0) (.slice A5 z5.length c5) (.slice A0 z0.length c0) (.slice A1 z1.length c1)
    obtain ⟨q0, q1, q2, q3⟩ := hR.bx.c4
    refine bodyPost_ret (v := .agg #[.slice A0 z0.length c0, .slice A5 z5.length c5, .slice A0 z0.length c0, .slice A1 z1.length c1]) (by simp [results, Tryd.results15, go_sem, q0, q1, q2, q3]) rfl ⟨_, rfl, hin2, ⟨HR.out.1.symm, HE5.out.trans HR.out.2.symm, rfl, rfl⟩, below4 hQ4.bel (by omega) _ _ _ _⟩

end Go.Proofs.YtjedkkkhficmoaaDoor.Jrn

/- The reference's Same: of two ledgers that are the same it answers true. -/
namespace Go.Proofs.YtjedkkkhficmoaaDoor.Jrn
open Go.RowKit Go.Proofs.YtjedkkkhficmoaaDoor.Plain Go.Proofs.YtjedkkkhficmoaaDoor.Sees Go.Proofs.YtjedkkkhficmoaaDoor.Oct Go.Proofs.YtjedkkkhficmoaaDoor.Crc Go.Proofs.YtjedkkkhficmoaaDoor.Box Go.Proofs.YtjedkkkhficmoaaDoor.Held Go.Proofs.YtjedkkkhficmoaaDoor.JrnP Go.Proofs.YtjedkkkhficmoaaDoor.Open Go.Proofs.YtjedkkkhficmoaaDoor.LgrP
set_option linter.unusedVariables false
set_option maxRecDepth 100000

theorem neq_rp (c p : Int) : ∀ W, (Go.binOp .neq 73 (.agg #[.int .i64 c, .int .i64 p]) (.agg #[.int .i64 c, .int .i64 p])).run Tryd.prog W = .ok (.bool false) W := by
  intro W
  simp [go_sem, Tryd.underlying73, Tryd.underlying3]

set_option maxHeartbeats 6400000 in
theorem same_any (x y : Lg) (w : World) (hx : x.In w) (hy : y.In w) (hxl : x.l.length ≤ 100) (hb : y.b = x.b) (hm : y.m = x.m) (hk : y.k = x.k) (hl : y.l = x.l) :
    Calls Tryd.prog 12 #[x.val, y.val] w fun e w' => e = .returned (.bool true) ∧ Below w.heap.size w w' := by
  obtain ⟨_, _, hsx⟩ := hx
  obtain ⟨_, _, hsy⟩ := hy
  obtain ⟨b, m, k, A, cap, l⟩ := x
  obtain ⟨b', m', k', A', cap', l'⟩ := y
  simp only at hb hm hk hl hsx hsy hxl
  subst hb hm hk hl
  unfold Lg.val
  simp only
  obtain ⟨n, hn⟩ : ∃ n, l'.length = n := ⟨_, rfl⟩
  rw [hn] at hxl ⊢
  have HN := Lib.hid hn
  have HX := Lib.hid hsx
  have HY := Lib.hid hsy
  have hj := Lib.hid ((J.one w #[.int .i64 b', .int .i64 m', .int .i64 k', .slice A n cap] 42).push #[.int .i64 b', .int .i64 m', .int .i64 k', .slice A' n cap'] 42)
  simp only [World.size_alloc] at hj
  obtain ⟨a0, a1, a2, a3⟩ := (hj.out.bx 0 rfl).c4
  obtain ⟨b0, b1, b2, b3⟩ := (hj.out.bx 1 rfl).c4
  clear hn hsx hsy
  go_enter Tryd.func12, Tryd.ntmps12
  go_wp2
  clear a0 a1 a2 a3 b0 b1 b2 b3
  go_loopw [5] (fun i wr => ∃ q : Nat, q ≤ n ∧ i = .int .i64 q ∧ Hid (J w wr [(w.heap.size + 1, #[.int .i64 b', .int .i64 m', .int .i64 k', .slice A' n cap']), (w.heap.size, #[.int .i64 b', .int .i64 m', .int .i64 k', .slice A n cap])])) (fun i _ => n - (intOf i).toNat)
  case atStart => exact ⟨0, Nat.zero_le _, rfl, hj⟩
  case round =>
    obtain ⟨q, hq, rfl, hjr⟩ := hrel
    clear hj
    obtain ⟨a0, a1, a2, a3⟩ := (hjr.out.bx 0 rfl).c4
    obtain ⟨b0, b1, b2, b3⟩ := (hjr.out.bx 1 rfl).c4
    by_cases hlt : q < n
    · obtain ⟨p, bb, o, hp, rfl, hbb, c0, c1⟩ := pm_at (HX.out.below hjr.out.below (Nat.le_refl _)) (i := q) (by rw [HN.out]; exact hlt)
      obtain ⟨p', bb', o', hp', rfl, hbb', d0, d1⟩ := pm_at (HY.out.below hjr.out.below (Nat.le_refl _)) (i := q) (by rw [HN.out]; exact hlt)
      obtain rfl : p' = p := Option.some.inj (hp'.symm.trans hp)
      obtain ⟨pc, pp⟩ := p'
      simp only at c0 c1 d0 d1
      have i1 : (q : Int) < (n : Int) := by omega
      have e3 : IntKind.i64.wrap ((q : Int) + 1) = ((q + 1 : Nat) : Int) := by rw [IntWalk.i64_in _ (by omega)]; rfl
      have HLT := Lib.hid hlt
      have nq := neq_rp pc pp
      have hjS : Hid (JS wr [] wr) := Lib.hid (J.start wr)
      have hmx : Tryd.prog.follows .mixedOrders = true := by kernel_rfl
      have hwr : w.heap.size + 1 < wr.heap.size := (hjr.out.bx 0 rfl).lt
      have hbb2 : bb < wr.heap.size := by omega
      have hbb3 : bb' < wr.heap.size := by omega
      clear hp hp' hlt a0 a1 a2 b0 b1 b2
      go_wp2
      refine wp_region_tail 10 _ JS.closed hjS.out hmx (by kernel_rfl) ?_
      simp only [List.take_succ_cons, List.take_zero, List.drop_succ_cons, List.drop_zero]
      apply Exists.intro
      refine ⟨fun w10 h10 => ?_, fun W1 hJ1 hB1 => ?_⟩
      · haveI := Ext.some h10
        have q0 := ext_old h10 (a := ⟨w.heap.size + 1, 3, none⟩) hwr a3
        have q1 := ext_old h10 (a := ⟨w.heap.size, 3, none⟩) (by simp only; omega) b3
        have q2 := ext_old h10 (a := ⟨bb, o + q * 2, none⟩) hbb2 c0
        have q3 := ext_old h10 (a := ⟨bb, o + q * 2 + 1, none⟩) hbb2 c1
        have q4 := ext_old h10 (a := ⟨bb', o' + q * 2, none⟩) hbb3 d0
        have q5 := ext_old h10 (a := ⟨bb', o' + q * 2 + 1, none⟩) hbb3 d1
        repeat go_big_quiet_step (fail)
        exact wpQuiet_nil rfl
      have hj1 := Lib.hid (hjr.out.next hB1)
      clear a3 b3 c0 c1 d0 d1 hJ1 hB1 hjS hjr
      change wpList _ _ _ _ _ _
      go_wp2
      go_roundw
      case rel => exact ⟨q + 1, by omega, rfl, hj1⟩
      case measure => have := HLT.out; simp [intOf]; omega
    · obtain rfl : q = n := by omega
      go_wp2
      go_ret
      exact ⟨rfl, hjr.out.below⟩

end Go.Proofs.YtjedkkkhficmoaaDoor.Jrn

/- Plain: what is told of two places behind writes. -/
namespace Go.Proofs.YtjedkkkhficmoaaDoor.Jrn
open Go.RowKit Go.Proofs.YtjedkkkhficmoaaDoor.Plain Go.Proofs.YtjedkkkhficmoaaDoor.Oct Go.Proofs.YtjedkkkhficmoaaDoor.Crc Go.Proofs.YtjedkkkhficmoaaDoor.JrnP Go.Proofs.YtjedkkkhficmoaaDoor.Open Go.Proofs.YtjedkkkhficmoaaDoor.LgrP
set_option linter.unusedVariables false
set_option maxRecDepth 100000

/-- bytes -/
def By (z : List Int) : Prop := ∀ b ∈ z, 0 ≤ b ∧ b ≤ 255
theorem By.nil : By [] := fun b h => by cases h
theorem parts_head {bs r0 : List Int} {rs : List (List Int)} (hb : By bs) (h : parts bs = some (r0 :: rs)) : ∃ N : Nat, r0 = (bs.drop 2).take N ∧ r0.length = N ∧ 2 + N ≤ bs.length ∧ parts (bs.drop (2 + N)) = some rs := by
  by_cases h0 : bs.length = 0
  · have : bs = [] := List.eq_nil_of_length_eq_zero h0
    subst this
    rw [parts_nil] at h
    cases h
  · by_cases h1 : bs.length = 1
    · rw [parts_one bs h1] at h; cases h
    · obtain ⟨N, hN, _⟩ := ofB_two bs (by omega) hb
      rw [parts_step bs N (by omega) hN] at h
      by_cases hf : bs.length < 2 + N
      · rw [if_pos hf] at h; cases h
      · rw [if_neg hf] at h
        rcases hq : parts (bs.drop (2 + N)) with _ | qs
        · rw [hq] at h; cases h
        · rw [hq] at h
          injection h with h
          injection h with h2 h3
          subst h2 h3
          exact ⟨N, rfl, by simp; omega, by omega, hq⟩
theorem opn_take {z pre : List Int} (h : opn z = some pre) : 4 ≤ z.length ∧ pre = z.take (z.length - 4) := by
  unfold opn at h
  split at h
  · rename_i hc
    injection h with h
    exact ⟨hc.1, h.symm⟩
  · cases h
/-- whose sum is theirs, and whose rows are a ledger's -/
theorem get_form {z : List Int} (hb : By z) (h : (JrnP.get z).e = 0) : 26 ≤ z.length ∧ (JrnP.get z).s = ofB ((z.drop 2).take 8) := by
  unfold JrnP.get at h ⊢
  split at h
  · exact absurd h (by decide)
  · rename_i pre hp
    have ho := opn_take hp
    have hbp : By pre := fun b hb2 => hb b (by rw [ho.2] at hb2; exact List.mem_of_mem_take hb2)
    have hl : pre.length = z.length - 4 := by rw [ho.2, List.length_take]; omega
    split at h
    · exact absurd h (by decide)
    · rename_i rows hr
      try rw [hr]
      try simp only
      by_cases hf : isF rows = true
      · obtain ⟨r0, r1, r2, rfl, h0, h1, h2⟩ := isF_rows hf
        obtain ⟨N0, e0, l0, k0, p0⟩ := parts_head hbp hr
        have hb0 : By (pre.drop (2 + N0)) := fun b hb2 => hbp b (List.mem_of_mem_drop hb2)
        obtain ⟨N1, e1, l1, k1, p1⟩ := parts_head hb0 p0
        have hb1 : By ((pre.drop (2 + N0)).drop (2 + N1)) := fun b hb2 => hb0 b (List.mem_of_mem_drop hb2)
        obtain ⟨N2, e2, l2, k2, p2⟩ := parts_head hb1 p1
        rw [List.length_drop] at k1
        rw [List.length_drop, List.length_drop] at k2
        refine ⟨by omega, ?_⟩
        have hN : N0 = 8 := by omega
        subst hN
        rw [getR_yes h0 h1 h2] at h ⊢
        split at h
        · rename_i hm
          rw [if_pos hm, e0, ho.2]
          simp only
          rw [List.drop_take, List.take_take]
          congr 2
          omega
        · exact absurd h (by decide)
      · rw [getR_no (by simpa using hf)] at h
        exact absurd h (by decide)
theorem get_short {z : List Int} (hb : By z) (h : z.length < 26) : (JrnP.get z).e ≠ 0 := fun he => by
  have := (get_form hb he).1
  omega

/-- who is told -/
theorem load_none {z0 z1 : List Int} (h0 : (JrnP.get z0).e ≠ 0) (h1 : (JrnP.get z1).e ≠ 0) : JrnP.load z0 z1 = bad 0 := by
  unfold JrnP.load
  rw [best_no (.inl h0), best_no (.inl h1)]
theorem best_ge {p : Int} {x y : G} : x.s ≤ (best p x y).s := by
  unfold best
  split
  · rename_i h; exact Int.le_of_lt h.2.2
  · exact Int.le_refl _
theorem best_ge2 {p : Int} {x y : G} (h1 : y.e = 0) (h2 : y.s % 2 = p) : y.s ≤ (best p x y).s := by
  unfold best
  split
  · exact Int.le_refl _
  · rename_i h
    exact Int.not_lt.1 fun hlt => h ⟨h1, h2, hlt⟩
theorem load_ge0 {z0 z1 : List Int} (h1 : (JrnP.get z0).e = 0) (h2 : (JrnP.get z0).s % 2 = 0) : (JrnP.get z0).s ≤ (JrnP.load z0 z1).s := Int.le_trans (best_ge2 h1 h2) best_ge
theorem load_ge1 {z0 z1 : List Int} (h1 : (JrnP.get z1).e = 0) (h2 : (JrnP.get z1).s % 2 = 1) : (JrnP.get z1).s ≤ (JrnP.load z0 z1).s := best_ge2 h1 h2
theorem load_even {z0 z1 : List Int} {b m s : Int} {l : List Pm} (h0 : JrnP.get z0 = ⟨0, b, m, l, s⟩) (hs : s % 2 = 0) (hp : 0 < s) (h1 : (JrnP.get z1).e = 0 → (JrnP.get z1).s % 2 = 1 → (JrnP.get z1).s ≤ s) : JrnP.load z0 z1 = ⟨0, b, m, l, s⟩ := by
  unfold JrnP.load
  have e0 : best 0 (bad 0) (JrnP.get z0) = ⟨0, b, m, l, s⟩ := by rw [h0]; exact best_yes rfl hs hp
  rw [e0]
  refine best_no ?_
  by_cases h2 : (JrnP.get z1).e = 0
  · by_cases h3 : (JrnP.get z1).s % 2 = 1
    · exact .inr (.inr (by have := h1 h2 h3; simp only; omega))
    · exact .inr (.inl h3)
  · exact .inl h2
theorem load_odd {z0 z1 : List Int} {b m s : Int} {l : List Pm} (h1 : JrnP.get z1 = ⟨0, b, m, l, s⟩) (hs : s % 2 = 1) (hp : 0 < s) (h0 : (JrnP.get z0).e = 0 → (JrnP.get z0).s % 2 = 0 → (JrnP.get z0).s < s) : JrnP.load z0 z1 = ⟨0, b, m, l, s⟩ := by
  unfold JrnP.load
  rw [h1]
  refine best_yes rfl hs ?_
  simp only
  by_cases hc : (JrnP.get z0).e = 0 ∧ (JrnP.get z0).s % 2 = 0 ∧ (bad 0).s < (JrnP.get z0).s
  · rw [best_yes hc.1 hc.2.1 hc.2.2]
    exact h0 hc.1 hc.2.1
  · rw [show best 0 (bad 0) (JrnP.get z0) = bad 0 from if_neg hc]
    exact hp

/-- behind a write -/
theorem load_in {z0 z1 : List Int} (h0 : By z0) (h1 : By z1) : 0 ≤ (JrnP.load z0 z1).s ∧ (JrnP.load z0 z1).s ≤ 18446744073709551615 := fold_in z0 z1 h0 h1 2
theorem nxt_eq {z0 z1 : List Int} (h0 : By z0) (h1 : By z1) (h : (JrnP.load z0 z1).s < 18446744073709551615) : nxt z0 z1 = (JrnP.load z0 z1).s + 1 := by
  have := load_in h0 h1
  unfold nxt u
  omega
theorem wr_by {z0 z1 : List Int} (h0 : By z0) (h1 : By z1) (b m : Int) (l : List Pm) : By (wr0 z0 z1 b m l) ∧ By (wr1 z0 z1 b m l) := by
  unfold wr0 wr1
  refine ⟨?_, ?_⟩ <;> split
  · exact put_in _ _ _ _
  · exact h0
  · exact h1
  · exact put_in _ _ _ _
theorem wr_load {z0 z1 : List Int} (h0 : By z0) (h1 : By z1) (h : (JrnP.load z0 z1).s < 18446744073709551615) {b m : Int} {l : List Pm} (hm : may b m l = true) (hl : l.length ≤ 8000) :
    JrnP.load (wr0 z0 z1 b m l) (wr1 z0 z1 b m l) = ⟨0, b, m, l, (JrnP.load z0 z1).s + 1⟩ := by
  have hn := nxt_eq h0 h1 h
  have hi := load_in h0 h1
  have hg := get_put (b := b) (m := m) (l := l) (s := (JrnP.load z0 z1).s + 1) hm hl (by omega)
  unfold wr0 wr1
  rw [hn]
  by_cases hp : ((JrnP.load z0 z1).s + 1) % 2 = 0
  · rw [if_pos hp, if_pos hp]
    exact load_even hg hp (by omega) fun a c => by have := load_ge1 (z0 := z0) a c; omega
  · rw [if_neg hp, if_neg hp]
    exact load_odd hg (by omega) (by omega) fun a c => by have := load_ge0 (z1 := z1) a c; omega
theorem may_of {x : Lg} (h : mayB x = true) : may x.b x.m x.l = true := by
  unfold may
  unfold mayB at h ⊢
  simp only [Bool.and_eq_true] at h ⊢
  exact ⟨⟨⟨⟨h.1.1.1.1, h.1.1.1.2⟩, by decide⟩, h.1.2⟩, h.2⟩

end Go.Proofs.YtjedkkkhficmoaaDoor.Jrn

/- The contracts by places. -/
namespace Go.Proofs.YtjedkkkhficmoaaDoor.Jrn
open Go.RowKit Go.Proofs.YtjedkkkhficmoaaDoor.Plain Go.Proofs.YtjedkkkhficmoaaDoor.Sees Go.Proofs.YtjedkkkhficmoaaDoor.Oct Go.Proofs.YtjedkkkhficmoaaDoor.Crc Go.Proofs.YtjedkkkhficmoaaDoor.Box Go.Proofs.YtjedkkkhficmoaaDoor.Held Go.Proofs.YtjedkkkhficmoaaDoor.JrnP Go.Proofs.YtjedkkkhficmoaaDoor.Open Go.Proofs.YtjedkkkhficmoaaDoor.LgrP
set_option linter.unusedVariables false
set_option maxRecDepth 100000

/-- a journal, by its places -/
def JV (v : Value) (W : World) (z0 z1 y0 y1 : List Int) : Prop := ∃ j : Jr, v = j.val ∧ j.In W ∧ (j.n0.bs = z0 ∧ j.n1.bs = z1 ∧ j.a0.bs = y0 ∧ j.a1.bs = y1)
theorem JV.next {v : Value} {W W' : World} {z0 z1 y0 y1 : List Int} (h : JV v W z0 z1 y0 y1) (hb : Below W.heap.size W W') : JV v W' z0 z1 y0 y1 := by
  obtain ⟨j, h1, h2, h3⟩ := h
  exact ⟨j, h1, h2.next hb, h3⟩
/-- a new place of four rows -/
def AV (v : Value) (W : World) (N : Nat) : Prop := ∃ B, v = .pointer (some ⟨B, 0, none⟩) ∧ BxT W B #[.slice none 0 0, .slice none 0 0, .slice none 0 0, .slice none 0 0] 38 ∧ N ≤ B
theorem AV.next {v : Value} {W W' : World} {N : Nat} (h : AV v W N) (hb : Below W.heap.size W W') : AV v W' N := by
  obtain ⟨B, h1, h2, h3⟩ := h
  exact ⟨B, h1, h2.next hb, h3⟩
theorem from_nil (w : World) : Calls Tryd.prog 10 #[.slice none 0 0, .slice none 0 0] w (JP w [] [] [] []) := jFrom_any [] [] none none 0 0 0 0 w rfl rfl (by omega) (by omega) (.inl rfl) (.inl rfl) By.nil By.nil
theorem write_at (z0 z1 y0 y1 : List Int) (j : Jr) (x : Lg) (w : World) (ht : Tab w) (hj : j.In w) (he : j.n0.bs = z0 ∧ j.n1.bs = z1 ∧ j.a0.bs = y0 ∧ j.a1.bs = y1) (hx : x.In w) (hl : x.l.length ≤ 100) :
    Calls Tryd.prog 15 #[j.val, x.val] w (JP w (wr0 z0 z1 x.b x.m x.l) (wr1 z0 z1 x.b x.m x.l) z0 z1) := by
  have := jWrite_any j x w ht hj hx hl
  rwa [he.1, he.2.1] at this
theorem load_at (z0 z1 y0 y1 : List Int) (j : Jr) (w : World) (ht : Tab w) (hj : j.In w) (he : j.n0.bs = z0 ∧ j.n1.bs = z1 ∧ j.a0.bs = y0 ∧ j.a1.bs = y1) :
    Calls Tryd.prog 19 #[j.val] w (LP w (JrnP.load z0 z1)) := by
  have := jLoad_any j w ht hj
  rwa [he.1, he.2.1] at this
theorem tear_at (z0 z1 y0 y1 : List Int) (n : Int) (j : Jr) (w : World) (hn : n ≤ 9223372036854775807) (hj : j.In w) (he : j.n0.bs = z0 ∧ j.n1.bs = z1 ∧ j.a0.bs = y0 ∧ j.a1.bs = y1) :
    Calls Tryd.prog 16 #[j.val, .int .i64 n] w (JP w (torn z0 y0 n.toNat) (torn z1 y1 n.toNat) y0 y1) := by
  have := jTear_any j n w hn hj
  rwa [he.1, he.2.1, he.2.2.1, he.2.2.2] at this

end Go.Proofs.YtjedkkkhficmoaaDoor.Jrn

/- The contracts at letters, for the laws' walks. -/
namespace Go.Proofs.YtjedkkkhficmoaaDoor.Jrn
open Go.RowKit Go.Proofs.YtjedkkkhficmoaaDoor.Plain Go.Proofs.YtjedkkkhficmoaaDoor.Sees Go.Proofs.YtjedkkkhficmoaaDoor.Oct Go.Proofs.YtjedkkkhficmoaaDoor.Crc Go.Proofs.YtjedkkkhficmoaaDoor.Box Go.Proofs.YtjedkkkhficmoaaDoor.Held Go.Proofs.YtjedkkkhficmoaaDoor.JrnP Go.Proofs.YtjedkkkhficmoaaDoor.Open Go.Proofs.YtjedkkkhficmoaaDoor.LgrP
set_option linter.unusedVariables false
set_option maxRecDepth 100000

/-- permits in memory -/
structure LI (W : World) (A : Option Addr) (c n : Nat) (l : List Pm) : Prop where
  len : l.length = n
  cap : n ≤ c
  max : c ≤ maxLen
  see : Sees W W.heap.size A (pms l)
theorem LI.next {W W' : World} {A : Option Addr} {c n : Nat} {l : List Pm} (h : LI W A c n l) (hb : Below W.heap.size W W') : LI W' A c n l := ⟨h.len, h.cap, h.max, sees_next h.see hb⟩
theorem LI.lg {W : World} {A : Option Addr} {c n : Nat} {l : List Pm} (h : LI W A c n l) (b m k : Int) : Lg.In W ⟨b, m, k, A, c, l⟩ := ⟨by simp only [h.len]; exact h.cap, h.max, h.see⟩
theorem LI.val {W : World} {A : Option Addr} {c n : Nat} {l : List Pm} (h : LI W A c n l) (b m k : Int) : Lg.val ⟨b, m, k, A, c, l⟩ = .agg #[.int .i64 b, .int .i64 m, .int .i64 k, .slice A n c] := by simp only [Lg.val, h.len]
theorem Lg.li {W : World} {x : Lg} (h : x.In W) : LI W x.A x.cap x.l.length x.l := ⟨rfl, h.cap_, h.max_, h.see⟩

theorem same_at {W : World} {A A' : Option Addr} {c c' n : Nat} {l : List Pm} (h : LI W A c n l) (h' : LI W A' c' n l) (hn : n ≤ 100) (b m k : Int) :
    Calls Tryd.prog 12 #[.agg #[.int .i64 b, .int .i64 m, .int .i64 k, .slice A n c], .agg #[.int .i64 b, .int .i64 m, .int .i64 k, .slice A' n c']] W fun e w' => e = .returned (.bool true) ∧ Below W.heap.size W w' := by
  have := same_any ⟨b, m, k, A, c, l⟩ ⟨b, m, k, A', c', l⟩ W (h.lg b m k) (h'.lg b m k) (by simp only [h.len]; exact hn) rfl rfl rfl rfl
  rwa [h.val, h'.val] at this
/-- may a ledger be one? -/
def mayK (b m k : Int) (l : List Pm) : Bool := mayB ⟨b, m, k, none, 0, l⟩
theorem may_k {b m k : Int} {l : List Pm} (h : mayK b m k l = true) : may b m l = true := may_of (x := ⟨b, m, k, none, 0, l⟩) h
theorem check_at {W : World} {A : Option Addr} {c n : Nat} {l : List Pm} (h : LI W A c n l) (hn : n ≤ 100) (b m k : Int) : Calls Tryd.prog 14 #[.agg #[.int .i64 b, .int .i64 m, .int .i64 k, .slice A n c]] W fun e w' => e = .returned (.bool (mayK b m k l)) ∧ Below W.heap.size W w' := by
  have := Lgr.check_any ⟨b, m, k, A, c, l⟩ W (h.lg b m k) (by simp only [h.len]; omega)
  rw [h.val] at this
  exact this.mono fun e w' h => ⟨h.1, h.2⟩
theorem put_at {W : World} {A : Option Addr} {c n : Nat} {l : List Pm} (h : LI W A c n l) (hn : n ≤ 100) (ht : Tab W) (b m k s : Int) (hs : 0 ≤ s ∧ s ≤ 18446744073709551615) :
    Calls Tryd.prog 30 #[.agg #[.int .i64 b, .int .i64 m, .int .i64 k, .slice A n c], .int .u64 s] W fun e w' => ∃ q : RowV, e = .returned q.val ∧ (RT w' q ∧ q.bs = put b m l s) ∧ Below W.heap.size W w' := by
  have := put_row ⟨b, m, k, A, c, l⟩ s W (h.lg b m k) (by simp only [h.len]; exact hn) hs ht
  rwa [h.val] at this
theorem ts_li {w' : World} {A : Option Addr} {c n : Nat} {l : List Pm} (hn : l.length = n) (h1 : n ≤ c) (h2 : c ≤ maxLen) (h3 : TS w' 54 A (pms l)) : LI w' A c n l := ⟨hn, h1, h2, h3.sees⟩
theorem get_back {W : World} {A : Option Addr} {c n : Nat} {q : List Int} {b m s : Int} {l : List Pm} (hq : RT W ⟨A, c, q⟩) (he : q = put b m l s) (ht : Tab W) (hm : may b m l = true) (hl : l.length = n) (hn : n ≤ 100) (hs : 0 ≤ s ∧ s ≤ 18446744073709551615) :
    Calls Tryd.prog 33 #[.slice A q.length c] W fun e w' => ∃ A' c', e = .returned (.tuple #[.agg #[.int .i64 b, .int .i64 m, .int .i64 0, .slice A' n c'], .int .u64 s, .int .i64 0]) ∧ LI w' A' c' n l ∧ Below W.heap.size W w' := by
  have := jGet_any q A q.length c W rfl hq.few hq.cap ht hq.ty.sees hq.byte
  rw [he, get_put hm (by omega) hs, ← he] at this
  refine this.mono ?_
  rintro e w' ⟨A', c', rfl, h1, h2, h3, h4⟩
  exact ⟨A', c', by simp only [hl], ts_li hl (by rw [← hl]; exact h1) h2 h3, h4⟩
theorem write_li {W : World} {A : Option Addr} {c n : Nat} {l : List Pm} (z0 z1 y0 y1 : List Int) (j : Jr) (ht : Tab W) (hj : j.In W) (he : j.n0.bs = z0 ∧ j.n1.bs = z1 ∧ j.a0.bs = y0 ∧ j.a1.bs = y1) (h : LI W A c n l) (hn : n ≤ 100) (b m k : Int) :
    Calls Tryd.prog 15 #[j.val, .agg #[.int .i64 b, .int .i64 m, .int .i64 k, .slice A n c]] W (JP W (wr0 z0 z1 b m l) (wr1 z0 z1 b m l) z0 z1) := by
  have := write_at z0 z1 y0 y1 j ⟨b, m, k, A, c, l⟩ W ht hj he (h.lg b m k) (by simp only [h.len]; exact hn)
  rwa [h.val] at this
theorem load_li {W : World} (z0 z1 y0 y1 : List Int) (j : Jr) (ht : Tab W) (hj : j.In W) (he : j.n0.bs = z0 ∧ j.n1.bs = z1 ∧ j.a0.bs = y0 ∧ j.a1.bs = y1) {e0 b m s : Int} {l : List Pm} {n : Nat} (hg : JrnP.load z0 z1 = ⟨e0, b, m, l, s⟩) (hl : l.length = n) :
    Calls Tryd.prog 19 #[j.val] W fun e w' => ∃ A c, e = .returned (.tuple #[.agg #[.int .i64 b, .int .i64 m, .int .i64 0, .slice A n c], .int .u64 s, .bool (decide (0 < s))]) ∧ LI w' A c n l ∧ Below W.heap.size W w' := by
  have := load_at z0 z1 y0 y1 j W ht hj he
  rw [hg] at this
  refine this.mono ?_
  rintro e w' ⟨A, c, rfl, h1, h2, h3, h4⟩
  exact ⟨A, c, by simp only [hl], ts_li hl (by rw [← hl]; exact h1) h2 h3, h4⟩

end Go.Proofs.YtjedkkkhficmoaaDoor.Jrn
