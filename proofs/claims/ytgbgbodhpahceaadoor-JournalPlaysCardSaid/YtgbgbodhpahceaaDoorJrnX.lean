import Derived.Test.YtgbgbodhpahceaaDoorJrnB
import Derived.Test.YtgbgbodhpahceaaDoorOctD
import Derived.LoopN
import Derived.RangeFuncBox
import Derived.Deep.DeepMust
import Derived.Test.YtgbgbodhpahceaaDoorJrnG
import Derived.Test.YtgbgbodhpahceaaDoorJrnF
import Derived.Test.YtgbgbodhpahceaaDoorSeesN
import Derived.Test.YtgbgbodhpahceaaDoorJrnE
import Derived.Test.YtgbgbodhpahceaaDoorLgrP
import Derived.Deep.QuietTactic
import Derived.BigQuiet
import Derived.Test.YtgbgbodhpahceaaDoorStr

/- A journal as it lies: From, Slots. -/
namespace Go.Proofs.YtgbgbodhpahceaaDoor.Jrn
open Go.RowKit Go.Proofs.YtgbgbodhpahceaaDoor.Plain Go.Proofs.YtgbgbodhpahceaaDoor.Sees Go.Proofs.YtgbgbodhpahceaaDoor.Oct Go.Proofs.YtgbgbodhpahceaaDoor.Crc Go.Proofs.YtgbgbodhpahceaaDoor.Box Go.Proofs.YtgbgbodhpahceaaDoor.Held Go.Proofs.YtgbgbodhpahceaaDoor.JrnP
set_option linter.unusedVariables false
set_option maxRecDepth 100000

/-- a row of bytes in memory of bytes -/
structure RT (W : World) (r : RowV) : Prop where
  cap : r.bs.length ≤ r.c
  max : r.c ≤ maxLen
  ty : TS W 5 r.A (nums .u8 r.bs)
  byte : ∀ b ∈ r.bs, 0 ≤ b ∧ b ≤ 255
  few : r.bs.length ≤ 10000
theorem RT.next {W W' : World} {r : RowV} (h : RT W r) (hb : Below W.heap.size W W') : RT W' r := ⟨h.cap, h.max, h.ty.next hb, h.byte, h.few⟩
theorem RT.set {W : World} {r : RowV} (h : RT W r) {X : Nat} {cs : Array Value} {t : TypeId} (hX : BxT W X cs t) (ht : t ≠ 5) (j : Nat) (u : Value) : RT (W.setCell ⟨X, j, none⟩ u) r := ⟨h.cap, h.max, h.ty.set hX ht j u, h.byte, h.few⟩
theorem RT.ok {W : World} {r : RowV} (h : RT W r) : r.Ok W W.heap.size := ⟨h.cap, h.ty.sees, h.byte⟩
/-- a journal: both places as they are, and as they were -/
structure Jr where
  n0 : RowV
  n1 : RowV
  a0 : RowV
  a1 : RowV
def Jr.arr (j : Jr) : Array Value := #[j.n0.val, j.n1.val, j.a0.val, j.a1.val]
def Jr.val (j : Jr) : Value := .agg j.arr
structure Jr.In (W : World) (j : Jr) : Prop where
  n0 : RT W j.n0
  n1 : RT W j.n1
  a0 : RT W j.a0
  a1 : RT W j.a1
theorem Jr.In.next {W W' : World} {j : Jr} (h : j.In W) (hb : Below W.heap.size W W') : j.In W' := ⟨h.n0.next hb, h.n1.next hb, h.a0.next hb, h.a1.next hb⟩
theorem Jr.In.set {W : World} {r : Jr} (h : r.In W) {X : Nat} {cs : Array Value} {t : TypeId} (hX : BxT W X cs t) (ht : t ≠ 5) (j : Nat) (u : Value) : r.In (W.setCell ⟨X, j, none⟩ u) := ⟨h.n0.set hX ht j u, h.n1.set hX ht j u, h.a0.set hX ht j u, h.a1.set hX ht j u⟩
/-- a journal of such places is answered, and memory made alone -/
def JP (w : World) (z0 z1 y0 y1 : List Int) (e : Ending) (w' : World) : Prop :=
  ∃ j : Jr, e = .returned j.val ∧ j.In w' ∧ (j.n0.bs = z0 ∧ j.n1.bs = z1 ∧ j.a0.bs = y0 ∧ j.a1.bs = y1) ∧ Below w.heap.size w w'

theorem set4 {W : World} {X : Nat} {a b c d x y z u : Value} {t : TypeId} (h : BxT W X #[a, b, c, d] t) : BxT ((((W.setCell ⟨X, 0, none⟩ x).setCell ⟨X, 1, none⟩ y).setCell ⟨X, 2, none⟩ z).setCell ⟨X, 3, none⟩ u) X #[x, y, z, u] t := (((h.set 0 x).set 1 y).set 2 z).set 3 u
theorem in4 {W : World} {r : Jr} (h : r.In W) {X : Nat} {a b c d : Value} {t : TypeId} (hX : BxT W X #[a, b, c, d] t) (ht : t ≠ 5) (x y z u : Value) : r.In ((((W.setCell ⟨X, 0, none⟩ x).setCell ⟨X, 1, none⟩ y).setCell ⟨X, 2, none⟩ z).setCell ⟨X, 3, none⟩ u) :=
  (((h.set hX ht 0 x).set (hX.set 0 x) ht 1 y).set ((hX.set 0 x).set 1 y) ht 2 z).set (((hX.set 0 x).set 1 y).set 2 z) ht 3 u
theorem below4 {B : Nat} {A W : World} (h : Below B A W) {X : Nat} (hX : B ≤ X) (x y z u : Value) : Below B A ((((W.setCell ⟨X, 0, none⟩ x).setCell ⟨X, 1, none⟩ y).setCell ⟨X, 2, none⟩ z).setCell ⟨X, 3, none⟩ u) :=
  (((h.setCell (p := ⟨X, 0, none⟩) hX x).setCell (p := ⟨X, 1, none⟩) hX y).setCell (p := ⟨X, 2, none⟩) hX z).setCell (p := ⟨X, 3, none⟩) hX u

/-- a clone, as a row -/
theorem clone_row (bs : List Int) (A : Option Addr) (n c : Nat) (w : World) (hl : bs.length = n) (hn : n ≤ 10000) (hs : Sees w w.heap.size A (nums .u8 bs)) (hb : ∀ b ∈ bs, 0 ≤ b ∧ b ≤ 255) :
    Calls Tryd.prog 40 #[.slice A n c] w fun e w' => ∃ A' c', e = .returned (.slice A' n c') ∧ RT w' ⟨A', c', bs⟩ ∧ Below w.heap.size w w' :=
  (bClone_any bs A n c w hl (by omega) hs).mono fun e w' ⟨A', c', h1, h2, h3, h4, h5⟩ => ⟨A', c', h1, ⟨by simp only; omega, h3, h4, hb, by simp only; omega⟩, h5⟩

set_option maxHeartbeats 3200000 in
theorem jFrom_any (za zb : List Int) (A0 A1 : Option Addr) (n0 n1 c0 c1 : Nat) (w : World) (hl0 : za.length = n0) (hl1 : zb.length = n1) (h0 : n0 ≤ 10000) (h1 : n1 ≤ 10000)
    (hs0 : Sees w w.heap.size A0 (nums .u8 za)) (hs1 : Sees w w.heap.size A1 (nums .u8 zb)) (hb0 : ∀ b ∈ za, 0 ≤ b ∧ b ≤ 255) (hb1 : ∀ b ∈ zb, 0 ≤ b ∧ b ≤ 255) :
    Calls Tryd.prog 17 #[.slice A0 n0 c0, .slice A1 n1 c1] w (JP w za zb za zb) := by
  have H0 : Hid (∀ W, Below w.heap.size w W → Calls Tryd.prog 40 #[.slice A0 n0 c0] W fun e w' => ∃ A' c', e = .returned (.slice A' n0 c') ∧ RT w' ⟨A', c', za⟩ ∧ Below W.heap.size W w') := Lib.hid fun W hW => clone_row za A0 n0 c0 W hl0 h0 (sees_next hs0 hW) hb0
  have H1 : Hid (∀ W, Below w.heap.size w W → Calls Tryd.prog 40 #[.slice A1 n1 c1] W fun e w' => ∃ A' c', e = .returned (.slice A' n1 c') ∧ RT w' ⟨A', c', zb⟩ ∧ Below W.heap.size W w') := Lib.hid fun W hW => clone_row zb A1 n1 c1 W hl1 h1 (sees_next hs1 hW) hb1
  have hj := Lib.hid (J.one w #[.slice none 0 0, .slice none 0 0, .slice none 0 0, .slice none 0 0] 45)
  have hT := Lib.hid (BxT.new w #[.slice none 0 0, .slice none 0 0, .slice none 0 0, .slice none 0 0] 45)
  clear hs0 hs1 hb0 hb1
  go_enter Tryd.func17, Tryd.ntmps17
  go_wp2_with (first
    | (go_at_call 40; (with_reducible refine (H0.out _ hj.out.below).mono ?_); clear H0; rintro e w1 ⟨A2, c2, rfl, hr1, h1⟩; have hj1 := Lib.hid (hj.out.next h1); have hT1 := Lib.hid (hT.out.next h1); have HR1 := Lib.hid hr1; clear h1 hr1 hj hT)
    | (go_at_call 40; (with_reducible refine (H1.out _ hj1.out.below).mono ?_); clear H1; rintro e w2 ⟨A3, c3, rfl, hr2, h2⟩; have hj2 := Lib.hid ((hj1.out.next h2).push #[.slice A2 n0 c2, .slice A3 n1 c3] 43); have hT2 := Lib.hid ((hT1.out.next h2).next (below_box (o := .cells #[.slice A2 n0 c2, .slice A3 n1 c3] 43))); have HR2 := Lib.hid (And.intro ((HR1.out.next h2).next (below_box (o := .cells #[.slice A2 n0 c2, .slice A3 n1 c3] 43))) (hr2.next (below_box (o := .cells #[.slice A2 n0 c2, .slice A3 n1 c3] 43)))); clear h2 hr2 hj1 hT1; obtain ⟨a0, a1⟩ := (hj2.out.bx 0 rfl).c2; obtain ⟨f0, f1, f2, f3⟩ := (hj2.out.bx 1 rfl).f4; obtain ⟨y0, y1, y2, y3⟩ := (hj2.out.bx 1 rfl).c4))
  have hne : ∀ x ∈ ([] : List (Nat × Array Value)), x.1 ≠ w.heap.size := fun x hx => by cases hx
  have hje := ((((hj2.out.less (bs' := [(w.heap.size, #[.slice none 0 0, .slice none 0 0, .slice none 0 0, .slice none 0 0])]) (by simp)).put (Nat.le_refl _) hne 0 (.slice A2 n0 c2)).put (Nat.le_refl _) hne 1 (.slice A3 n1 c3)).put (Nat.le_refl _) hne 2 (.slice A2 n0 c2)).put (Nat.le_refl _) hne 3 (.slice A3 n1 c3)
  have hin : ({ n0 := ⟨A2, c2, za⟩, n1 := ⟨A3, c3, zb⟩, a0 := ⟨A2, c2, za⟩, a1 := ⟨A3, c3, zb⟩ } : Jr).In _ := in4 ⟨HR2.out.1, HR2.out.2, HR2.out.1, HR2.out.2⟩ hT2.out (by decide) (.slice A2 n0 c2) (.slice A3 n1 c3) (.slice A2 n0 c2) (.slice A3 n1 c3)
  obtain ⟨k0, k1, k2, k3⟩ := (hje.bx 0 rfl).c4
  refine bodyPost_ret (v := .agg #[.slice A2 n0 c2, .slice A3 n1 c3, .slice A2 n0 c2, .slice A3 n1 c3]) (by simp [results, Tryd.results17, go_sem, k0, k1, k2, k3]) rfl ⟨⟨⟨A2, c2, za⟩, ⟨A3, c3, zb⟩, ⟨A2, c2, za⟩, ⟨A3, c3, zb⟩⟩, by simp [Jr.val, Jr.arr, RowV.val, hl0, hl1], hin, ⟨rfl, rfl, rfl, rfl⟩, hje.below⟩

/-- both places, in new memory -/
def SP (w : World) (z0 z1 : List Int) (e : Ending) (w' : World) : Prop :=
  ∃ (g c : Nat) (r0 r1 : RowV), e = .returned (.slice (some ⟨g, 0, none⟩) 2 c) ∧ 2 ≤ c ∧ w'.cell? ⟨g, 0, none⟩ = some r0.val ∧ w'.cell? ⟨g, 1, none⟩ = some r1.val ∧ (w.heap.size ≤ g ∧ g < w'.heap.size) ∧ RT w' r0 ∧ RT w' r1 ∧ (r0.bs = z0 ∧ r1.bs = z1) ∧ Below w.heap.size w w'
theorem info_rows : (Tryd.prog.info? 26).map (fun i => (i.zero, i.size, i.bytes)) = some (some (.slice none 0 0), 1, 24) := by kernel_rfl

theorem idx0 (A0 A1 : Option Addr) (n0 n1 c0 c1 : Nat) : ∀ W, (Instr.index 43 (.agg #[.slice A0 n0 c0, .slice A1 n1 c1]) (.int .i64 0)).run Tryd.prog W = .ok (.slice A0 n0 c0) W := fun W => by kernel_rfl
theorem idx1 (A0 A1 : Option Addr) (n0 n1 c0 c1 : Nat) : ∀ W, (Instr.index 43 (.agg #[.slice A0 n0 c0, .slice A1 n1 c1]) (.int .i64 1)).run Tryd.prog W = .ok (.slice A1 n1 c1) W := fun W => by kernel_rfl
theorem grown_cells {W W' : World} {X : Nat} {cs : Array Value} {t : TypeId} {v : Value} (h : BxT W X cs t) (hg : W.grownBy W' v.ownBlock) (hne : ∀ g, v.ownBlock = some g → g ≠ X) : BxT W' X cs t :=
  (hg.block X h.bx.lt (fun e => hne X e.symm rfl)).trans h
theorem ts_own_grown {W W' : World} {t : TypeId} {A : Option Addr} {xs : List Value} {base : Nat} {e : TypeId} {size : Nat} {v : Value} {n : Nat} {ys : List Value} (h : TS W t A xs) (ho : W.ownsRow base e size v n ys) (hte : e ≠ t) (hg : W.grownBy W' v.ownBlock) : TS W' t A xs := by
  rcases h with h | ⟨g, o, cur, hA, hh, hc⟩
  · exact .inl h
  · refine .inr ⟨g, o, cur, hA, (hg.block g (Array.getElem?_eq_some_iff.1 hh).1 (fun e' => ?_)).trans hh, hc⟩
    rcases ho.2 with ⟨rfl, _⟩ | ⟨g2, cap, cur2, rfl, _, hh2, _⟩
    · simp [Value.ownBlock] at e'
    · simp [Value.ownBlock] at e'
      subst e'
      rw [hh] at hh2
      injection hh2 with hh2
      injection hh2 with _ h4
      exact hte h4.symm
theorem RT.grown {W W' : World} {r : RowV} {base : Nat} {e : TypeId} {size : Nat} {v : Value} {n : Nat} {ys : List Value} (h : RT W r) (ho : W.ownsRow base e size v n ys) (hte : e ≠ 5) (hg : W.grownBy W' v.ownBlock) : RT W' r := ⟨h.cap, h.max, ts_own_grown h.ty ho hte hg, h.byte, h.few⟩

set_option maxHeartbeats 3200000 in
theorem jSlots_any (j : Jr) (w : World) (hj : j.In w) : Calls Tryd.prog 20 #[j.val] w (SP w j.n0.bs j.n1.bs) := by
  obtain ⟨h0, h1, _, _⟩ := hj
  obtain ⟨⟨A0, c0, z0⟩, ⟨A1, c1, z1⟩, ⟨A2, c2, z2⟩, ⟨A3, c3, z3⟩⟩ := j
  simp only at h0 h1
  unfold Jr.val Jr.arr RowV.val
  simp only
  obtain ⟨n0, hn0⟩ : ∃ n, z0.length = n := ⟨_, rfl⟩
  obtain ⟨n1, hn1⟩ : ∃ n, z1.length = n := ⟨_, rfl⟩
  generalize z2.length = n2
  generalize z3.length = n3
  rw [hn0, hn1]
  have H0 : Hid (∀ W, Below w.heap.size w W → Calls Tryd.prog 40 #[.slice A0 n0 c0] W fun e w' => ∃ A' c', e = .returned (.slice A' n0 c') ∧ RT w' ⟨A', c', z0⟩ ∧ Below W.heap.size W w') := Lib.hid fun W hW => clone_row z0 A0 n0 c0 W hn0 (by have := h0.few; simp only at this; omega) (sees_next h0.ty.sees hW) h0.byte
  have H1 : Hid (∀ W, Below w.heap.size w W → Calls Tryd.prog 40 #[.slice A1 n1 c1] W fun e w' => ∃ A' c', e = .returned (.slice A' n1 c') ∧ RT w' ⟨A', c', z1⟩ ∧ Below W.heap.size W w') := Lib.hid fun W hW => clone_row z1 A1 n1 c1 W hn1 (by have := h1.few; simp only at this; omega) (sees_next h1.ty.sees hW) h1.byte
  obtain ⟨i0, hi, hz0, hz1, hz2⟩ := info_parts info_rows
  have HN := Lib.hid (And.intro hn0 hn1)
  clear h0 h1 hn0 hn1
  have hjb := Lib.hid (J.one w #[.slice A0 n0 c0, .slice A1 n1 c1, .slice A2 n2 c2, .slice A3 n3 c3] 45)
  obtain ⟨a0, a1, a2, a3⟩ := (hjb.out.bx 0 rfl).c4
  have x0 := idx0 A0 A1 n0 n1 c0 c1
  have x1 := idx1 A0 A1 n0 n1 c0 c1
  go_enter Tryd.func20, Tryd.ntmps20
  go_wp2_with (at_make; go_must (refine wpList_make_own _ rfl _ _ 53 rfl (w.heap.size + 1) 26 i0 (.slice none 0 0) 1 Tryd.underlying53 hi hz0 hz1 _ _ _ 2 rfl rfl (by simp) (by rw [hz2]; omega) (by unfold maxLen; omega) (by simp) ?_; intro w0 hown0 hgrow0; have hj0 := Lib.hid (hjb.out.next ((Below.refl _ _).grown hgrow0 (Nat.le_refl _) (fun k h => by cases h))); obtain ⟨a0, a1, a2, a3⟩ := (hj0.out.bx 0 rfl).c4))
  simp only [World.size_alloc] at hown0
  clear a0 a1 a2 a3 hjb hgrow0
  refine wp_loop_rounds 3 ?_
  rw [rounds_succ]
  go_wp2_with (first
    | (go_at_call 40; go_must ((with_reducible refine (H0.out _ hj0.out.below).mono ?_); clear H0; rintro e w1 ⟨A4, c4, rfl, hr1, h1⟩; have hown1 := own_below hown0 h1 (fun k hk => (hown0.lt k hk).2); have hB1 := Lib.hid (hj0.out.next h1).below; have HR1 := Lib.hid hr1; clear h1 hr1 hj0 hown0))
    | (at_builtin; go_must (refine wpList_append_own_at _ rfl _ _ 53 rfl (w.heap.size + 1) 26 i0 (.slice none 0 0) 1 24 Tryd.underlying53 hi hz0 hz1 hz2 rfl (by omega) _ 0 _ rfl (hown1.alloc _) ⟨w1.heap.size, 0, none⟩ 1 1 [.slice A4 n0 c4] rfl rfl (new_cell _ _ _) (one_slice _ _ _) (by unfold maxLen; omega) (by omega) (by have := hB1.out.size; simp; omega) ?_; intro v2 w2 hown2 hg2 _ _)))
  have hR2 := Lib.hid ((HR1.out.next (below_box (o := .cells #[.slice A4 n0 c4] 26))).grown (hown1.alloc _) (by decide) hg2)
  have hB2 := Lib.hid (below_more hB1.out (below_box (o := .cells #[.slice A4 n0 c4] 26)) (Nat.le_refl _) |>.grown hg2 (by have := hB1.out.size; simp; omega) (fun k hk => by have := (hown1.lt k hk).1; omega))
  rw [rounds_succ]
  clear hown1 hg2 HR1
  go_wp2_with (first
    | (go_at_call 40; go_must ((with_reducible refine (H1.out _ hB2.out).mono ?_); clear H1; rintro e w3 ⟨A5, c5, rfl, hr3, h3⟩; have hown3 := own_below hown2 h3 (fun k hk => (hown2.lt k hk).2); have hB3 := Lib.hid (below_more hB2.out h3 (Nat.le_refl _)); have HR3 := Lib.hid (And.intro (hR2.out.next h3) hr3); clear h3 hr3 hown2))
    | (at_builtin; go_must (refine wpList_append_own_at _ rfl _ _ 53 rfl (w.heap.size + 1) 26 i0 (.slice none 0 0) 1 24 Tryd.underlying53 hi hz0 hz1 hz2 rfl (by omega) _ 1 _ rfl (hown3.alloc _) ⟨w3.heap.size, 0, none⟩ 1 1 [.slice A5 n1 c5] rfl rfl (new_cell _ _ _) (one_slice _ _ _) (by unfold maxLen; omega) (by omega) (by have := hB3.out.size; simp; omega) ?_; intro v4 w4 hown4 hg4 _ _; obtain ⟨g', c6, rfl⟩ := ownsRow_succ hown4)))
  have hR4 := And.intro ((HR3.out.1.next (below_box (o := .cells #[.slice A5 n1 c5] 26))).grown (hown3.alloc _) (by decide) hg4) ((HR3.out.2.next (below_box (o := .cells #[.slice A5 n1 c5] 26))).grown (hown3.alloc _) (by decide) hg4)
  have hB4 := (below_more hB3.out (below_box (o := .cells #[.slice A5 n1 c5] 26)) (Nat.le_refl _)).grown hg4 (by have := hB3.out.size; simp; omega) (fun k hk => by have := (hown3.lt k hk).1; omega)
  rw [rounds_succ]
  go_wp2
  go_ret
  have k0 := hown4.cells (g := g') rfl 0 (.slice A4 n0 c4) rfl
  have k1 := hown4.cells (g := g') rfl 1 (.slice A5 n1 c5) rfl
  refine ⟨g', c6, ⟨A4, c4, z0⟩, ⟨A5, c5, z1⟩, rfl, (own_cap hown4).1, ?_, ?_, ⟨by have := (hown4.lt g' rfl).1; omega, (hown4.lt g' rfl).2⟩, hR4.1, hR4.2, ⟨rfl, rfl⟩, hB4⟩
  · rw [show RowV.val ⟨A4, c4, z0⟩ = .slice A4 n0 c4 by rw [RowV.val, HN.out.1]]; simpa [Addr.add] using k0
  · rw [show RowV.val ⟨A5, c5, z1⟩ = .slice A5 n1 c5 by rw [RowV.val, HN.out.2]]; simpa [Addr.add] using k1

end Go.Proofs.YtgbgbodhpahceaaDoor.Jrn

/- The contract of Load. -/
namespace Go.Proofs.YtgbgbodhpahceaaDoor.Jrn
open Go.RowKit Go.Proofs.YtgbgbodhpahceaaDoor.Plain Go.Proofs.YtgbgbodhpahceaaDoor.Sees Go.Proofs.YtgbgbodhpahceaaDoor.Oct Go.Proofs.YtgbgbodhpahceaaDoor.Crc Go.Proofs.YtgbgbodhpahceaaDoor.Box Go.Proofs.YtgbgbodhpahceaaDoor.Held Go.Proofs.YtgbgbodhpahceaaDoor.JrnP Go.Proofs.YtgbgbodhpahceaaDoor.Open Go.Proofs.YtgbgbodhpahceaaDoor.LgrP
set_option linter.unusedVariables false
set_option maxRecDepth 100000

/-- what Load answers -/
def LP (w : World) (g : G) (e : Ending) (w' : World) : Prop :=
  ∃ A c, e = .returned (.tuple #[.agg #[.int .i64 g.b, .int .i64 g.m, .int .i64 0, .slice A g.l.length c], .int .u64 g.s, .bool (decide (0 < g.s))]) ∧ g.l.length ≤ c ∧ c ≤ maxLen ∧ TS w' 69 A (pms g.l) ∧ Below w.heap.size w w'
/-- what is told when so many places were looked at -/
def fold (z0 z1 : List Int) : Nat → G
  | 0 => bad 0
  | 1 => best 0 (bad 0) (JrnP.get z0)
  | _ => JrnP.load z0 z1
theorem gs_in (z : List Int) (h : ∀ b ∈ z, 0 ≤ b ∧ b ≤ 255) : 0 ≤ (JrnP.get z).s ∧ (JrnP.get z).s ≤ 18446744073709551615 := by
  unfold JrnP.get
  split
  · exact ⟨by decide, by decide⟩
  · rename_i pre hp
    split
    · exact ⟨by decide, by decide⟩
    · rename_i rows hr
      have hb := opn_in hp h
      have hrr := (parts_small pre.length pre rows (Nat.le_refl _) hb hr).2
      unfold getR
      split
      · rename_i r0 r1 r2
        split
        · rename_i hc
          split
          · have h1 := ofB_bounds r0 (hrr r0 (by simp)).2
            rw [hc.1] at h1
            simp only
            omega
          · exact ⟨by decide, by decide⟩
        · exact ⟨by decide, by decide⟩
      · exact ⟨by decide, by decide⟩
theorem best_in {p : Int} {x y : G} (hx : 0 ≤ x.s ∧ x.s ≤ 18446744073709551615) (hy : 0 ≤ y.s ∧ y.s ≤ 18446744073709551615) : 0 ≤ (best p x y).s ∧ (best p x y).s ≤ 18446744073709551615 := by
  unfold best
  split
  · exact hy
  · exact hx
theorem best_yes {p : Int} {x y : G} (h1 : y.e = 0) (h2 : y.s % 2 = p) (h3 : x.s < y.s) : best p x y = ⟨0, y.b, y.m, y.l, y.s⟩ := if_pos ⟨h1, h2, h3⟩
theorem best_no {p : Int} {x y : G} (h : y.e ≠ 0 ∨ y.s % 2 ≠ p ∨ ¬ x.s < y.s) : best p x y = x := if_neg fun ⟨h1, h2, h3⟩ => by
  rcases h with h | h | h
  · exact h h1
  · exact h h2
  · exact h h3
theorem fold_in (z0 z1 : List Int) (h0 : ∀ b ∈ z0, 0 ≤ b ∧ b ≤ 255) (h1 : ∀ b ∈ z1, 0 ≤ b ∧ b ≤ 255) (k : Nat) : 0 ≤ (fold z0 z1 k).s ∧ (fold z0 z1 k).s ≤ 18446744073709551615 := by
  have hb : 0 ≤ (bad 0).s ∧ (bad 0).s ≤ 18446744073709551615 := ⟨by decide, by decide⟩
  match k with
  | 0 => exact hb
  | 1 => exact best_in hb (gs_in z0 h0)
  | k + 2 => exact best_in (best_in hb (gs_in z0 h0)) (gs_in z1 h1)

/-- what Get answers, at letters -/
def GQ (w : World) (ge gb gm : Int) (gl : List Pm) (gs : Int) (nl : Nat) (e : Ending) (w' : World) : Prop :=
  ∃ A c, e = .returned (.tuple #[.agg #[.int .i64 gb, .int .i64 gm, .int .i64 0, .slice A nl c], .int .u64 gs, .int .i64 ge]) ∧ nl ≤ c ∧ c ≤ maxLen ∧ TS w' 69 A (pms gl) ∧ Below w.heap.size w w'
theorem GQ.of {w w' : World} {ge gb gm : Int} {gl : List Pm} {gs : Int} {nl : Nat} {e : Ending} (h : GP w ⟨ge, gb, gm, gl, gs⟩ e w') (hn : gl.length = nl) : GQ w ge gb gm gl gs nl e w' := by
  subst hn
  exact h
/-- while Load runs -/
structure LQ (w wr : World) (A : Option Addr) (c : Nat) (b m : Int) (l : List Pm) (n : Nat) (ja : Array Value) : Prop where
  cap : n ≤ c
  max : c ≤ maxLen
  ty : TS wr 69 A (pms l)
  box : BxT wr (w.heap.size + 1 + 1) #[.int .i64 b, .int .i64 m, .int .i64 0, .slice A n c] 24
  res : BxT wr (w.heap.size + 1) #[.int .i64 0, .int .i64 0, .int .i64 0, .slice none 0 0] 24
  j : J w wr [(w.heap.size + 1, #[.int .i64 0, .int .i64 0, .int .i64 0, .slice none 0 0]), (w.heap.size, ja)]
theorem lq_next {w wr w1 : World} {A : Option Addr} {c : Nat} {b m : Int} {l : List Pm} {n : Nat} {ja : Array Value} (h : LQ w wr A c b m l n ja) (h1 : Below wr.heap.size wr w1) (o : Obj) : LQ w (w1.alloc o) A c b m l n ja :=
  ⟨h.cap, h.max, (h.ty.next h1).next below_box, (h.box.next h1).next below_box, (h.res.next h1).next below_box, (h.j.next h1).alloc _⟩
theorem lq_store {w wr : World} {A A' : Option Addr} {c c' : Nat} {b m b' m' : Int} {l l' : List Pm} {n n' : Nat} {ja : Array Value} (h : LQ w wr A c b m l n ja) (h1 : n' ≤ c') (h2 : c' ≤ maxLen) (h3 : TS wr 69 A' (pms l')) :
    LQ w ((((wr.setCell ⟨w.heap.size + 1 + 1, 0, none⟩ (.int .i64 b')).setCell ⟨w.heap.size + 1 + 1, 1, none⟩ (.int .i64 m')).setCell ⟨w.heap.size + 1 + 1, 2, none⟩ (.int .i64 0)).setCell ⟨w.heap.size + 1 + 1, 3, none⟩ (.slice A' n' c')) A' c' b' m' l' n' ja := by
  have hb := h.box
  have hd : (24 : TypeId) ≠ 69 := by decide
  have ho : ∀ j u (W : World), J w W [(w.heap.size + 1, #[.int .i64 0, .int .i64 0, .int .i64 0, .slice none 0 0]), (w.heap.size, ja)] → J w (W.setCell ⟨w.heap.size + 1 + 1, j, none⟩ u) [(w.heap.size + 1, #[.int .i64 0, .int .i64 0, .int .i64 0, .slice none 0 0]), (w.heap.size, ja)] := fun j u W hW => by
    refine ⟨hW.below.setCell (p := ⟨w.heap.size + 1 + 1, j, none⟩) (by simp only; omega) u, fun x hx => (hW.at_ x hx).off u ?_⟩
    simp only [List.mem_cons, List.not_mem_nil, or_false] at hx
    rcases hx with rfl | rfl <;> simp only <;> omega
  have hr : ∀ (W : World), BxT W (w.heap.size + 1) #[.int .i64 0, .int .i64 0, .int .i64 0, .slice none 0 0] 24 → ∀ j u, BxT (W.setCell ⟨w.heap.size + 1 + 1, j, none⟩ u) (w.heap.size + 1) #[.int .i64 0, .int .i64 0, .int .i64 0, .slice none 0 0] 24 := fun W hW j u => (Below.heap_setCell W ⟨w.heap.size + 1 + 1, j, none⟩ u (w.heap.size + 1) (by simp only; omega)).trans hW
  exact ⟨h1, h2, (((h3.set hb hd 0 _).set (hb.set 0 _) hd 1 _).set ((hb.set 0 _).set 1 _) hd 2 _).set (((hb.set 0 _).set 1 _).set 2 _) hd 3 _, set4 hb, hr _ (hr _ (hr _ (hr _ h.res _ _) _ _) _ _) _ _, ho 3 _ _ (ho 2 _ _ (ho 1 _ _ (ho 0 _ _ h.j)))⟩
theorem ne_of_lt' {a b c : Nat} (h : a < b) (k : b ≤ c) : a ≠ c := by omega

set_option maxHeartbeats 12800000 in
theorem jLoad_any (j : Jr) (w : World) (ht : Tab w) (hj : j.In w) : Calls Tryd.prog 18 #[j.val] w (LP w (JrnP.load j.n0.bs j.n1.bs)) := by
  obtain ⟨h0, h1, _, _⟩ := hj
  obtain ⟨⟨A0, c0, z0⟩, ⟨A1, c1, z1⟩, ⟨A2, c2, z2⟩, ⟨A3, c3, z3⟩⟩ := j
  simp only at h0 h1
  unfold Jr.val Jr.arr RowV.val
  simp only
  obtain ⟨n0, hn0⟩ : ∃ n, z0.length = n := ⟨_, rfl⟩
  obtain ⟨n1, hn1⟩ : ∃ n, z1.length = n := ⟨_, rfl⟩
  generalize z2.length = n2
  generalize z3.length = n3
  rw [hn0, hn1]
  have HF := Lib.hid (fold_in z0 z1 h0.byte h1.byte)
  have HG := Lib.hid (And.intro (gs_in z0 h0.byte) (gs_in z1 h1.byte))
  have H0 : Hid (∀ W, Below w.heap.size w W → Calls Tryd.prog 11 #[.slice A0 n0 c0] W (GP W (JrnP.get z0))) := Lib.hid fun W hW => jGet_any z0 A0 n0 c0 W hn0 (by have := h0.few; simp only at this; omega) (by have := h0.cap; simp only at this; omega) (ht.next hW) (sees_next h0.ty.sees hW) h0.byte
  have H1 : Hid (∀ W, Below w.heap.size w W → Calls Tryd.prog 11 #[.slice A1 n1 c1] W (GP W (JrnP.get z1))) := Lib.hid fun W hW => jGet_any z1 A1 n1 c1 W hn1 (by have := h1.few; simp only at this; omega) (by have := h1.cap; simp only at this; omega) (ht.next hW) (sees_next h1.ty.sees hW) h1.byte
  have HFD : Hid (fold z0 z1 1 = best 0 (fold z0 z1 0) (JrnP.get z0) ∧ fold z0 z1 2 = best 1 (fold z0 z1 1) (JrnP.get z1) ∧ fold z0 z1 2 = JrnP.load z0 z1 ∧ fold z0 z1 0 = bad 0) := Lib.hid ⟨rfl, rfl, rfl, rfl⟩
  clear h0 h1 hn0 hn1
  generalize JrnP.get z0 = g0 at *
  generalize JrnP.get z1 = g1 at *
  generalize JrnP.load z0 z1 = gL at *
  generalize hfo : fold z0 z1 = fo at *
  clear hfo
  have hjb := Lib.hid ((J.one w #[.slice A0 n0 c0, .slice A1 n1 c1, .slice A2 n2 c2, .slice A3 n3 c3] 45).push #[.int .i64 0, .int .i64 0, .int .i64 0, .slice none 0 0] 24 |>.push #[.int .i64 0, .int .i64 0, .int .i64 0, .slice none 0 0] 24)
  have hT := Lib.hid (BxT.new ((w.alloc (.cells #[.slice A0 n0 c0, .slice A1 n1 c1, .slice A2 n2 c2, .slice A3 n3 c3] 45)).alloc (.cells #[.int .i64 0, .int .i64 0, .int .i64 0, .slice none 0 0] 24)) #[.int .i64 0, .int .i64 0, .int .i64 0, .slice none 0 0] 24)
  have hT1 := Lib.hid ((BxT.new (w.alloc (.cells #[.slice A0 n0 c0, .slice A1 n1 c1, .slice A2 n2 c2, .slice A3 n3 c3] 45)) #[.int .i64 0, .int .i64 0, .int .i64 0, .slice none 0 0] 24).next (below_box (o := .cells #[.int .i64 0, .int .i64 0, .int .i64 0, .slice none 0 0] 24)))
  simp only [World.size_alloc] at hjb hT hT1
  obtain ⟨a0, a1, a2, a3⟩ := (hjb.out.bx 2 rfl).c4
  have x0 := idx0 A0 A1 n0 n1 c0 c1
  have x1 := idx1 A0 A1 n0 n1 c0 c1
  go_enter Tryd.func18, Tryd.ntmps18
  go_wp2
  go_loopw [6, 14] (fun most i wr => ∃ (k : Nat) (A : Option Addr) (c : Nat), k ≤ 2 ∧ i = .int .i64 k ∧ most = .int .u64 (fo k).s ∧ Hid (LQ w wr A c (fo k).b (fo k).m (fo k).l (fo k).l.length #[.slice A0 n0 c0, .slice A1 n1 c1, .slice A2 n2 c2, .slice A3 n3 c3])) (fun _ i _ => 2 - (intOf i).toNat)
  case atStart =>
    refine ⟨0, none, 0, by omega, rfl, by rw [HFD.out.2.2.2]; rfl, Lib.hid ?_⟩
    rw [HFD.out.2.2.2]
    exact ⟨Nat.le_refl _, Nat.zero_le _, .inl rfl, hT.out, hT1.out, hjb.out.less (by simp)⟩
  case round =>
    obtain ⟨k, A, c, hk, rfl, rfl, hQ⟩ := hrel
    clear hjb hT hT1 a0 a1 a2 a3
    have ks : k = 0 ∨ k = 1 ∨ k = 2 := by omega
    rcases ks with rfl | rfl | rfl
    ·
      have hf := HFD.out.1
      obtain ⟨ge, gb, gm, gl, gs⟩ := g0
      have hgs := HG.out.1
      simp only at hgs hf
      generalize hfk : fo 0 = fk at *
      have hfs := HF.out 0
      rw [hfk] at hfs
      obtain ⟨fe, fb, fm, fl, fs⟩ := fk
      simp only at hfs hQ
      have HFN := Lib.hid hf
      obtain ⟨nl, hnl⟩ : ∃ nl, gl.length = nl := ⟨_, rfl⟩
      obtain ⟨nf, hnf⟩ : ∃ nf, fl.length = nf := ⟨_, rfl⟩
      have HGk : Hid (∀ W, Below w.heap.size w W → Calls Tryd.prog 11 #[.slice A0 n0 c0] W (GQ W ge gb gm gl gs nl)) := Lib.hid fun W hW => (H0.out W hW).mono fun e w' h => GQ.of h hnl
      rw [hnf] at hQ
      have HNL := Lib.hid (And.intro hnl hnf)
      have ways : ge ≠ 0 ∨ (ge = 0 ∧ gs % 2 ≠ 0) ∨ (ge = 0 ∧ gs % 2 = 0 ∧ ¬ fs < gs) ∨ (ge = 0 ∧ gs % 2 = 0 ∧ fs < gs) := by omega
      clear hf hfk hnl hnf H0 H1
      rcases ways with hw | ⟨rfl, hw⟩ | ⟨rfl, hw, hw2⟩ | ⟨rfl, hw, hw2⟩
      ·
        have d1 : decide (ge = 0) = false := decide_eq_false hw
        have d2 : (ge == 0) = false := beq_eq_false_iff_ne.2 hw
        have e : fo 1 = ⟨fe, fb, fm, fl, fs⟩ := HFN.out.trans (best_no (.inl hw))
        have HE := Lib.hid e
        clear e hw
        go_wp2_with (go_at_call 11; go_must ((with_reducible refine (HGk.out _ hQ.out.j.below).mono ?_); clear HGk; rintro e w1 ⟨A4, c4, rfl, hc4, hm4, hs4, h1⟩; have hQ1 := Lib.hid (lq_next hQ.out h1 (.cells #[.int .i64 gb, .int .i64 gm, .int .i64 0, .slice A4 nl c4] 24)); have hs5 := Lib.hid (hs4.next (below_box (o := .cells #[.int .i64 gb, .int .i64 gm, .int .i64 0, .slice A4 nl c4] 24))); obtain ⟨z0, z1, z2, z3⟩ := hQ1.out.box.bx.c4; obtain ⟨f0, f1, f2, f3⟩ := hQ1.out.box.bx.f4; have n1 : w.heap.size + 1 + 1 ≠ w1.heap.size := ne_of_lt' hQ.out.box.bx.lt h1.size; have n2 : w1.heap.size ≠ w.heap.size + 1 + 1 := fun e => n1 e.symm; obtain ⟨b0, b1, b2, b3⟩ := (Bx.new w1 #[.int .i64 gb, .int .i64 gm, .int .i64 0, .slice A4 nl c4] 24).c4; clear h1 hs4))
        go_roundw
        case rel =>
          have e := HE.out
          exact ⟨1, A, c, by omega, rfl, by rw [e], Lib.hid (by rw [e]; simp only [HNL.out.2]; exact hQ1.out)⟩
        case measure => simp [intOf]
      ·
        have d1 : decide (gs % 2 = 0) = false := decide_eq_false hw
        have d2 : (gs % 2 == 0) = false := beq_eq_false_iff_ne.2 hw
        have e : fo 1 = ⟨fe, fb, fm, fl, fs⟩ := HFN.out.trans (best_no (.inr (.inl hw)))
        have HE := Lib.hid e
        clear e hw
        go_wp2_with (go_at_call 11; go_must ((with_reducible refine (HGk.out _ hQ.out.j.below).mono ?_); clear HGk; rintro e w1 ⟨A4, c4, rfl, hc4, hm4, hs4, h1⟩; have hQ1 := Lib.hid (lq_next hQ.out h1 (.cells #[.int .i64 gb, .int .i64 gm, .int .i64 0, .slice A4 nl c4] 24)); have hs5 := Lib.hid (hs4.next (below_box (o := .cells #[.int .i64 gb, .int .i64 gm, .int .i64 0, .slice A4 nl c4] 24))); obtain ⟨z0, z1, z2, z3⟩ := hQ1.out.box.bx.c4; obtain ⟨f0, f1, f2, f3⟩ := hQ1.out.box.bx.f4; have n1 : w.heap.size + 1 + 1 ≠ w1.heap.size := ne_of_lt' hQ.out.box.bx.lt h1.size; have n2 : w1.heap.size ≠ w.heap.size + 1 + 1 := fun e => n1 e.symm; obtain ⟨b0, b1, b2, b3⟩ := (Bx.new w1 #[.int .i64 gb, .int .i64 gm, .int .i64 0, .slice A4 nl c4] 24).c4; clear h1 hs4))
        go_roundw
        case rel =>
          have e := HE.out
          exact ⟨1, A, c, by omega, rfl, by rw [e], Lib.hid (by rw [e]; simp only [HNL.out.2]; exact hQ1.out)⟩
        case measure => simp [intOf]
      ·
        have d1 : decide (gs % 2 = 0) = true := decide_eq_true hw
        have d2 : (gs % 2 == 0) = true := beq_iff_eq.2 hw
        have d3 : decide (fs < gs) = false := decide_eq_false hw2
        have e : fo 1 = ⟨fe, fb, fm, fl, fs⟩ := HFN.out.trans (best_no (.inr (.inr hw2)))
        have HE := Lib.hid e
        clear e
        go_wp2_with (go_at_call 11; go_must ((with_reducible refine (HGk.out _ hQ.out.j.below).mono ?_); clear HGk; rintro e w1 ⟨A4, c4, rfl, hc4, hm4, hs4, h1⟩; have hQ1 := Lib.hid (lq_next hQ.out h1 (.cells #[.int .i64 gb, .int .i64 gm, .int .i64 0, .slice A4 nl c4] 24)); have hs5 := Lib.hid (hs4.next (below_box (o := .cells #[.int .i64 gb, .int .i64 gm, .int .i64 0, .slice A4 nl c4] 24))); obtain ⟨z0, z1, z2, z3⟩ := hQ1.out.box.bx.c4; obtain ⟨f0, f1, f2, f3⟩ := hQ1.out.box.bx.f4; have n1 : w.heap.size + 1 + 1 ≠ w1.heap.size := ne_of_lt' hQ.out.box.bx.lt h1.size; have n2 : w1.heap.size ≠ w.heap.size + 1 + 1 := fun e => n1 e.symm; obtain ⟨b0, b1, b2, b3⟩ := (Bx.new w1 #[.int .i64 gb, .int .i64 gm, .int .i64 0, .slice A4 nl c4] 24).c4; clear h1 hs4))
        go_roundw
        case rel =>
          have e := HE.out
          exact ⟨1, A, c, by omega, rfl, by rw [e], Lib.hid (by rw [e]; simp only [HNL.out.2]; exact hQ1.out)⟩
        case measure => simp [intOf]
      ·
        have d1 : decide (gs % 2 = 0) = true := decide_eq_true hw
        have d2 : (gs % 2 == 0) = true := beq_iff_eq.2 hw
        have d3 : decide (fs < gs) = true := decide_eq_true hw2
        have e : fo 1 = ⟨0, gb, gm, gl, gs⟩ := HFN.out.trans (best_yes rfl hw hw2)
        have HE := Lib.hid e
        clear e
        go_wp2_with (go_at_call 11; go_must ((with_reducible refine (HGk.out _ hQ.out.j.below).mono ?_); clear HGk; rintro e w1 ⟨A4, c4, rfl, hc4, hm4, hs4, h1⟩; have hQ1 := Lib.hid (lq_next hQ.out h1 (.cells #[.int .i64 gb, .int .i64 gm, .int .i64 0, .slice A4 nl c4] 24)); have hs5 := Lib.hid (hs4.next (below_box (o := .cells #[.int .i64 gb, .int .i64 gm, .int .i64 0, .slice A4 nl c4] 24))); obtain ⟨z0, z1, z2, z3⟩ := hQ1.out.box.bx.c4; obtain ⟨f0, f1, f2, f3⟩ := hQ1.out.box.bx.f4; have n1 : w.heap.size + 1 + 1 ≠ w1.heap.size := ne_of_lt' hQ.out.box.bx.lt h1.size; have n2 : w1.heap.size ≠ w.heap.size + 1 + 1 := fun e => n1 e.symm; obtain ⟨b0, b1, b2, b3⟩ := (Bx.new w1 #[.int .i64 gb, .int .i64 gm, .int .i64 0, .slice A4 nl c4] 24).c4; clear h1 hs4))
        go_roundw
        case rel =>
          have e := HE.out
          exact ⟨1, A4, c4, by omega, rfl, by rw [e], Lib.hid (by rw [e]; simp only [HNL.out.1]; exact lq_store hQ1.out hc4 hm4 hs5.out)⟩
        case measure => simp [intOf]
    ·
      have hf := HFD.out.2.1
      obtain ⟨ge, gb, gm, gl, gs⟩ := g1
      have hgs := HG.out.2
      simp only at hgs hf
      generalize hfk : fo 1 = fk at *
      have hfs := HF.out 1
      rw [hfk] at hfs
      obtain ⟨fe, fb, fm, fl, fs⟩ := fk
      simp only at hfs hQ
      have HFN := Lib.hid hf
      obtain ⟨nl, hnl⟩ : ∃ nl, gl.length = nl := ⟨_, rfl⟩
      obtain ⟨nf, hnf⟩ : ∃ nf, fl.length = nf := ⟨_, rfl⟩
      have HGk : Hid (∀ W, Below w.heap.size w W → Calls Tryd.prog 11 #[.slice A1 n1 c1] W (GQ W ge gb gm gl gs nl)) := Lib.hid fun W hW => (H1.out W hW).mono fun e w' h => GQ.of h hnl
      rw [hnf] at hQ
      have HNL := Lib.hid (And.intro hnl hnf)
      have ways : ge ≠ 0 ∨ (ge = 0 ∧ gs % 2 ≠ 1) ∨ (ge = 0 ∧ gs % 2 = 1 ∧ ¬ fs < gs) ∨ (ge = 0 ∧ gs % 2 = 1 ∧ fs < gs) := by omega
      clear hf hfk hnl hnf H0 H1
      rcases ways with hw | ⟨rfl, hw⟩ | ⟨rfl, hw, hw2⟩ | ⟨rfl, hw, hw2⟩
      ·
        have d1 : decide (ge = 0) = false := decide_eq_false hw
        have d2 : (ge == 0) = false := beq_eq_false_iff_ne.2 hw
        have e : fo 2 = ⟨fe, fb, fm, fl, fs⟩ := HFN.out.trans (best_no (.inl hw))
        have HE := Lib.hid e
        clear e hw
        go_wp2_with (go_at_call 11; go_must ((with_reducible refine (HGk.out _ hQ.out.j.below).mono ?_); clear HGk; rintro e w1 ⟨A4, c4, rfl, hc4, hm4, hs4, h1⟩; have hQ1 := Lib.hid (lq_next hQ.out h1 (.cells #[.int .i64 gb, .int .i64 gm, .int .i64 0, .slice A4 nl c4] 24)); have hs5 := Lib.hid (hs4.next (below_box (o := .cells #[.int .i64 gb, .int .i64 gm, .int .i64 0, .slice A4 nl c4] 24))); obtain ⟨z0, z1, z2, z3⟩ := hQ1.out.box.bx.c4; obtain ⟨f0, f1, f2, f3⟩ := hQ1.out.box.bx.f4; have n1 : w.heap.size + 1 + 1 ≠ w1.heap.size := ne_of_lt' hQ.out.box.bx.lt h1.size; have n2 : w1.heap.size ≠ w.heap.size + 1 + 1 := fun e => n1 e.symm; obtain ⟨b0, b1, b2, b3⟩ := (Bx.new w1 #[.int .i64 gb, .int .i64 gm, .int .i64 0, .slice A4 nl c4] 24).c4; clear h1 hs4))
        go_roundw
        case rel =>
          have e := HE.out
          exact ⟨2, A, c, by omega, rfl, by rw [e], Lib.hid (by rw [e]; simp only [HNL.out.2]; exact hQ1.out)⟩
        case measure => simp [intOf]
      ·
        have d1 : decide (gs % 2 = 1) = false := decide_eq_false hw
        have d2 : (gs % 2 == 1) = false := beq_eq_false_iff_ne.2 hw
        have e : fo 2 = ⟨fe, fb, fm, fl, fs⟩ := HFN.out.trans (best_no (.inr (.inl hw)))
        have HE := Lib.hid e
        clear e hw
        go_wp2_with (go_at_call 11; go_must ((with_reducible refine (HGk.out _ hQ.out.j.below).mono ?_); clear HGk; rintro e w1 ⟨A4, c4, rfl, hc4, hm4, hs4, h1⟩; have hQ1 := Lib.hid (lq_next hQ.out h1 (.cells #[.int .i64 gb, .int .i64 gm, .int .i64 0, .slice A4 nl c4] 24)); have hs5 := Lib.hid (hs4.next (below_box (o := .cells #[.int .i64 gb, .int .i64 gm, .int .i64 0, .slice A4 nl c4] 24))); obtain ⟨z0, z1, z2, z3⟩ := hQ1.out.box.bx.c4; obtain ⟨f0, f1, f2, f3⟩ := hQ1.out.box.bx.f4; have n1 : w.heap.size + 1 + 1 ≠ w1.heap.size := ne_of_lt' hQ.out.box.bx.lt h1.size; have n2 : w1.heap.size ≠ w.heap.size + 1 + 1 := fun e => n1 e.symm; obtain ⟨b0, b1, b2, b3⟩ := (Bx.new w1 #[.int .i64 gb, .int .i64 gm, .int .i64 0, .slice A4 nl c4] 24).c4; clear h1 hs4))
        go_roundw
        case rel =>
          have e := HE.out
          exact ⟨2, A, c, by omega, rfl, by rw [e], Lib.hid (by rw [e]; simp only [HNL.out.2]; exact hQ1.out)⟩
        case measure => simp [intOf]
      ·
        have d1 : decide (gs % 2 = 1) = true := decide_eq_true hw
        have d2 : (gs % 2 == 1) = true := beq_iff_eq.2 hw
        have d3 : decide (fs < gs) = false := decide_eq_false hw2
        have e : fo 2 = ⟨fe, fb, fm, fl, fs⟩ := HFN.out.trans (best_no (.inr (.inr hw2)))
        have HE := Lib.hid e
        clear e
        go_wp2_with (go_at_call 11; go_must ((with_reducible refine (HGk.out _ hQ.out.j.below).mono ?_); clear HGk; rintro e w1 ⟨A4, c4, rfl, hc4, hm4, hs4, h1⟩; have hQ1 := Lib.hid (lq_next hQ.out h1 (.cells #[.int .i64 gb, .int .i64 gm, .int .i64 0, .slice A4 nl c4] 24)); have hs5 := Lib.hid (hs4.next (below_box (o := .cells #[.int .i64 gb, .int .i64 gm, .int .i64 0, .slice A4 nl c4] 24))); obtain ⟨z0, z1, z2, z3⟩ := hQ1.out.box.bx.c4; obtain ⟨f0, f1, f2, f3⟩ := hQ1.out.box.bx.f4; have n1 : w.heap.size + 1 + 1 ≠ w1.heap.size := ne_of_lt' hQ.out.box.bx.lt h1.size; have n2 : w1.heap.size ≠ w.heap.size + 1 + 1 := fun e => n1 e.symm; obtain ⟨b0, b1, b2, b3⟩ := (Bx.new w1 #[.int .i64 gb, .int .i64 gm, .int .i64 0, .slice A4 nl c4] 24).c4; clear h1 hs4))
        go_roundw
        case rel =>
          have e := HE.out
          exact ⟨2, A, c, by omega, rfl, by rw [e], Lib.hid (by rw [e]; simp only [HNL.out.2]; exact hQ1.out)⟩
        case measure => simp [intOf]
      ·
        have d1 : decide (gs % 2 = 1) = true := decide_eq_true hw
        have d2 : (gs % 2 == 1) = true := beq_iff_eq.2 hw
        have d3 : decide (fs < gs) = true := decide_eq_true hw2
        have e : fo 2 = ⟨0, gb, gm, gl, gs⟩ := HFN.out.trans (best_yes rfl hw hw2)
        have HE := Lib.hid e
        clear e
        go_wp2_with (go_at_call 11; go_must ((with_reducible refine (HGk.out _ hQ.out.j.below).mono ?_); clear HGk; rintro e w1 ⟨A4, c4, rfl, hc4, hm4, hs4, h1⟩; have hQ1 := Lib.hid (lq_next hQ.out h1 (.cells #[.int .i64 gb, .int .i64 gm, .int .i64 0, .slice A4 nl c4] 24)); have hs5 := Lib.hid (hs4.next (below_box (o := .cells #[.int .i64 gb, .int .i64 gm, .int .i64 0, .slice A4 nl c4] 24))); obtain ⟨z0, z1, z2, z3⟩ := hQ1.out.box.bx.c4; obtain ⟨f0, f1, f2, f3⟩ := hQ1.out.box.bx.f4; have n1 : w.heap.size + 1 + 1 ≠ w1.heap.size := ne_of_lt' hQ.out.box.bx.lt h1.size; have n2 : w1.heap.size ≠ w.heap.size + 1 + 1 := fun e => n1 e.symm; obtain ⟨b0, b1, b2, b3⟩ := (Bx.new w1 #[.int .i64 gb, .int .i64 gm, .int .i64 0, .slice A4 nl c4] 24).c4; clear h1 hs4))
        go_roundw
        case rel =>
          have e := HE.out
          exact ⟨2, A4, c4, by omega, rfl, by rw [e], Lib.hid (by rw [e]; simp only [HNL.out.1]; exact lq_store hQ1.out hc4 hm4 hs5.out)⟩
        case measure => simp [intOf]
    · have hgL := HFD.out.2.2.1
      have hfs := HF.out 2
      rw [hgL] at hfs hQ
      rw [hgL]
      clear H0 H1
      obtain ⟨fe, fb, fm, fl, fs⟩ := gL
      simp only at hQ hfs
      obtain ⟨nf, hnf⟩ : ∃ nf, fl.length = nf := ⟨_, rfl⟩
      rw [hnf] at hQ
      have HNF := Lib.hid hnf
      clear hnf
      obtain ⟨z0, z1, z2, z3⟩ := hQ.out.box.bx.c4
      obtain ⟨f0, f1, f2, f3⟩ := (hQ.out.j.bx 0 rfl).f4
      obtain ⟨y0, y1, y2, y3⟩ := (hQ.out.j.bx 0 rfl).c4
      go_wp2
      have hne : ∀ x ∈ ([] : List (Nat × Array Value)), x.1 ≠ w.heap.size + 1 := fun x hx => by cases hx
      have hje := ((((hQ.out.j.less (bs' := [(w.heap.size + 1, #[.int .i64 0, .int .i64 0, .int .i64 0, .slice none 0 0])]) (by simp)).put (by omega) hne 0 (.int .i64 fb)).put (by omega) hne 1 (.int .i64 fm)).put (by omega) hne 2 (.int .i64 0)).put (by omega) hne 3 (.slice A nf c)
      obtain ⟨k0, k1, k2, k3⟩ := (hje.bx 0 rfl).c4
      have hbt := hQ.out.res
      have hd : (24 : TypeId) ≠ 69 := by decide
      have hTe := (((hQ.out.ty.set hbt hd 0 (.int .i64 fb)).set (hbt.set 0 (.int .i64 fb)) hd 1 (.int .i64 fm)).set ((hbt.set 0 (.int .i64 fb)).set 1 (.int .i64 fm)) hd 2 (.int .i64 0)).set (((hbt.set 0 (.int .i64 fb)).set 1 (.int .i64 fm)).set 2 (.int .i64 0)) hd 3 (.slice A nf c)
      refine bodyPost_ret (v := .tuple #[.agg #[.int .i64 fb, .int .i64 fm, .int .i64 0, .slice A nf c], .int .u64 fs, .bool (decide (0 < fs))]) (by simp [results, Tryd.results18, go_sem, k0, k1, k2, k3]) rfl ⟨A, c, by simp only [HNF.out], by simp only [HNF.out]; exact hQ.out.cap, hQ.out.max, hTe, hje.below⟩

end Go.Proofs.YtgbgbodhpahceaaDoor.Jrn

/- The contract of Tear. -/
namespace Go.Proofs.YtgbgbodhpahceaaDoor.Jrn
open Go.RowKit Go.Proofs.YtgbgbodhpahceaaDoor.Plain Go.Proofs.YtgbgbodhpahceaaDoor.Sees Go.Proofs.YtgbgbodhpahceaaDoor.Oct Go.Proofs.YtgbgbodhpahceaaDoor.Crc Go.Proofs.YtgbgbodhpahceaaDoor.Box Go.Proofs.YtgbgbodhpahceaaDoor.Held Go.Proofs.YtgbgbodhpahceaaDoor.JrnP
set_option linter.unusedVariables false
set_option maxRecDepth 100000

theorem torn_row (r a : RowV) (k : Nat) (w : World) (hk : k ≤ 9223372036854775807) (hr : RT w r) (ha : RT w a) :
    Calls Tryd.prog 42 #[r.val, a.val, .int .i64 k] w fun e w' => ∃ q : RowV, e = .returned q.val ∧ (RT w' q ∧ q.bs = torn r.bs a.bs k) ∧ Below w.heap.size w w' := by
  refine (torn_any r.bs a.bs r.A a.A r.bs.length r.c a.bs.length a.c k w rfl rfl hr.cap hr.max ha.cap (by have := hr.few; omega) (by have := ha.few; omega) hk hr.ty ha.ty.sees hr.byte ha.byte).mono ?_
  rintro e w' ⟨A, c, rfl, h1, h2, h3, h4⟩
  exact ⟨⟨A, c, torn r.bs a.bs k⟩, rfl, ⟨⟨h1, h2, h3, torn_in hr.byte ha.byte, by have := torn_len r.bs a.bs k; have := hr.few; have := ha.few; simp only; omega⟩, rfl⟩, h4⟩
/-- a place, torn -/
def TV (v : Value) (W : World) (r a : RowV) (k : Nat) : Prop := ∃ q : RowV, v = q.val ∧ RT W q ∧ q.bs = torn r.bs a.bs k
theorem TV.next {v : Value} {W W' : World} {r a : RowV} {k : Nat} (h : TV v W r a k) (hb : Below W.heap.size W W') : TV v W' r a k := by
  obtain ⟨q, h1, h2, h3⟩ := h
  exact ⟨q, h1, h2.next hb, h3⟩
/-- while Tear runs -/
structure TQ (w wr : World) (j : Jr) : Prop where
  box : BxT wr w.heap.size j.arr 45
  res : BxT wr (w.heap.size + 1) #[.slice none 0 0, .slice none 0 0, .slice none 0 0, .slice none 0 0] 45
  in_ : j.In wr
  bel : Below w.heap.size w wr
theorem TQ.next {w wr wr' : World} {j : Jr} (h : TQ w wr j) (hb : Below wr.heap.size wr wr') : TQ w wr' j := ⟨h.box.next hb, h.res.next hb, h.in_.next hb, h.bel.trans (hb.mono h.bel.size)⟩
theorem RT.setJ {w wr : World} {j : Jr} (h : TQ w wr j) {r : RowV} (hr : RT wr r) (i : Nat) (u : Value) : RT (wr.setCell ⟨w.heap.size, i, none⟩ u) r := hr.set h.box (by decide) i u
theorem TQ.set {w wr : World} {j j' : Jr} (h : TQ w wr j) (i : Nat) (u : Value) (ha : j.arr.setIfInBounds i u = j'.arr) (hi : j'.In wr) : TQ w (wr.setCell ⟨w.heap.size, i, none⟩ u) j' :=
  ⟨by rw [← ha]; exact h.box.set i u, (Below.heap_setCell wr ⟨w.heap.size, i, none⟩ u (w.heap.size + 1) (by simp only; omega)).trans h.res, hi.set h.box (by decide) i u, h.bel.setCell (p := ⟨w.heap.size, i, none⟩) (Nat.le_refl _) u⟩
def TearF0 (X : Nat) (r a : RowV) (n : Int) (k : Nat) : Nat → Value → World → Prop
  | 0, vv, _ => vv = .int .i64 0
  | 1, vv, _ => vv = .int .i64 0
  | 2, vv, _ => vv = .pointer (some ⟨X, 0, none⟩)
  | 3, vv, _ => vv = .pointer (some ⟨X, 0, none⟩)
  | 4, vv, _ => vv = r.val
  | 5, vv, _ => vv = .int .i64 0
  | 6, vv, _ => vv = .pointer (some ⟨X, 2, none⟩)
  | 7, vv, _ => vv = .pointer (some ⟨X, 2, none⟩)
  | 8, vv, _ => vv = a.val
  | 9, vv, _ => vv = .int .i64 n
  | 10, vv, _ => vv = .int .i64 k
  | 11, vv, w' => TV vv w' r a k
  | 12, vv, _ => vv = .pointer (some ⟨X, 0, none⟩)
  | 13, vv, _ => vv = .pointer (some ⟨X, 0, none⟩)
  | _, _, _ => True
def TearF1 (X : Nat) (r a : RowV) (n : Int) (k : Nat) : Nat → Value → World → Prop
  | 0, vv, _ => vv = .int .i64 1
  | 1, vv, _ => vv = .int .i64 1
  | 2, vv, _ => vv = .pointer (some ⟨X, 0, none⟩)
  | 3, vv, _ => vv = .pointer (some ⟨X, 1, none⟩)
  | 4, vv, _ => vv = r.val
  | 5, vv, _ => vv = .int .i64 1
  | 6, vv, _ => vv = .pointer (some ⟨X, 2, none⟩)
  | 7, vv, _ => vv = .pointer (some ⟨X, 3, none⟩)
  | 8, vv, _ => vv = a.val
  | 9, vv, _ => vv = .int .i64 n
  | 10, vv, _ => vv = .int .i64 k
  | 11, vv, w' => TV vv w' r a k
  | 12, vv, _ => vv = .pointer (some ⟨X, 0, none⟩)
  | 13, vv, _ => vv = .pointer (some ⟨X, 1, none⟩)
  | _, _, _ => True

set_option maxHeartbeats 12800000 in
theorem jTear_any (j : Jr) (n : Int) (w : World) (hn : n ≤ 9223372036854775807) (hj : j.In w) : Calls Tryd.prog 21 #[j.val, .int .i64 n] w (JP w (torn j.n0.bs j.a0.bs n.toNat) (torn j.n1.bs j.a1.bs n.toNat) j.a0.bs j.a1.bs) := by
  have HM : Hid (∀ W, (Builtin.max_ #[3, 3] 3 #[.int .i64 0, .int .i64 n]).run Tryd.prog W = .ok (.int .i64 (n.toNat : Int)) W) := Lib.hid fun W => by
    rw [run_max_int2]; congr 2; split <;> omega
  have hk : n.toNat ≤ 9223372036854775807 := by omega
  generalize n.toNat = k at *
  obtain ⟨r0, r1, a0, a1⟩ := j
  unfold Jr.val Jr.arr
  simp only
  have hQ : Hid (TQ w ((w.alloc (.cells #[r0.val, r1.val, a0.val, a1.val] 45)).alloc (.cells #[.slice none 0 0, .slice none 0 0, .slice none 0 0, .slice none 0 0] 45)) ⟨r0, r1, a0, a1⟩) := Lib.hid
    ⟨(BxT.new w _ _).next below_box, by have := BxT.new (w.alloc (.cells #[r0.val, r1.val, a0.val, a1.val] 45)) #[.slice none 0 0, .slice none 0 0, .slice none 0 0, .slice none 0 0] 45; rwa [World.size_alloc] at this, (hj.next below_box).next below_box, below_two⟩
  clear hj
  go_enter Tryd.func21, Tryd.ntmps21
  go_wp2
  generalize hW0 : (w.alloc (.cells #[r0.val, r1.val, a0.val, a1.val] 45)).alloc (.cells #[.slice none 0 0, .slice none 0 0, .slice none 0 0, .slice none 0 0] 45) = w0 at hQ ⊢
  clear hW0
  refine wp_loop_rounds 3 ?_
  rw [rounds_succ]
  go_wp2
  have HA : Hid (∀ W, Below w0.heap.size w0 W → W.cell? ⟨w.heap.size, 0, none⟩ = some r0.val ∧ W.cell? ⟨w.heap.size, 2, none⟩ = some a0.val ∧ Calls Tryd.prog 42 #[r0.val, a0.val, .int .i64 k] W fun e w' => ∃ q : RowV, e = .returned q.val ∧ (RT w' q ∧ q.bs = torn r0.bs a0.bs k) ∧ Below W.heap.size W w') := Lib.hid fun W hW =>
    ⟨(hQ.out.next hW).box.bx.cell rfl, (hQ.out.next hW).box.bx.cell rfl, torn_row r0 a0 k W hk (hQ.out.in_.n0.next hW) (hQ.out.in_.a0.next hW)⟩
  refine Held.wp_region_invt 14 (TearF0 w.heap.size r0 a0 n k) (by kernel_rfl) (by kernel_rfl) ?_ ?_ ?_
  · intro i v W W' h hb
    unfold TearF0 at h ⊢
    split at h <;> first | exact h | exact TV.next h hb 
  · intro i o x W K hi ho hB hd hK
    have HX := Lib.hid (HA.out W hB)
    match i, ho with
    | 0, ho =>
      obtain rfl := Option.some.inj ho
      simp only [Inv.fill, Act.put, List.setIfInBounds_toArray, List.set_cons_zero, List.set_cons_succ, List.take_succ_cons, List.take_zero] at hK ⊢
      clear hd ho
      rw [wpOp]
      refine (if_pos rfl).mpr (.inl ?_)
      go_simp
      exact hK _ _ (Below.refl _ _) rfl
    | 1, ho =>
      obtain rfl := Option.some.inj ho
      simp only [Inv.fill, Act.put, List.setIfInBounds_toArray, List.set_cons_zero, List.set_cons_succ, List.take_succ_cons, List.take_zero] at hK ⊢
      clear hd ho
      rw [wpOp]
      refine (if_pos rfl).mpr (.inl ?_)
      go_simp
      exact hK _ _ (Below.refl _ _) rfl
    | 2, ho =>
      obtain rfl := Option.some.inj ho
      simp only [Inv.fill, Act.put, List.setIfInBounds_toArray, List.set_cons_zero, List.set_cons_succ, List.take_succ_cons, List.take_zero] at hK ⊢
      clear hd ho
      rw [wpOp]
      refine (if_pos rfl).mpr (.inl ?_)
      go_simp
      exact hK _ _ (Below.refl _ _) rfl
    | 3, ho =>
      obtain rfl := Option.some.inj ho
      have e2 : x 2 = .pointer (some ⟨w.heap.size, 0, none⟩) := hd ⟨2, .data⟩ (by simp) rfl
      have e1 : x 1 = .int .i64 0 := hd ⟨1, .data⟩ (by simp) rfl
      simp only [Inv.fill, Act.put, List.setIfInBounds_toArray, List.set_cons_zero, List.set_cons_succ, List.take_succ_cons, List.take_zero, e2, e1] at hK ⊢
      clear hd ho e2 e1
      rw [wpOp]
      refine (if_pos rfl).mpr (.inl ?_)
      go_simp
      exact hK _ _ (Below.refl _ _) rfl
    | 4, ho =>
      obtain rfl := Option.some.inj ho
      have e3 : x 3 = .pointer (some ⟨w.heap.size, 0, none⟩) := hd ⟨3, .data⟩ (by simp) rfl
      simp only [Inv.fill, Act.put, List.setIfInBounds_toArray, List.set_cons_zero, List.set_cons_succ, List.take_succ_cons, List.take_zero, e3] at hK ⊢
      clear hd ho e3
      rw [wpOp]
      refine (if_pos rfl).mpr (.inl ?_)
      have k0 := HX.out.1
      go_simp
      exact hK _ _ (Below.refl _ _) rfl
    | 5, ho =>
      obtain rfl := Option.some.inj ho
      simp only [Inv.fill, Act.put, List.setIfInBounds_toArray, List.set_cons_zero, List.set_cons_succ, List.take_succ_cons, List.take_zero] at hK ⊢
      clear hd ho
      rw [wpOp]
      refine (if_pos rfl).mpr (.inl ?_)
      go_simp
      exact hK _ _ (Below.refl _ _) rfl
    | 6, ho =>
      obtain rfl := Option.some.inj ho
      simp only [Inv.fill, Act.put, List.setIfInBounds_toArray, List.set_cons_zero, List.set_cons_succ, List.take_succ_cons, List.take_zero] at hK ⊢
      clear hd ho
      rw [wpOp]
      refine (if_pos rfl).mpr (.inl ?_)
      go_simp
      exact hK _ _ (Below.refl _ _) rfl
    | 7, ho =>
      obtain rfl := Option.some.inj ho
      have e6 : x 6 = .pointer (some ⟨w.heap.size, 2, none⟩) := hd ⟨6, .data⟩ (by simp) rfl
      have e5 : x 5 = .int .i64 0 := hd ⟨5, .data⟩ (by simp) rfl
      simp only [Inv.fill, Act.put, List.setIfInBounds_toArray, List.set_cons_zero, List.set_cons_succ, List.take_succ_cons, List.take_zero, e6, e5] at hK ⊢
      clear hd ho e6 e5
      rw [wpOp]
      refine (if_pos rfl).mpr (.inl ?_)
      go_simp
      exact hK _ _ (Below.refl _ _) rfl
    | 8, ho =>
      obtain rfl := Option.some.inj ho
      have e7 : x 7 = .pointer (some ⟨w.heap.size, 2, none⟩) := hd ⟨7, .data⟩ (by simp) rfl
      simp only [Inv.fill, Act.put, List.setIfInBounds_toArray, List.set_cons_zero, List.set_cons_succ, List.take_succ_cons, List.take_zero, e7] at hK ⊢
      clear hd ho e7
      rw [wpOp]
      refine (if_pos rfl).mpr (.inl ?_)
      have k1 := HX.out.2.1
      go_simp
      exact hK _ _ (Below.refl _ _) rfl
    | 9, ho =>
      obtain rfl := Option.some.inj ho
      simp only [Inv.fill, Act.put, List.setIfInBounds_toArray, List.set_cons_zero, List.set_cons_succ, List.take_succ_cons, List.take_zero] at hK ⊢
      clear hd ho
      rw [wpOp]
      refine (if_pos rfl).mpr (.inl ?_)
      go_simp
      exact hK _ _ (Below.refl _ _) rfl
    | 10, ho =>
      obtain rfl := Option.some.inj ho
      have e9 : x 9 = .int .i64 n := hd ⟨9, .data⟩ (by simp) rfl
      simp only [Inv.fill, Act.put, List.setIfInBounds_toArray, List.set_cons_zero, List.set_cons_succ, List.take_succ_cons, List.take_zero, e9] at hK ⊢
      clear hd ho e9
      rw [wpOp]
      refine (if_pos rfl).mpr (.inl ?_)
      have k2 := HM.out W
      go_simp
      exact hK _ _ (Below.refl _ _) rfl
    | 11, ho =>
      obtain rfl := Option.some.inj ho
      have e4 : x 4 = r0.val := hd ⟨4, .data⟩ (by simp) rfl
      have e8 : x 8 = a0.val := hd ⟨8, .data⟩ (by simp) rfl
      have e10 : x 10 = .int .i64 k := hd ⟨10, .data⟩ (by simp) rfl
      simp only [Inv.fill, Act.put, List.setIfInBounds_toArray, List.set_cons_zero, List.set_cons_succ, List.take_succ_cons, List.take_zero, e4, e8, e10] at hK ⊢
      clear hd ho e4 e8 e10
      rw [wpOp]
      refine (if_pos rfl).mpr (.inl ?_)
      have hc := HX.out.2.2
      go_simp
      refine hc.mono ?_
      rintro e w2 ⟨q, rfl, h1, h2⟩
      exact hK _ _ h2 ⟨q, rfl, h1⟩
    | 12, ho =>
      obtain rfl := Option.some.inj ho
      simp only [Inv.fill, Act.put, List.setIfInBounds_toArray, List.set_cons_zero, List.set_cons_succ, List.take_succ_cons, List.take_zero] at hK ⊢
      clear hd ho
      rw [wpOp]
      refine (if_pos rfl).mpr (.inl ?_)
      go_simp
      exact hK _ _ (Below.refl _ _) rfl
    | 13, ho =>
      obtain rfl := Option.some.inj ho
      have e12 : x 12 = .pointer (some ⟨w.heap.size, 0, none⟩) := hd ⟨12, .data⟩ (by simp) rfl
      have e0 : x 0 = .int .i64 0 := hd ⟨0, .data⟩ (by simp) rfl
      simp only [Inv.fill, Act.put, List.setIfInBounds_toArray, List.set_cons_zero, List.set_cons_succ, List.take_succ_cons, List.take_zero, e12, e0] at hK ⊢
      clear hd ho e12 e0
      rw [wpOp]
      refine (if_pos rfl).mpr (.inl ?_)
      go_simp
      exact hK _ _ (Below.refl _ _) rfl
    | n + 14, ho => exact absurd hi (by omega)
  · intro x W hB hx
    obtain ⟨r11, e11, hr11⟩ := (hx 11 (by simp) : TV (x 11) W r0 a0 k)
    have e13 : x 13 = .pointer (some ⟨w.heap.size, 0, none⟩) := hx 13 (by simp)
    simp only [Inv.fill, Act.put, List.setIfInBounds_toArray, List.set_cons_zero, List.set_cons_succ, List.take_succ_cons, List.take_zero, List.drop_succ_cons, List.drop_zero, e11, e13]
    clear hx e11 e13
    have hQ1 := Lib.hid (hQ.out.next hB)
    obtain ⟨A11, c11, z11⟩ := r11
    obtain ⟨k0, k1, k2, k3⟩ := hQ1.out.box.bx.c4
    obtain ⟨f0, f1, f2, f3⟩ := hQ1.out.box.bx.f4
    have hQ2 : Hid (TQ w (W.setCell ⟨w.heap.size, 0, none⟩ (RowV.val ⟨A11, c11, z11⟩)) ⟨⟨A11, c11, z11⟩, r1, a0, a1⟩) := Lib.hid (hQ1.out.set 0 _ rfl ⟨hr11.1, hQ1.out.in_.n1, hQ1.out.in_.a0, hQ1.out.in_.a1⟩)
    have HE := Lib.hid hr11.2
    clear hQ hB hr11 HA hQ1
    change wpList _ _ _ _ _ _
    simp only [RowV.val] at k0 k1 k2 k3 f0 f1 f2 f3 hQ2 ⊢
    go_wp2
    clear k0 k1 k2 k3 f0 f1 f2 f3
    generalize hW1 : W.setCell ⟨w.heap.size, 0, none⟩ (.slice A11 z11.length c11) = w1 at hQ2 ⊢
    clear hW1
    rw [rounds_succ]
    go_wp2
    have HA : Hid (∀ W, Below w1.heap.size w1 W → W.cell? ⟨w.heap.size, 1, none⟩ = some r1.val ∧ W.cell? ⟨w.heap.size, 3, none⟩ = some a1.val ∧ Calls Tryd.prog 42 #[r1.val, a1.val, .int .i64 k] W fun e w' => ∃ q : RowV, e = .returned q.val ∧ (RT w' q ∧ q.bs = torn r1.bs a1.bs k) ∧ Below W.heap.size W w') := Lib.hid fun W hW =>
      ⟨(hQ2.out.next hW).box.bx.cell rfl, (hQ2.out.next hW).box.bx.cell rfl, torn_row r1 a1 k W hk (hQ2.out.in_.n1.next hW) (hQ2.out.in_.a1.next hW)⟩
    refine Held.wp_region_invt 14 (TearF1 w.heap.size r1 a1 n k) (by kernel_rfl) (by kernel_rfl) ?_ ?_ ?_
    · intro i v W W' h hb
      unfold TearF1 at h ⊢
      split at h <;> first | exact h | exact TV.next h hb 
    · intro i o x W K hi ho hB hd hK
      have HX := Lib.hid (HA.out W hB)
      match i, ho with
      | 0, ho =>
        obtain rfl := Option.some.inj ho
        simp only [Inv.fill, Act.put, List.setIfInBounds_toArray, List.set_cons_zero, List.set_cons_succ, List.take_succ_cons, List.take_zero] at hK ⊢
        clear hd ho
        rw [wpOp]
        refine (if_pos rfl).mpr (.inl ?_)
        go_simp
        exact hK _ _ (Below.refl _ _) rfl
      | 1, ho =>
        obtain rfl := Option.some.inj ho
        simp only [Inv.fill, Act.put, List.setIfInBounds_toArray, List.set_cons_zero, List.set_cons_succ, List.take_succ_cons, List.take_zero] at hK ⊢
        clear hd ho
        rw [wpOp]
        refine (if_pos rfl).mpr (.inl ?_)
        go_simp
        exact hK _ _ (Below.refl _ _) rfl
      | 2, ho =>
        obtain rfl := Option.some.inj ho
        simp only [Inv.fill, Act.put, List.setIfInBounds_toArray, List.set_cons_zero, List.set_cons_succ, List.take_succ_cons, List.take_zero] at hK ⊢
        clear hd ho
        rw [wpOp]
        refine (if_pos rfl).mpr (.inl ?_)
        go_simp
        exact hK _ _ (Below.refl _ _) rfl
      | 3, ho =>
        obtain rfl := Option.some.inj ho
        have e2 : x 2 = .pointer (some ⟨w.heap.size, 0, none⟩) := hd ⟨2, .data⟩ (by simp) rfl
        have e1 : x 1 = .int .i64 1 := hd ⟨1, .data⟩ (by simp) rfl
        simp only [Inv.fill, Act.put, List.setIfInBounds_toArray, List.set_cons_zero, List.set_cons_succ, List.take_succ_cons, List.take_zero, e2, e1] at hK ⊢
        clear hd ho e2 e1
        rw [wpOp]
        refine (if_pos rfl).mpr (.inl ?_)
        go_simp
        exact hK _ _ (Below.refl _ _) rfl
      | 4, ho =>
        obtain rfl := Option.some.inj ho
        have e3 : x 3 = .pointer (some ⟨w.heap.size, 1, none⟩) := hd ⟨3, .data⟩ (by simp) rfl
        simp only [Inv.fill, Act.put, List.setIfInBounds_toArray, List.set_cons_zero, List.set_cons_succ, List.take_succ_cons, List.take_zero, e3] at hK ⊢
        clear hd ho e3
        rw [wpOp]
        refine (if_pos rfl).mpr (.inl ?_)
        have k0 := HX.out.1
        go_simp
        exact hK _ _ (Below.refl _ _) rfl
      | 5, ho =>
        obtain rfl := Option.some.inj ho
        simp only [Inv.fill, Act.put, List.setIfInBounds_toArray, List.set_cons_zero, List.set_cons_succ, List.take_succ_cons, List.take_zero] at hK ⊢
        clear hd ho
        rw [wpOp]
        refine (if_pos rfl).mpr (.inl ?_)
        go_simp
        exact hK _ _ (Below.refl _ _) rfl
      | 6, ho =>
        obtain rfl := Option.some.inj ho
        simp only [Inv.fill, Act.put, List.setIfInBounds_toArray, List.set_cons_zero, List.set_cons_succ, List.take_succ_cons, List.take_zero] at hK ⊢
        clear hd ho
        rw [wpOp]
        refine (if_pos rfl).mpr (.inl ?_)
        go_simp
        exact hK _ _ (Below.refl _ _) rfl
      | 7, ho =>
        obtain rfl := Option.some.inj ho
        have e6 : x 6 = .pointer (some ⟨w.heap.size, 2, none⟩) := hd ⟨6, .data⟩ (by simp) rfl
        have e5 : x 5 = .int .i64 1 := hd ⟨5, .data⟩ (by simp) rfl
        simp only [Inv.fill, Act.put, List.setIfInBounds_toArray, List.set_cons_zero, List.set_cons_succ, List.take_succ_cons, List.take_zero, e6, e5] at hK ⊢
        clear hd ho e6 e5
        rw [wpOp]
        refine (if_pos rfl).mpr (.inl ?_)
        go_simp
        exact hK _ _ (Below.refl _ _) rfl
      | 8, ho =>
        obtain rfl := Option.some.inj ho
        have e7 : x 7 = .pointer (some ⟨w.heap.size, 3, none⟩) := hd ⟨7, .data⟩ (by simp) rfl
        simp only [Inv.fill, Act.put, List.setIfInBounds_toArray, List.set_cons_zero, List.set_cons_succ, List.take_succ_cons, List.take_zero, e7] at hK ⊢
        clear hd ho e7
        rw [wpOp]
        refine (if_pos rfl).mpr (.inl ?_)
        have k1 := HX.out.2.1
        go_simp
        exact hK _ _ (Below.refl _ _) rfl
      | 9, ho =>
        obtain rfl := Option.some.inj ho
        simp only [Inv.fill, Act.put, List.setIfInBounds_toArray, List.set_cons_zero, List.set_cons_succ, List.take_succ_cons, List.take_zero] at hK ⊢
        clear hd ho
        rw [wpOp]
        refine (if_pos rfl).mpr (.inl ?_)
        go_simp
        exact hK _ _ (Below.refl _ _) rfl
      | 10, ho =>
        obtain rfl := Option.some.inj ho
        have e9 : x 9 = .int .i64 n := hd ⟨9, .data⟩ (by simp) rfl
        simp only [Inv.fill, Act.put, List.setIfInBounds_toArray, List.set_cons_zero, List.set_cons_succ, List.take_succ_cons, List.take_zero, e9] at hK ⊢
        clear hd ho e9
        rw [wpOp]
        refine (if_pos rfl).mpr (.inl ?_)
        have k2 := HM.out W
        go_simp
        exact hK _ _ (Below.refl _ _) rfl
      | 11, ho =>
        obtain rfl := Option.some.inj ho
        have e4 : x 4 = r1.val := hd ⟨4, .data⟩ (by simp) rfl
        have e8 : x 8 = a1.val := hd ⟨8, .data⟩ (by simp) rfl
        have e10 : x 10 = .int .i64 k := hd ⟨10, .data⟩ (by simp) rfl
        simp only [Inv.fill, Act.put, List.setIfInBounds_toArray, List.set_cons_zero, List.set_cons_succ, List.take_succ_cons, List.take_zero, e4, e8, e10] at hK ⊢
        clear hd ho e4 e8 e10
        rw [wpOp]
        refine (if_pos rfl).mpr (.inl ?_)
        have hc := HX.out.2.2
        go_simp
        refine hc.mono ?_
        rintro e w2 ⟨q, rfl, h1, h2⟩
        exact hK _ _ h2 ⟨q, rfl, h1⟩
      | 12, ho =>
        obtain rfl := Option.some.inj ho
        simp only [Inv.fill, Act.put, List.setIfInBounds_toArray, List.set_cons_zero, List.set_cons_succ, List.take_succ_cons, List.take_zero] at hK ⊢
        clear hd ho
        rw [wpOp]
        refine (if_pos rfl).mpr (.inl ?_)
        go_simp
        exact hK _ _ (Below.refl _ _) rfl
      | 13, ho =>
        obtain rfl := Option.some.inj ho
        have e12 : x 12 = .pointer (some ⟨w.heap.size, 0, none⟩) := hd ⟨12, .data⟩ (by simp) rfl
        have e0 : x 0 = .int .i64 1 := hd ⟨0, .data⟩ (by simp) rfl
        simp only [Inv.fill, Act.put, List.setIfInBounds_toArray, List.set_cons_zero, List.set_cons_succ, List.take_succ_cons, List.take_zero, e12, e0] at hK ⊢
        clear hd ho e12 e0
        rw [wpOp]
        refine (if_pos rfl).mpr (.inl ?_)
        go_simp
        exact hK _ _ (Below.refl _ _) rfl
      | n + 14, ho => exact absurd hi (by omega)
    · intro x W hB hx
      obtain ⟨r12, e11, hr12⟩ := (hx 11 (by simp) : TV (x 11) W r1 a1 k)
      have e13 : x 13 = .pointer (some ⟨w.heap.size, 1, none⟩) := hx 13 (by simp)
      simp only [Inv.fill, Act.put, List.setIfInBounds_toArray, List.set_cons_zero, List.set_cons_succ, List.take_succ_cons, List.take_zero, List.drop_succ_cons, List.drop_zero, e11, e13]
      clear hx e11 e13
      have hQ3 := Lib.hid (hQ2.out.next hB)
      obtain ⟨A12, c12, z12⟩ := r12
      obtain ⟨A20, c20, z20⟩ := a0
      obtain ⟨A21, c21, z21⟩ := a1
      obtain ⟨k0, k1, k2, k3⟩ := hQ3.out.box.bx.c4
      obtain ⟨f0, f1, f2, f3⟩ := hQ3.out.box.bx.f4
      have hQ4 : Hid (TQ w (W.setCell ⟨w.heap.size, 1, none⟩ (RowV.val ⟨A12, c12, z12⟩)) ⟨⟨A11, c11, z11⟩, ⟨A12, c12, z12⟩, ⟨A20, c20, z20⟩, ⟨A21, c21, z21⟩⟩) := Lib.hid (hQ3.out.set 1 _ rfl ⟨hQ3.out.in_.n0, hr12.1, hQ3.out.in_.a0, hQ3.out.in_.a1⟩)
      have HE2 := Lib.hid hr12.2
      clear hQ2 hB hr12 HA hQ3
      change wpList _ _ _ _ _ _
      simp only [RowV.val] at k0 k1 k2 k3 f0 f1 f2 f3 hQ4 ⊢
      go_wp2
      clear k0 k1 k2 k3 f0 f1 f2 f3
      generalize hW2 : W.setCell ⟨w.heap.size, 1, none⟩ (.slice A12 z12.length c12) = w2 at hQ4 ⊢
      clear hW2
      rw [rounds_succ]
      obtain ⟨k0, k1, k2, k3⟩ := hQ4.out.box.bx.c4
      obtain ⟨g0, g1, g2, g3⟩ := hQ4.out.res.bx.c4
      obtain ⟨f0, f1, f2, f3⟩ := hQ4.out.res.bx.f4
      simp only [RowV.val] at k0 k1 k2 k3
      go_wp2
      have hR := set4 (x := .slice A11 z11.length c11) (y := .slice A12 z12.length c12) (z := .slice A20 z20.length c20) (u := .slice A21 z21.length c21) hQ4.out.res
      have hin := in4 hQ4.out.in_ hQ4.out.res (by decide) (.slice A11 z11.length c11) (.slice A12 z12.length c12) (.slice A20 z20.length c20) (.slice A21 z21.length c21)
      obtain ⟨m0, m1, m2, m3⟩ := hR.bx.c4
      refine bodyPost_ret (v := .agg #[.slice A11 z11.length c11, .slice A12 z12.length c12, .slice A20 z20.length c20, .slice A21 z21.length c21]) (by simp [results, Tryd.results21, go_sem, m0, m1, m2, m3]) rfl ⟨_, rfl, hin, ⟨HE.out, HE2.out, rfl, rfl⟩, below4 hQ4.out.bel (by omega) _ _ _ _⟩

end Go.Proofs.YtgbgbodhpahceaaDoor.Jrn

/- The contract of Write. -/
namespace Go.Proofs.YtgbgbodhpahceaaDoor.Jrn
open Go.RowKit Go.Proofs.YtgbgbodhpahceaaDoor.Plain Go.Proofs.YtgbgbodhpahceaaDoor.Sees Go.Proofs.YtgbgbodhpahceaaDoor.Oct Go.Proofs.YtgbgbodhpahceaaDoor.Crc Go.Proofs.YtgbgbodhpahceaaDoor.Box Go.Proofs.YtgbgbodhpahceaaDoor.Held Go.Proofs.YtgbgbodhpahceaaDoor.JrnP Go.Proofs.YtgbgbodhpahceaaDoor.Open Go.Proofs.YtgbgbodhpahceaaDoor.LgrP
set_option linter.unusedVariables false
set_option maxRecDepth 100000

/-- the number of the next write, and both places behind it -/
def nxt (z0 z1 : List Int) : Int := u ((JrnP.load z0 z1).s + 1)
def wr0 (z0 z1 : List Int) (b m : Int) (l : List Pm) : List Int := if nxt z0 z1 % 2 = 0 then put b m l (nxt z0 z1) else z0
def wr1 (z0 z1 : List Int) (b m : Int) (l : List Pm) : List Int := if nxt z0 z1 % 2 = 0 then z1 else put b m l (nxt z0 z1)
theorem put_row (x : Lg) (s : Int) (w : World) (hx : x.In w) (hl : x.l.length ≤ 100) (hs : 0 ≤ s ∧ s ≤ 18446744073709551615) (ht : Tab w) :
    Calls Tryd.prog 13 #[x.val, .int .u64 s] w fun e w' => ∃ q : RowV, e = .returned q.val ∧ (RT w' q ∧ q.bs = put x.b x.m x.l s) ∧ Below w.heap.size w w' := by
  refine (jPut_any x s _ w hx hl rfl hs ht).mono ?_
  rintro e w' ⟨A, c, rfl, h1, h2, h3⟩
  have hl2 := put_len x.b x.m x.l s
  exact ⟨⟨A, c, put x.b x.m x.l s⟩, by rw [RowV.val]; simp only [hl2], ⟨⟨by simp only; omega, h1.2, h2, put_in _ _ _ _, by simp only; omega⟩, rfl⟩, h3⟩
/-- a place, put -/
def PV (v : Value) (W : World) (bs : List Int) : Prop := ∃ q : RowV, v = q.val ∧ RT W q ∧ q.bs = bs
theorem PV.next {v : Value} {W W' : World} {bs : List Int} (h : PV v W bs) (hb : Below W.heap.size W W') : PV v W' bs := by
  obtain ⟨q, h1, h2, h3⟩ := h
  exact ⟨q, h1, h2.next hb, h3⟩
/-- while Write runs -/
structure WQ (w wr : World) (ja la : Array Value) : Prop where
  box : BxT wr w.heap.size ja 45
  lbx : BxT wr (w.heap.size + 1) la 24
  res : BxT wr (w.heap.size + 1 + 1) #[.slice none 0 0, .slice none 0 0, .slice none 0 0, .slice none 0 0] 45
  bel : Below w.heap.size w wr
theorem WQ.next {w wr wr' : World} {ja la : Array Value} (h : WQ w wr ja la) (hb : Below wr.heap.size wr wr') : WQ w wr' ja la := ⟨h.box.next hb, h.lbx.next hb, h.res.next hb, h.bel.trans (hb.mono h.bel.size)⟩
theorem WQ.set {w wr : World} {ja ja' la : Array Value} (h : WQ w wr ja la) (i : Nat) (u : Value) (ha : ja.setIfInBounds i u = ja') : WQ w (wr.setCell ⟨w.heap.size, i, none⟩ u) ja' la :=
  ⟨by rw [← ha]; exact h.box.set i u, (Below.heap_setCell wr ⟨w.heap.size, i, none⟩ u (w.heap.size + 1) (by simp only; omega)).trans h.lbx, (Below.heap_setCell wr ⟨w.heap.size, i, none⟩ u (w.heap.size + 1 + 1) (by simp only; omega)).trans h.res, h.bel.setCell (p := ⟨w.heap.size, i, none⟩) (Nat.le_refl _) u⟩

set_option maxHeartbeats 12800000 in
theorem jWrite_any (j : Jr) (x : Lg) (w : World) (ht : Tab w) (hj : j.In w) (hx : x.In w) (hl : x.l.length ≤ 100) : Calls Tryd.prog 23 #[j.val, x.val] w (JP w (wr0 j.n0.bs j.n1.bs x.b x.m x.l) (wr1 j.n0.bs j.n1.bs x.b x.m x.l) j.n0.bs j.n1.bs) := by
  obtain ⟨s', hs'⟩ : ∃ s', nxt j.n0.bs j.n1.bs = s' := ⟨_, rfl⟩
  have hsb : 0 ≤ s' ∧ s' ≤ 18446744073709551615 := by rw [← hs']; exact u_in _
  have HL : Hid (∀ W, Below w.heap.size w W → Calls Tryd.prog 18 #[j.val] W (LP W (JrnP.load j.n0.bs j.n1.bs))) := Lib.hid fun W hW => jLoad_any j W (ht.next hW) (hj.next hW)
  have HP : Hid (∀ W, Below w.heap.size w W → Calls Tryd.prog 13 #[x.val, .int .u64 s'] W fun e w' => ∃ q : RowV, e = .returned q.val ∧ (RT w' q ∧ q.bs = put x.b x.m x.l s') ∧ Below W.heap.size W w') := Lib.hid fun W hW => put_row x s' W (hx.next hW) hl hsb (ht.next hW)
  have HJ := Lib.hid hj
  have HW : Hid ((s' % 2 = 0 → wr0 j.n0.bs j.n1.bs x.b x.m x.l = put x.b x.m x.l s' ∧ wr1 j.n0.bs j.n1.bs x.b x.m x.l = j.n1.bs) ∧ (s' % 2 = 1 → wr0 j.n0.bs j.n1.bs x.b x.m x.l = j.n0.bs ∧ wr1 j.n0.bs j.n1.bs x.b x.m x.l = put x.b x.m x.l s')) := Lib.hid ⟨fun h => by unfold wr0 wr1; rw [hs', if_pos h, if_pos h]; exact ⟨rfl, rfl⟩, fun h => by unfold wr0 wr1; rw [hs', if_neg (by omega), if_neg (by omega)]; exact ⟨rfl, rfl⟩⟩
  unfold nxt at hs'
  generalize wr0 j.n0.bs j.n1.bs x.b x.m x.l = o0 at *
  generalize wr1 j.n0.bs j.n1.bs x.b x.m x.l = o1 at *
  generalize put x.b x.m x.l s' = pb at *
  obtain ⟨⟨A0, c0, z0⟩, ⟨A1, c1, z1⟩, ⟨A2, c2, z2⟩, ⟨A3, c3, z3⟩⟩ := j
  unfold Jr.val Jr.arr RowV.val at HL ⊢
  simp only at HL HW hs' ⊢
  generalize JrnP.load z0 z1 = g at *
  obtain ⟨fe, fb, fm, fl, fs⟩ := g
  simp only at hs'
  have e1 : IntKind.u64.wrap (fs + 1) = s' := by rw [IntKind.wrap_u64]; exact hs'
  obtain ⟨b, m, k, A, cap, l⟩ := x
  unfold Lg.val at HP ⊢
  simp only at hl HP ⊢
  obtain ⟨nf, hnf⟩ : ∃ nf, fl.length = nf := ⟨_, rfl⟩
  obtain ⟨n, hn⟩ : ∃ n, l.length = n := ⟨_, rfl⟩
  rw [hn] at HP ⊢
  have HLP : Hid (∀ W, Below w.heap.size w W → Calls Tryd.prog 18 #[.agg #[.slice A0 z0.length c0, .slice A1 z1.length c1, .slice A2 z2.length c2, .slice A3 z3.length c3]] W fun e w' => ∃ A' c', e = .returned (.tuple #[.agg #[.int .i64 fb, .int .i64 fm, .int .i64 0, .slice A' nf c'], .int .u64 fs, .bool (decide (0 < fs))]) ∧ Below W.heap.size W w') := Lib.hid fun W hW => (HL.out W hW).mono fun e w' ⟨A', c', h1, _, _, _, h5⟩ => ⟨A', c', by rw [h1]; simp only [hnf], h5⟩
  clear HL hs' hl hn hnf hx hj ht
  have hQ : Hid (WQ w (((w.alloc (.cells #[.slice A0 z0.length c0, .slice A1 z1.length c1, .slice A2 z2.length c2, .slice A3 z3.length c3] 45)).alloc (.cells #[.int .i64 b, .int .i64 m, .int .i64 k, .slice A n cap] 24)).alloc (.cells #[.slice none 0 0, .slice none 0 0, .slice none 0 0, .slice none 0 0] 45)) #[.slice A0 z0.length c0, .slice A1 z1.length c1, .slice A2 z2.length c2, .slice A3 z3.length c3] #[.int .i64 b, .int .i64 m, .int .i64 k, .slice A n cap]) := Lib.hid
    ⟨((BxT.new w _ _).next below_box).next below_box, by have := (BxT.new (w.alloc (.cells #[.slice A0 z0.length c0, .slice A1 z1.length c1, .slice A2 z2.length c2, .slice A3 z3.length c3] 45)) #[.int .i64 b, .int .i64 m, .int .i64 k, .slice A n cap] 24).next (below_box (o := .cells #[.slice none 0 0, .slice none 0 0, .slice none 0 0, .slice none 0 0] 45)); rwa [World.size_alloc] at this, by have := BxT.new ((w.alloc (.cells #[.slice A0 z0.length c0, .slice A1 z1.length c1, .slice A2 z2.length c2, .slice A3 z3.length c3] 45)).alloc (.cells #[.int .i64 b, .int .i64 m, .int .i64 k, .slice A n cap] 24)) #[.slice none 0 0, .slice none 0 0, .slice none 0 0, .slice none 0 0] 45; rwa [World.size_alloc, World.size_alloc] at this, below_more below_two below_box (by simp)⟩
  obtain ⟨a0, a1, a2, a3⟩ := hQ.out.box.bx.c4
  have ways : s' % 2 = 0 ∨ s' % 2 = 1 := by omega
  rcases ways with hp | hp
  · have HR := Lib.hid (HW.out.1 hp)
    clear HW
    go_enter Tryd.func23, Tryd.ntmps23
    go_wp2_with (first
      | (go_at_call 18; go_must ((with_reducible refine (HLP.out _ hQ.out.bel).mono ?_); clear HLP; rintro e w1 ⟨A4, c4, rfl, h1⟩; have hQ1 := Lib.hid ((hQ.out.next h1).next (below_box (o := .cells #[.int .i64 fb, .int .i64 fm, .int .i64 0, .slice A4 nf c4] 24))); obtain ⟨k0, k1, k2, k3⟩ := hQ1.out.box.bx.c4; obtain ⟨f0, f1, f2, f3⟩ := hQ1.out.box.bx.f4; obtain ⟨l0, l1, l2, l3⟩ := hQ1.out.lbx.bx.c4; clear h1 a0 a1 a2 a3))
      | (go_at_call 13; go_must (have hQ2 := Lib.hid ((hQ1.out.set 2 (.slice A0 z0.length c0) rfl).set 3 (.slice A1 z1.length c1) rfl); clear k0 k1 k2 k3 f0 f1 f2 f3 l0 l1 l2 l3 hQ1; (with_reducible refine (HP.out _ hQ2.out.bel).mono ?_); clear HP; rintro e w2 ⟨⟨A5, c5, z5⟩, rfl, ⟨hr5, he5⟩, h2⟩; have hQ3 := Lib.hid (hQ2.out.next h2); have HR5 := Lib.hid hr5; have HE5 := Lib.hid he5; obtain ⟨k0, k1, k2, k3⟩ := hQ3.out.box.bx.c4; obtain ⟨f0, f1, f2, f3⟩ := hQ3.out.box.bx.f4; obtain ⟨l0, l1, l2, l3⟩ := hQ3.out.res.bx.c4; obtain ⟨m0, m1, m2, m3⟩ := hQ3.out.res.bx.f4; clear hr5 he5 h2 hQ2; simp only [RowV.val])))
    have hQ4 := hQ3.out.set 0 (.slice A5 z5.length c5) rfl
    have hin : Jr.In (w2.setCell ⟨w.heap.size, 0, none⟩ (.slice A5 z5.length c5)) ⟨⟨A5, c5, z5⟩, ⟨A1, c1, z1⟩, ⟨A0, c0, z0⟩, ⟨A1, c1, z1⟩⟩ := Jr.In.set (r := ⟨⟨A5, c5, z5⟩, ⟨A1, c1, z1⟩, ⟨A0, c0, z0⟩, ⟨A1, c1, z1⟩⟩) ⟨HR5.out, HJ.out.n1.next hQ3.out.bel, HJ.out.n0.next hQ3.out.bel, HJ.out.n1.next hQ3.out.bel⟩ hQ3.out.box (by decide) 0 _
    have hR := set4 (x := (.slice A5 z5.length c5)) (y := (.slice A1 z1.length c1)) (z := (.slice A0 z0.length c0)) (u := (.slice A1 z1.length c1)) hQ4.res
    have hin2 := in4 hin hQ4.res (by decide) (.slice A5 z5.length c5) (.slice A1 z1.length c1) (.slice A0 z0.length c0) (.slice A1 z1.length c1)
    obtain ⟨q0, q1, q2, q3⟩ := hR.bx.c4
    refine bodyPost_ret (v := .agg #[.slice A5 z5.length c5, .slice A1 z1.length c1, .slice A0 z0.length c0, .slice A1 z1.length c1]) (by simp [results, Tryd.results23, go_sem, q0, q1, q2, q3]) rfl ⟨_, rfl, hin2, ⟨HE5.out.trans HR.out.1.symm, HR.out.2.symm, rfl, rfl⟩, below4 hQ4.bel (by omega) _ _ _ _⟩
  · have HR := Lib.hid (HW.out.2 hp)
    clear HW
    go_enter Tryd.func23, Tryd.ntmps23
    go_wp2_with (first
      | (go_at_call 18; go_must ((with_reducible refine (HLP.out _ hQ.out.bel).mono ?_); clear HLP; rintro e w1 ⟨A4, c4, rfl, h1⟩; have hQ1 := Lib.hid ((hQ.out.next h1).next (below_box (o := .cells #[.int .i64 fb, .int .i64 fm, .int .i64 0, .slice A4 nf c4] 24))); obtain ⟨k0, k1, k2, k3⟩ := hQ1.out.box.bx.c4; obtain ⟨f0, f1, f2, f3⟩ := hQ1.out.box.bx.f4; obtain ⟨l0, l1, l2, l3⟩ := hQ1.out.lbx.bx.c4; clear h1 a0 a1 a2 a3))
      | (go_at_call 13; go_must (have hQ2 := Lib.hid ((hQ1.out.set 2 (.slice A0 z0.length c0) rfl).set 3 (.slice A1 z1.length c1) rfl); clear k0 k1 k2 k3 f0 f1 f2 f3 l0 l1 l2 l3 hQ1; (with_reducible refine (HP.out _ hQ2.out.bel).mono ?_); clear HP; rintro e w2 ⟨⟨A5, c5, z5⟩, rfl, ⟨hr5, he5⟩, h2⟩; have hQ3 := Lib.hid (hQ2.out.next h2); have HR5 := Lib.hid hr5; have HE5 := Lib.hid he5; obtain ⟨k0, k1, k2, k3⟩ := hQ3.out.box.bx.c4; obtain ⟨f0, f1, f2, f3⟩ := hQ3.out.box.bx.f4; obtain ⟨l0, l1, l2, l3⟩ := hQ3.out.res.bx.c4; obtain ⟨m0, m1, m2, m3⟩ := hQ3.out.res.bx.f4; clear hr5 he5 h2 hQ2; simp only [RowV.val])))
    have hQ4 := hQ3.out.set 1 (.slice A5 z5.length c5) rfl
    have hin : Jr.In (w2.setCell ⟨w.heap.size, 1, none⟩ (.slice A5 z5.length c5)) ⟨⟨A0, c0, z0⟩, ⟨A5, c5, z5⟩, ⟨A0, c0, z0⟩, ⟨A1, c1, z1⟩⟩ := Jr.In.set (r := ⟨⟨A0, c0, z0⟩, ⟨A5, c5, z5⟩, ⟨A0, c0, z0⟩, ⟨A1, c1, z1⟩⟩) ⟨HJ.out.n0.next hQ3.out.bel, HR5.out, HJ.out.n0.next hQ3.out.bel, HJ.out.n1.next hQ3.out.bel⟩ hQ3.out.box (by decide) 1 _
    have hR := set4 (x := (.slice A0 z0.length c0)) (y := (.slice A5 z5.length c5)) (z := (.slice A0 z0.length c0)) (u := (.slice A1 z1.length c1)) hQ4.res
    have hin2 := in4 hin hQ4.res (by decide) (.slice A0 z0.length c0) (.slice A5 z5.length c5) (.slice A0 z0.length c0) (.slice A1 z1.length c1)
    obtain ⟨q0, q1, q2, q3⟩ := hR.bx.c4
    refine bodyPost_ret (v := .agg #[.slice A0 z0.length c0, .slice A5 z5.length c5, .slice A0 z0.length c0, .slice A1 z1.length c1]) (by simp [results, Tryd.results23, go_sem, q0, q1, q2, q3]) rfl ⟨_, rfl, hin2, ⟨HR.out.1.symm, HE5.out.trans HR.out.2.symm, rfl, rfl⟩, below4 hQ4.bel (by omega) _ _ _ _⟩

end Go.Proofs.YtgbgbodhpahceaaDoor.Jrn

/- The law's own: few, of. -/
namespace Go.Proofs.YtgbgbodhpahceaaDoor.Jrn
open Go.RowKit Go.Proofs.YtgbgbodhpahceaaDoor.Plain Go.Proofs.YtgbgbodhpahceaaDoor.Sees Go.Proofs.YtgbgbodhpahceaaDoor.Oct Go.Proofs.YtgbgbodhpahceaaDoor.Crc Go.Proofs.YtgbgbodhpahceaaDoor.Box Go.Proofs.YtgbgbodhpahceaaDoor.Held Go.Proofs.YtgbgbodhpahceaaDoor.JrnP Go.Proofs.YtgbgbodhpahceaaDoor.Open Go.Proofs.YtgbgbodhpahceaaDoor.LgrP
set_option linter.unusedVariables false
set_option maxRecDepth 100000

theorem few_any (x : Lg) (w : World) : Calls Tryd.prog 10 #[x.val] w fun e w' => e = .returned (.bool (decide (x.l.length ≤ 80))) ∧ Below w.heap.size w w' := by
  obtain ⟨b, m, k, A, cap, l⟩ := x
  unfold Lg.val
  simp only
  obtain ⟨n, hn⟩ : ∃ n, l.length = n := ⟨_, rfl⟩
  rw [hn]
  have hj := Lib.hid (J.one w #[.int .i64 b, .int .i64 m, .int .i64 k, .slice A n cap] 24)
  obtain ⟨a0, a1, a2, a3⟩ := (hj.out.bx 0 rfl).c4
  have e1 : decide ((n : Int) ≤ 80) = decide (n ≤ 80) := by congr 1; exact propext ⟨fun h => by omega, fun h => by omega⟩
  clear hn
  go_enter Tryd.func10, Tryd.ntmps10
  go_wp2
  go_ret
  exact ⟨by first | rfl | rw [e1], hj.out.below⟩

theorem info_rPermit : (Tryd.prog.info? 84).map (fun i => (i.zero, i.size, i.bytes)) = some (some (.agg #[.int .i64 0, .int .i64 0]), 2, 16) := by kernel_rfl
/-- a ledger is answered, in whatever memory, and memory made alone -/
def OfP (w : World) (b m k : Int) (l : List Pm) (e : Ending) (w' : World) : Prop := ∃ A c, e = .returned (Lg.val ⟨b, m, k, A, c, l⟩) ∧ Lg.In w' ⟨b, m, k, A, c, l⟩ ∧ Below w.heap.size w w'

set_option maxHeartbeats 6400000 in
theorem of_any (x : Lg) (w : World) (hx : x.In w) (hl : x.l.length ≤ 100) : Calls Tryd.prog 15 #[x.val] w (OfP w x.b x.m x.k x.l) := by
  obtain ⟨hcap, hmax, hsee⟩ := hx
  obtain ⟨b, m, k, A, cap, l⟩ := x
  unfold Lg.val
  simp only at hcap hmax hsee hl ⊢
  obtain ⟨i0, hi, hz0, hz1, hz2⟩ := info_parts info_rPermit
  obtain ⟨n, hn⟩ : ∃ n, l.length = n := ⟨_, rfl⟩
  rw [hn] at hl hcap ⊢
  have HN := Lib.hid hn
  have HS := Lib.hid hsee
  have hj0 := ((J.one w #[.int .i64 b, .int .i64 m, .int .i64 k, .slice A n cap] 24).push #[.int .i64 0, .int .i64 0, .int .i64 0, .slice none 0 0] 34).push #[.int .i64 0, .int .i64 0, .int .i64 0, .slice none 0 0] 34
  have hj := Lib.hid (((J.one w #[.int .i64 b, .int .i64 m, .int .i64 k, .slice A n cap] 24).push #[.int .i64 0, .int .i64 0, .int .i64 0, .slice none 0 0] 34).push #[.int .i64 b, .int .i64 m, .int .i64 k, .slice none 0 0] 34)
  simp only [World.size_alloc] at hj hj0
  obtain ⟨z0, z1, z2, z3⟩ := (hj0.bx 0 rfl).c4
  obtain ⟨f0, f1, f2, f3⟩ := (hj0.bx 0 rfl).f4
  obtain ⟨a0, a1, a2, a3⟩ := (hj0.bx 2 rfl).c4
  have hb1 := (J.one w #[.int .i64 b, .int .i64 m, .int .i64 k, .slice A n cap] 24).push #[.int .i64 0, .int .i64 0, .int .i64 0, .slice none 0 0] 34
  obtain ⟨b0, b1, b2, b3⟩ := (hb1.bx 1 rfl).c4
  clear hn hsee hcap hmax hj0 hb1
  go_enter Tryd.func15, Tryd.ntmps15
  go_wp2
  clear z0 z1 z2 z3 f0 f1 f2 f3 a0 a1 a2 a3 b0 b1 b2 b3
  obtain ⟨T, hT⟩ : ∃ T, w.heap.size + 1 + 1 = T := ⟨_, rfl⟩
  rw [hT] at hj ⊢
  have hTs := (hj.out.bx 0 rfl).lt
  go_loopw [4] (fun i wr => ∃ (q : Nat) (v : Value), q ≤ n ∧ i = .int .i64 q ∧ Hid (J w wr [(T, #[.int .i64 b, .int .i64 m, .int .i64 k, v]), (w.heap.size + 1, #[.int .i64 0, .int .i64 0, .int .i64 0, .slice none 0 0]), (w.heap.size, #[.int .i64 b, .int .i64 m, .int .i64 k, .slice A n cap])]) ∧ wr.ownsRow (T + 1) 84 2 v q (pms (l.take q))) (fun i _ => n - (intOf i).toNat)
  case atStart => exact ⟨0, _, Nat.zero_le _, rfl, hj, by simpa [pms] using World.ownsRow_nil _ _ _ _⟩
  case round =>
    obtain ⟨q, v, hq, rfl, hjr, hown⟩ := hrel
    clear hj hTs
    have hwr : T + 1 ≤ wr.heap.size := (hjr.out.bx 0 rfl).lt
    obtain ⟨a0, a1, a2, a3⟩ := (hjr.out.bx 2 rfl).c4
    obtain ⟨b0, b1, b2, b3⟩ := (hjr.out.bx 0 rfl).c4
    by_cases hlt : q < n
    · obtain ⟨p, bb, o, hp, rfl, hbb, c0, c1⟩ := pm_at (HS.out.below hjr.out.below (Nat.le_refl _)) (i := q) (by rw [HN.out]; exact hlt)
      have HT : Hid (pms (l.take (q + 1)) = pms (l.take q) ++ pms [p]) := Lib.hid (by rw [List.take_add_one, hp]; exact pms_append _ _)
      obtain ⟨pc, pp⟩ := p
      simp only at c0 c1
      have i1 : (q : Int) < (n : Int) := by omega
      have e3 : IntKind.i64.wrap ((q : Int) + 1) = ((q + 1 : Nat) : Int) := by rw [IntWalk.i64_in _ (by omega)]; rfl
      have HLT := Lib.hid hlt
      have hjS : Hid (JS wr [] wr) := Lib.hid (J.start wr)
      have hmx : Tryd.prog.follows .mixedOrders = true := by kernel_rfl
      have hbb2 : bb < wr.heap.size := by have := hjr.out.below.size; omega
      clear hp hlt a0 a1 a2 b0 b1 b2
      go_wp2
      refine wp_region_build 15 _ #[.int .i64 pc, .int .i64 pp] 84 1 _ 34 JS.closed hjS.out hmx (by kernel_rfl) (by kernel_rfl) rfl rfl rfl ?_
      simp only [List.take_succ_cons, List.take_zero, List.drop_succ_cons, List.drop_zero]
      apply Exists.intro
      have hTw : T < wr.heap.size := by omega
      have hww : w.heap.size < wr.heap.size := by omega
      refine ⟨fun w10 h10 => ?_, ?_, fun B W1 hJ1 hb1 hB hBx => ?_⟩
      · haveI := Ext.some h10
        have q0 := ext_old h10 (a := ⟨T, 3, none⟩) hTw b3
        have q1 := ext_old h10 (a := ⟨w.heap.size, 3, none⟩) hww a3
        have q2 := ext_old h10 (a := ⟨bb, o + q * 2, none⟩) hbb2 c0
        have q3 := ext_old h10 (a := ⟨bb, o + q * 2 + 1, none⟩) hbb2 c1
        repeat go_big_quiet_step (fail)
        exact wpQuiet_nil rfl
      · intro w'
        simp [execOp, Act.eval, go_sem]
      have hB1 : Below wr.heap.size wr W1 := J.below hJ1
      have hj1 := Lib.hid (hjr.out.next hB1)
      have hrow1 := own_below hown hB1 (fun k hk => (hown.lt k hk).2)
      have hW1 : T + 1 ≤ W1.heap.size := by have := hB1.size; omega
      have HBx := Lib.hid hBx
      clear a3 b3 c0 c1 hJ1 hb1 hjS hB1 hown hBx hjr
      change wpList _ _ _ _ _ _
      go_wp2_with (at_builtin; refine wpList_append_seesN _ rfl _ _ 32 rfl (T + 1) 84 i0 (.agg #[.int .i64 0, .int .i64 0]) 2 16 Tryd.underlying32 hi hz0 hz1 hz2 rfl (by decide) _ _ _ rfl hrow1 (B + 1) (some ⟨B, 0, none⟩) 1 1 (pms [⟨pc, pp⟩]) rfl (by simp [pms, Pm.cells]) (.inr ⟨B, 0, rfl, by omega, fun j u hu => by rw [Nat.zero_add]; exact HBx.out.cell (by simpa [pms, Pm.cells] using hu)⟩) (pms_one _) (by unfold maxLen; omega) (by omega) (by omega) ?_; intro v' w11 hown11 hg11; obtain ⟨g', c3, rfl⟩ := ownsRow_succ hown11; have hT11 := Lib.hid (j_grew hj1.out hg11.by_ (fun g e => (hrow1.lt g e).1) (by omega) (fun x hx => by simp at hx; rcases hx with rfl | rfl | rfl <;> simp only <;> omega)); obtain ⟨b0, b1, b2, b3⟩ := (hT11.out.bx 0 rfl).c4; obtain ⟨f0, f1, f2, f3⟩ := (hT11.out.bx 0 rfl).f4)
      go_roundw
      case rel =>
        refine ⟨q + 1, .slice (some ⟨g', 0, none⟩) (q + 1) c3, by omega, rfl, Lib.hid (hT11.out.put (by omega) (fun x hx => by simp at hx; rcases hx with rfl | rfl <;> simp only <;> omega) 3 (.slice (some ⟨g', 0, none⟩) (q + 1) c3)), ?_⟩
        rw [HT.out]
        exact ownsRow_setCell_other hown11 (a := ⟨T, 3, none⟩) (fun e => by have := (hown11.lt T e).1; omega) _
      case measure => have := HLT.out; simp [intOf]; omega
    · obtain rfl : q = n := by omega
      rw [List.take_of_length_le (by rw [HN.out]; exact Nat.le_refl _)] at hown
      obtain ⟨A5, c5, rfl⟩ : ∃ A c, v = .slice A q c := by
        rcases hown.2 with ⟨rfl, h0⟩ | ⟨g, cap, cur, rfl, _⟩
        · exact ⟨none, 0, by rw [h0]⟩
        · exact ⟨_, _, rfl⟩
      have hcm5 := own_cap hown
      have HS5 := Lib.hid (And.intro (TS.own hown) hown.lt)
      obtain ⟨b0, b1, b2, b3⟩ := (hjr.out.bx 0 rfl).c4
      obtain ⟨z0, z1, z2, z3⟩ := (hjr.out.bx 1 rfl).c4
      obtain ⟨f0, f1, f2, f3⟩ := (hjr.out.bx 1 rfl).f4
      clear hown
      go_wp2
      have hne : ∀ x ∈ ([] : List (Nat × Array Value)), x.1 ≠ w.heap.size + 1 := fun x hx => by cases hx
      have hje := ((((hjr.out.less (bs' := [(w.heap.size + 1, #[.int .i64 0, .int .i64 0, .int .i64 0, .slice none 0 0])]) (by simp)).put (by omega) hne 0 (.int .i64 b)).put (by omega) hne 1 (.int .i64 m)).put (by omega) hne 2 (.int .i64 k)).put (by omega) hne 3 (.slice A5 q c5)
      obtain ⟨k0, k1, k2, k3⟩ := (hje.bx 0 rfl).c4
      have hTe := ts_sets HS5.out.1 (X := w.heap.size + 1) (fun g hg => by have := (HS5.out.2 g hg).1; omega) (.int .i64 b) (.int .i64 m) (.int .i64 k) (.slice A5 q c5)
      refine bodyPost_ret (v := .agg #[.int .i64 b, .int .i64 m, .int .i64 k, .slice A5 q c5]) (by simp [results, Tryd.results15, go_sem, k0, k1, k2, k3]) rfl ⟨A5, c5, by simp only [Lg.val, HN.out], ⟨by simp only [HN.out]; exact hcm5.1, hcm5.2, hTe.sees⟩, hje.below⟩

end Go.Proofs.YtgbgbodhpahceaaDoor.Jrn

/- The reference's Same: of two ledgers that are the same it answers true. -/
namespace Go.Proofs.YtgbgbodhpahceaaDoor.Jrn
open Go.RowKit Go.Proofs.YtgbgbodhpahceaaDoor.Plain Go.Proofs.YtgbgbodhpahceaaDoor.Sees Go.Proofs.YtgbgbodhpahceaaDoor.Oct Go.Proofs.YtgbgbodhpahceaaDoor.Crc Go.Proofs.YtgbgbodhpahceaaDoor.Box Go.Proofs.YtgbgbodhpahceaaDoor.Held Go.Proofs.YtgbgbodhpahceaaDoor.JrnP Go.Proofs.YtgbgbodhpahceaaDoor.Open Go.Proofs.YtgbgbodhpahceaaDoor.LgrP
set_option linter.unusedVariables false
set_option maxRecDepth 100000

theorem neq_rp (c p : Int) : ∀ W, (Go.binOp .neq 84 (.agg #[.int .i64 c, .int .i64 p]) (.agg #[.int .i64 c, .int .i64 p])).run Tryd.prog W = .ok (.bool false) W := by
  intro W
  simp [go_sem, Tryd.underlying84, Tryd.underlying3]

set_option maxHeartbeats 6400000 in
theorem same_any (x y : Lg) (w : World) (hx : x.In w) (hy : y.In w) (hxl : x.l.length ≤ 100) (hb : y.b = x.b) (hm : y.m = x.m) (hk : y.k = x.k) (hl : y.l = x.l) :
    Calls Tryd.prog 16 #[x.val, y.val] w fun e w' => e = .returned (.bool true) ∧ Below w.heap.size w w' := by
  obtain ⟨_, _, hsx⟩ := hx
  obtain ⟨_, _, hsy⟩ := hy
  obtain ⟨b, m, k, A, cap, l⟩ := x
  obtain ⟨b', m', k', A', cap', l'⟩ := y
  simp only at hb hm hk hl hsx hsy hxl
  subst hb hm hk hl
  unfold Lg.val
  simp only
  obtain ⟨n, hn⟩ : ∃ n, l'.length = n := ⟨_, rfl⟩
  rw [hn] at hxl ⊢
  have HN := Lib.hid hn
  have HX := Lib.hid hsx
  have HY := Lib.hid hsy
  have hj := Lib.hid ((J.one w #[.int .i64 b', .int .i64 m', .int .i64 k', .slice A n cap] 34).push #[.int .i64 b', .int .i64 m', .int .i64 k', .slice A' n cap'] 34)
  simp only [World.size_alloc] at hj
  obtain ⟨a0, a1, a2, a3⟩ := (hj.out.bx 0 rfl).c4
  obtain ⟨b0, b1, b2, b3⟩ := (hj.out.bx 1 rfl).c4
  clear hn hsx hsy
  go_enter Tryd.func16, Tryd.ntmps16
  go_wp2
  clear a0 a1 a2 a3 b0 b1 b2 b3
  go_loopw [5] (fun i wr => ∃ q : Nat, q ≤ n ∧ i = .int .i64 q ∧ Hid (J w wr [(w.heap.size + 1, #[.int .i64 b', .int .i64 m', .int .i64 k', .slice A' n cap']), (w.heap.size, #[.int .i64 b', .int .i64 m', .int .i64 k', .slice A n cap])])) (fun i _ => n - (intOf i).toNat)
  case atStart => exact ⟨0, Nat.zero_le _, rfl, hj⟩
  case round =>
    obtain ⟨q, hq, rfl, hjr⟩ := hrel
    clear hj
    obtain ⟨a0, a1, a2, a3⟩ := (hjr.out.bx 0 rfl).c4
    obtain ⟨b0, b1, b2, b3⟩ := (hjr.out.bx 1 rfl).c4
    by_cases hlt : q < n
    · obtain ⟨p, bb, o, hp, rfl, hbb, c0, c1⟩ := pm_at (HX.out.below hjr.out.below (Nat.le_refl _)) (i := q) (by rw [HN.out]; exact hlt)
      obtain ⟨p', bb', o', hp', rfl, hbb', d0, d1⟩ := pm_at (HY.out.below hjr.out.below (Nat.le_refl _)) (i := q) (by rw [HN.out]; exact hlt)
      obtain rfl : p' = p := Option.some.inj (hp'.symm.trans hp)
      obtain ⟨pc, pp⟩ := p'
      simp only at c0 c1 d0 d1
      have i1 : (q : Int) < (n : Int) := by omega
      have e3 : IntKind.i64.wrap ((q : Int) + 1) = ((q + 1 : Nat) : Int) := by rw [IntWalk.i64_in _ (by omega)]; rfl
      have HLT := Lib.hid hlt
      have nq := neq_rp pc pp
      have hjS : Hid (JS wr [] wr) := Lib.hid (J.start wr)
      have hmx : Tryd.prog.follows .mixedOrders = true := by kernel_rfl
      have hwr : w.heap.size + 1 < wr.heap.size := (hjr.out.bx 0 rfl).lt
      have hbb2 : bb < wr.heap.size := by omega
      have hbb3 : bb' < wr.heap.size := by omega
      clear hp hp' hlt a0 a1 a2 b0 b1 b2
      go_wp2
      refine wp_region_tail 10 _ JS.closed hjS.out hmx (by kernel_rfl) ?_
      simp only [List.take_succ_cons, List.take_zero, List.drop_succ_cons, List.drop_zero]
      apply Exists.intro
      refine ⟨fun w10 h10 => ?_, fun W1 hJ1 hB1 => ?_⟩
      · haveI := Ext.some h10
        have q0 := ext_old h10 (a := ⟨w.heap.size + 1, 3, none⟩) hwr a3
        have q1 := ext_old h10 (a := ⟨w.heap.size, 3, none⟩) (by simp only; omega) b3
        have q2 := ext_old h10 (a := ⟨bb, o + q * 2, none⟩) hbb2 c0
        have q3 := ext_old h10 (a := ⟨bb, o + q * 2 + 1, none⟩) hbb2 c1
        have q4 := ext_old h10 (a := ⟨bb', o' + q * 2, none⟩) hbb3 d0
        have q5 := ext_old h10 (a := ⟨bb', o' + q * 2 + 1, none⟩) hbb3 d1
        repeat go_big_quiet_step (fail)
        exact wpQuiet_nil rfl
      have hj1 := Lib.hid (hjr.out.next hB1)
      clear a3 b3 c0 c1 d0 d1 hJ1 hB1 hjS hjr
      change wpList _ _ _ _ _ _
      go_wp2
      go_roundw
      case rel => exact ⟨q + 1, by omega, rfl, hj1⟩
      case measure => have := HLT.out; simp [intOf]; omega
    · obtain rfl : q = n := by omega
      go_wp2
      go_ret
      exact ⟨rfl, hjr.out.below⟩

end Go.Proofs.YtgbgbodhpahceaaDoor.Jrn

/- Plain: what is told of two places behind writes. -/
namespace Go.Proofs.YtgbgbodhpahceaaDoor.Jrn
open Go.RowKit Go.Proofs.YtgbgbodhpahceaaDoor.Plain Go.Proofs.YtgbgbodhpahceaaDoor.Oct Go.Proofs.YtgbgbodhpahceaaDoor.Crc Go.Proofs.YtgbgbodhpahceaaDoor.JrnP Go.Proofs.YtgbgbodhpahceaaDoor.Open Go.Proofs.YtgbgbodhpahceaaDoor.LgrP
set_option linter.unusedVariables false
set_option maxRecDepth 100000

/-- bytes -/
def By (z : List Int) : Prop := ∀ b ∈ z, 0 ≤ b ∧ b ≤ 255
theorem By.nil : By [] := fun b h => by cases h
theorem parts_head {bs r0 : List Int} {rs : List (List Int)} (hb : By bs) (h : parts bs = some (r0 :: rs)) : ∃ N : Nat, r0 = (bs.drop 2).take N ∧ r0.length = N ∧ 2 + N ≤ bs.length ∧ parts (bs.drop (2 + N)) = some rs := by
  by_cases h0 : bs.length = 0
  · have : bs = [] := List.eq_nil_of_length_eq_zero h0
    subst this
    rw [parts_nil] at h
    cases h
  · by_cases h1 : bs.length = 1
    · rw [parts_one bs h1] at h; cases h
    · obtain ⟨N, hN, _⟩ := ofB_two bs (by omega) hb
      rw [parts_step bs N (by omega) hN] at h
      by_cases hf : bs.length < 2 + N
      · rw [if_pos hf] at h; cases h
      · rw [if_neg hf] at h
        rcases hq : parts (bs.drop (2 + N)) with _ | qs
        · rw [hq] at h; cases h
        · rw [hq] at h
          injection h with h
          injection h with h2 h3
          subst h2 h3
          exact ⟨N, rfl, by simp; omega, by omega, hq⟩
theorem opn_take {z pre : List Int} (h : opn z = some pre) : 4 ≤ z.length ∧ pre = z.take (z.length - 4) := by
  unfold opn at h
  split at h
  · rename_i hc
    injection h with h
    exact ⟨hc.1, h.symm⟩
  · cases h
/-- whose sum is theirs, and whose rows are a ledger's -/
theorem get_form {z : List Int} (hb : By z) (h : (JrnP.get z).e = 0) : 26 ≤ z.length ∧ (JrnP.get z).s = ofB ((z.drop 2).take 8) := by
  unfold JrnP.get at h ⊢
  split at h
  · exact absurd h (by decide)
  · rename_i pre hp
    have ho := opn_take hp
    have hbp : By pre := fun b hb2 => hb b (by rw [ho.2] at hb2; exact List.mem_of_mem_take hb2)
    have hl : pre.length = z.length - 4 := by rw [ho.2, List.length_take]; omega
    split at h
    · exact absurd h (by decide)
    · rename_i rows hr
      try rw [hr]
      try simp only
      by_cases hf : isF rows = true
      · obtain ⟨r0, r1, r2, rfl, h0, h1, h2⟩ := isF_rows hf
        obtain ⟨N0, e0, l0, k0, p0⟩ := parts_head hbp hr
        have hb0 : By (pre.drop (2 + N0)) := fun b hb2 => hbp b (List.mem_of_mem_drop hb2)
        obtain ⟨N1, e1, l1, k1, p1⟩ := parts_head hb0 p0
        have hb1 : By ((pre.drop (2 + N0)).drop (2 + N1)) := fun b hb2 => hb0 b (List.mem_of_mem_drop hb2)
        obtain ⟨N2, e2, l2, k2, p2⟩ := parts_head hb1 p1
        rw [List.length_drop] at k1
        rw [List.length_drop, List.length_drop] at k2
        refine ⟨by omega, ?_⟩
        have hN : N0 = 8 := by omega
        subst hN
        rw [getR_yes h0 h1 h2] at h ⊢
        split at h
        · rename_i hm
          rw [if_pos hm, e0, ho.2]
          simp only
          rw [List.drop_take, List.take_take]
          congr 2
          omega
        · exact absurd h (by decide)
      · rw [getR_no (by simpa using hf)] at h
        exact absurd h (by decide)
theorem get_short {z : List Int} (hb : By z) (h : z.length < 26) : (JrnP.get z).e ≠ 0 := fun he => by
  have := (get_form hb he).1
  omega

/-- who is told -/
theorem load_none {z0 z1 : List Int} (h0 : (JrnP.get z0).e ≠ 0) (h1 : (JrnP.get z1).e ≠ 0) : JrnP.load z0 z1 = bad 0 := by
  unfold JrnP.load
  rw [best_no (.inl h0), best_no (.inl h1)]
theorem best_ge {p : Int} {x y : G} : x.s ≤ (best p x y).s := by
  unfold best
  split
  · rename_i h; exact Int.le_of_lt h.2.2
  · exact Int.le_refl _
theorem best_ge2 {p : Int} {x y : G} (h1 : y.e = 0) (h2 : y.s % 2 = p) : y.s ≤ (best p x y).s := by
  unfold best
  split
  · exact Int.le_refl _
  · rename_i h
    exact Int.not_lt.1 fun hlt => h ⟨h1, h2, hlt⟩
theorem load_ge0 {z0 z1 : List Int} (h1 : (JrnP.get z0).e = 0) (h2 : (JrnP.get z0).s % 2 = 0) : (JrnP.get z0).s ≤ (JrnP.load z0 z1).s := Int.le_trans (best_ge2 h1 h2) best_ge
theorem load_ge1 {z0 z1 : List Int} (h1 : (JrnP.get z1).e = 0) (h2 : (JrnP.get z1).s % 2 = 1) : (JrnP.get z1).s ≤ (JrnP.load z0 z1).s := best_ge2 h1 h2
theorem load_even {z0 z1 : List Int} {b m s : Int} {l : List Pm} (h0 : JrnP.get z0 = ⟨0, b, m, l, s⟩) (hs : s % 2 = 0) (hp : 0 < s) (h1 : (JrnP.get z1).e = 0 → (JrnP.get z1).s % 2 = 1 → (JrnP.get z1).s ≤ s) : JrnP.load z0 z1 = ⟨0, b, m, l, s⟩ := by
  unfold JrnP.load
  have e0 : best 0 (bad 0) (JrnP.get z0) = ⟨0, b, m, l, s⟩ := by rw [h0]; exact best_yes rfl hs hp
  rw [e0]
  refine best_no ?_
  by_cases h2 : (JrnP.get z1).e = 0
  · by_cases h3 : (JrnP.get z1).s % 2 = 1
    · exact .inr (.inr (by have := h1 h2 h3; simp only; omega))
    · exact .inr (.inl h3)
  · exact .inl h2
theorem load_odd {z0 z1 : List Int} {b m s : Int} {l : List Pm} (h1 : JrnP.get z1 = ⟨0, b, m, l, s⟩) (hs : s % 2 = 1) (hp : 0 < s) (h0 : (JrnP.get z0).e = 0 → (JrnP.get z0).s % 2 = 0 → (JrnP.get z0).s < s) : JrnP.load z0 z1 = ⟨0, b, m, l, s⟩ := by
  unfold JrnP.load
  rw [h1]
  refine best_yes rfl hs ?_
  simp only
  by_cases hc : (JrnP.get z0).e = 0 ∧ (JrnP.get z0).s % 2 = 0 ∧ (bad 0).s < (JrnP.get z0).s
  · rw [best_yes hc.1 hc.2.1 hc.2.2]
    exact h0 hc.1 hc.2.1
  · rw [show best 0 (bad 0) (JrnP.get z0) = bad 0 from if_neg hc]
    exact hp

/-- behind a write -/
theorem load_in {z0 z1 : List Int} (h0 : By z0) (h1 : By z1) : 0 ≤ (JrnP.load z0 z1).s ∧ (JrnP.load z0 z1).s ≤ 18446744073709551615 := fold_in z0 z1 h0 h1 2
theorem nxt_eq {z0 z1 : List Int} (h0 : By z0) (h1 : By z1) (h : (JrnP.load z0 z1).s < 18446744073709551615) : nxt z0 z1 = (JrnP.load z0 z1).s + 1 := by
  have := load_in h0 h1
  unfold nxt u
  omega
theorem wr_by {z0 z1 : List Int} (h0 : By z0) (h1 : By z1) (b m : Int) (l : List Pm) : By (wr0 z0 z1 b m l) ∧ By (wr1 z0 z1 b m l) := by
  unfold wr0 wr1
  refine ⟨?_, ?_⟩ <;> split
  · exact put_in _ _ _ _
  · exact h0
  · exact h1
  · exact put_in _ _ _ _
theorem wr_load {z0 z1 : List Int} (h0 : By z0) (h1 : By z1) (h : (JrnP.load z0 z1).s < 18446744073709551615) {b m : Int} {l : List Pm} (hm : may b m l = true) (hl : l.length ≤ 8000) :
    JrnP.load (wr0 z0 z1 b m l) (wr1 z0 z1 b m l) = ⟨0, b, m, l, (JrnP.load z0 z1).s + 1⟩ := by
  have hn := nxt_eq h0 h1 h
  have hi := load_in h0 h1
  have hg := get_put (b := b) (m := m) (l := l) (s := (JrnP.load z0 z1).s + 1) hm hl (by omega)
  unfold wr0 wr1
  rw [hn]
  by_cases hp : ((JrnP.load z0 z1).s + 1) % 2 = 0
  · rw [if_pos hp, if_pos hp]
    exact load_even hg hp (by omega) fun a c => by have := load_ge1 (z0 := z0) a c; omega
  · rw [if_neg hp, if_neg hp]
    exact load_odd hg (by omega) (by omega) fun a c => by have := load_ge0 (z1 := z1) a c; omega
theorem may_of {x : Lg} (h : mayB x = true) : may x.b x.m x.l = true := by
  unfold may
  unfold mayB at h ⊢
  simp only [Bool.and_eq_true] at h ⊢
  exact ⟨⟨⟨⟨h.1.1.1.1, h.1.1.1.2⟩, by decide⟩, h.1.2⟩, h.2⟩

end Go.Proofs.YtgbgbodhpahceaaDoor.Jrn

/- The law's example. -/
namespace Go.Proofs.YtgbgbodhpahceaaDoor.Jrn
open Go.RowKit Go.Proofs.YtgbgbodhpahceaaDoor.Plain Go.Proofs.YtgbgbodhpahceaaDoor.Sees Go.Proofs.YtgbgbodhpahceaaDoor.Oct Go.Proofs.YtgbgbodhpahceaaDoor.Crc Go.Proofs.YtgbgbodhpahceaaDoor.Box Go.Proofs.YtgbgbodhpahceaaDoor.Held Go.Proofs.YtgbgbodhpahceaaDoor.JrnP Go.Proofs.YtgbgbodhpahceaaDoor.Open Go.Proofs.YtgbgbodhpahceaaDoor.LgrP
set_option linter.unusedVariables false
set_option maxRecDepth 100000

/-- a journal, by its places -/
def JV (v : Value) (W : World) (z0 z1 y0 y1 : List Int) : Prop := ∃ j : Jr, v = j.val ∧ j.In W ∧ (j.n0.bs = z0 ∧ j.n1.bs = z1 ∧ j.a0.bs = y0 ∧ j.a1.bs = y1)
theorem JV.next {v : Value} {W W' : World} {z0 z1 y0 y1 : List Int} (h : JV v W z0 z1 y0 y1) (hb : Below W.heap.size W W') : JV v W' z0 z1 y0 y1 := by
  obtain ⟨j, h1, h2, h3⟩ := h
  exact ⟨j, h1, h2.next hb, h3⟩
/-- a new place of four rows -/
def AV (v : Value) (W : World) (N : Nat) : Prop := ∃ B, v = .pointer (some ⟨B, 0, none⟩) ∧ BxT W B #[.slice none 0 0, .slice none 0 0, .slice none 0 0, .slice none 0 0] 45 ∧ N ≤ B
theorem AV.next {v : Value} {W W' : World} {N : Nat} (h : AV v W N) (hb : Below W.heap.size W W') : AV v W' N := by
  obtain ⟨B, h1, h2, h3⟩ := h
  exact ⟨B, h1, h2.next hb, h3⟩
theorem from_nil (w : World) : Calls Tryd.prog 17 #[.slice none 0 0, .slice none 0 0] w (JP w [] [] [] []) := jFrom_any [] [] none none 0 0 0 0 w rfl rfl (by omega) (by omega) (.inl rfl) (.inl rfl) By.nil By.nil
theorem write_at (z0 z1 y0 y1 : List Int) (j : Jr) (x : Lg) (w : World) (ht : Tab w) (hj : j.In w) (he : j.n0.bs = z0 ∧ j.n1.bs = z1 ∧ j.a0.bs = y0 ∧ j.a1.bs = y1) (hx : x.In w) (hl : x.l.length ≤ 100) :
    Calls Tryd.prog 23 #[j.val, x.val] w (JP w (wr0 z0 z1 x.b x.m x.l) (wr1 z0 z1 x.b x.m x.l) z0 z1) := by
  have := jWrite_any j x w ht hj hx hl
  rwa [he.1, he.2.1] at this
theorem load_at (z0 z1 y0 y1 : List Int) (j : Jr) (w : World) (ht : Tab w) (hj : j.In w) (he : j.n0.bs = z0 ∧ j.n1.bs = z1 ∧ j.a0.bs = y0 ∧ j.a1.bs = y1) :
    Calls Tryd.prog 18 #[j.val] w (LP w (JrnP.load z0 z1)) := by
  have := jLoad_any j w ht hj
  rwa [he.1, he.2.1] at this
theorem tear_at (z0 z1 y0 y1 : List Int) (n : Int) (j : Jr) (w : World) (hn : n ≤ 9223372036854775807) (hj : j.In w) (he : j.n0.bs = z0 ∧ j.n1.bs = z1 ∧ j.a0.bs = y0 ∧ j.a1.bs = y1) :
    Calls Tryd.prog 21 #[j.val, .int .i64 n] w (JP w (torn z0 y0 n.toNat) (torn z1 y1 n.toNat) y0 y1) := by
  have := jTear_any j n w hn hj
  rwa [he.1, he.2.1, he.2.2.1, he.2.2.2] at this
theorem slots_at (z0 z1 y0 y1 : List Int) (j : Jr) (w : World) (hj : j.In w) (he : j.n0.bs = z0 ∧ j.n1.bs = z1 ∧ j.a0.bs = y0 ∧ j.a1.bs = y1) :
    Calls Tryd.prog 20 #[j.val] w (SP w z0 z1) := by
  have := jSlots_any j w hj
  rwa [he.1, he.2.1] at this
/-- a journal in a box -/
structure AQ (w W : World) (B : Nat) (j : Jr) : Prop where
  box : BxT W B j.arr 45
  in_ : j.In W
  bel : Below w.heap.size w W
theorem AQ.next {w W W' : World} {B : Nat} {j : Jr} (h : AQ w W B j) (hb : Below W.heap.size W W') : AQ w W' B j := ⟨h.box.next hb, h.in_.next hb, h.bel.trans (hb.mono h.bel.size)⟩
theorem ts_peak {W : World} {g o : Nat} (h : TS W 69 (some ⟨g, o, none⟩) (pms [⟨3, 4⟩])) : W.cell? ⟨g, o + 1, none⟩ = some (.int .i64 4) := by
  rcases h with h | ⟨g', o', cur, hA, hg, hc⟩
  · simp [pms, Pm.cells] at h
  · injection hA with hA
    injection hA with h1 h2
    subst h1 h2
    simp [World.cell?, hg, hc 1 _ rfl]
/-- what the example's Load answers -/
def L1 (w : World) (e : Ending) (w' : World) : Prop :=
  ∃ g o c, e = .returned (.tuple #[.agg #[.int .i64 9, .int .i64 0, .int .i64 0, .slice (some ⟨g, o, none⟩) 1 c], .int .u64 1, .bool true]) ∧ TS w' 69 (some ⟨g, o, none⟩) (pms [⟨3, 4⟩]) ∧ Below w.heap.size w w'
def L0 (w : World) (e : Ending) (w' : World) : Prop :=
  ∃ A c, e = .returned (.tuple #[.agg #[.int .i64 0, .int .i64 0, .int .i64 0, .slice A 0 c], .int .u64 0, .bool false]) ∧ Below w.heap.size w w'
theorem may_ex : may 9 0 [⟨3, 4⟩] = true := by decide
theorem ex_load : JrnP.load (wr0 [] [] 9 0 [⟨3, 4⟩]) (wr1 [] [] 9 0 [⟨3, 4⟩]) = ⟨0, 9, 0, [⟨3, 4⟩], 1⟩ := by
  have e0 : JrnP.load [] [] = bad 0 := load_none (get_short By.nil (by decide)) (get_short By.nil (by decide))
  have := wr_load (z0 := []) (z1 := []) By.nil By.nil (by rw [e0]; decide) may_ex (by decide)
  rw [this, e0]
  rfl
theorem torn_short {z : List Int} {n : Nat} (h : By z) (hn : n < 26) (hz : n < z.length) : (JrnP.get (torn z [] n)).e ≠ 0 := by
  refine get_short (torn_in h By.nil) ?_
  unfold torn
  rw [if_neg (by omega), List.drop_nil, List.append_nil, List.length_take]
  omega
theorem ex_torn : JrnP.load (torn (wr0 [] [] 9 0 [⟨3, 4⟩]) [] 5) (torn (wr1 [] [] 9 0 [⟨3, 4⟩]) [] 5) = bad 0 := by
  have e0 : JrnP.load [] [] = bad 0 := load_none (get_short By.nil (by decide)) (get_short By.nil (by decide))
  have en : nxt [] [] = 1 := by rw [nxt_eq By.nil By.nil (by rw [e0]; decide), e0]; rfl
  have w0 : wr0 [] [] 9 0 [⟨3, 4⟩] = [] := by unfold wr0; rw [en, if_neg (by decide)]
  have w1 : wr1 [] [] 9 0 [⟨3, 4⟩] = put 9 0 [⟨3, 4⟩] 1 := by unfold wr1; rw [en, if_neg (by decide)]
  refine load_none ?_ ?_
  · rw [w0, torn_self]
    exact get_short By.nil (by decide)
  · rw [w1]
    exact torn_short (put_in _ _ _ _) (by decide) (by rw [put_len]; simp)
def AwkF (X : Nat) (o0 o1 : List Int) : Nat → Value → World → Prop
  | 0, vv, w' => JV vv w' [] [] [] []
  | 1, vv, _ => vv = .agg #[.int .i64 9, .int .i64 0, .int .i64 0, .slice (some ⟨X, 0, none⟩) 1 1]
  | 2, vv, w' => JV vv w' o0 o1 [] []
  | 3, vv, w' => AV vv w' X
  | _, _, _ => True

set_option maxHeartbeats 12800000 in
theorem awake_any (w : World) (ht : Tab w) : Calls Tryd.prog 9 #[] w fun e w' => e = .returned (.bool true) ∧ Below w.heap.size w w' := by
  have HW : Hid (∀ j x W, Tab W → Jr.In W j → (j.n0.bs = [] ∧ j.n1.bs = [] ∧ j.a0.bs = [] ∧ j.a1.bs = []) → Lg.In W x → x.b = 9 → x.m = 0 → x.l = [⟨3, 4⟩] → Calls Tryd.prog 23 #[j.val, x.val] W (JP W (wr0 [] [] 9 0 [⟨3, 4⟩]) (wr1 [] [] 9 0 [⟨3, 4⟩]) [] [])) := Lib.hid fun j x W h1 h2 h3 h4 h5 h6 h7 => by
    have := write_at [] [] [] [] j x W h1 h2 h3 h4 (by rw [h7]; decide)
    rwa [h5, h6, h7] at this
  have HL : Hid (∀ j W, Tab W → Jr.In W j → (j.n0.bs = wr0 [] [] 9 0 [⟨3, 4⟩] ∧ j.n1.bs = wr1 [] [] 9 0 [⟨3, 4⟩] ∧ j.a0.bs = [] ∧ j.a1.bs = []) → Calls Tryd.prog 18 #[j.val] W (L1 W)) := Lib.hid fun j W h1 h2 h3 => by
    have := load_at _ _ _ _ j W h1 h2 h3
    rw [ex_load] at this
    exact this.mono fun e w' ⟨A, c, h1, h2, h3, h4, h5⟩ => by
      rcases h4 with h | ⟨g, o, cur, rfl, h6⟩
      · simp [pms, Pm.cells] at h
      · exact ⟨g, o, c, h1, .inr ⟨g, o, cur, rfl, h6⟩, h5⟩
  have HT : Hid (∀ j W, Tab W → Jr.In W j → (j.n0.bs = wr0 [] [] 9 0 [⟨3, 4⟩] ∧ j.n1.bs = wr1 [] [] 9 0 [⟨3, 4⟩] ∧ j.a0.bs = [] ∧ j.a1.bs = []) → Calls Tryd.prog 21 #[j.val, .int .i64 5] W (JP W (torn (wr0 [] [] 9 0 [⟨3, 4⟩]) [] 5) (torn (wr1 [] [] 9 0 [⟨3, 4⟩]) [] 5) [] [])) := Lib.hid fun j W h1 h2 h3 => tear_at _ _ _ _ 5 j W (by decide) h2 h3
  have HL2 : Hid (∀ j W, Tab W → Jr.In W j → (j.n0.bs = torn (wr0 [] [] 9 0 [⟨3, 4⟩]) [] 5 ∧ j.n1.bs = torn (wr1 [] [] 9 0 [⟨3, 4⟩]) [] 5 ∧ j.a0.bs = [] ∧ j.a1.bs = []) → Calls Tryd.prog 18 #[j.val] W (L0 W)) := Lib.hid fun j W h1 h2 h3 => by
    have := load_at _ _ _ _ j W h1 h2 h3
    rw [ex_torn] at this
    exact this.mono fun e w' ⟨A, c, h1, h2, h3, h4, h5⟩ => ⟨A, c, h1, h5⟩
  generalize torn (wr0 [] [] 9 0 [⟨3, 4⟩]) [] 5 = t0 at *
  generalize torn (wr1 [] [] 9 0 [⟨3, 4⟩]) [] 5 = t1 at *
  generalize wr0 [] [] 9 0 [⟨3, 4⟩] = o0 at *
  generalize wr1 [] [] 9 0 [⟨3, 4⟩] = o1 at *
  have HTb := Lib.hid ht
  have hj0 := (J.one w #[.int .i64 3, .int .i64 4] 69).push #[.int .i64 0, .int .i64 0, .int .i64 0, .slice none 0 0] 24
  have hj := Lib.hid ((J.one w #[.int .i64 3, .int .i64 4] 69).push #[.int .i64 9, .int .i64 0, .int .i64 0, .slice (some ⟨w.heap.size, 0, none⟩) 1 1] 24)
  rw [World.size_alloc] at hj0 hj
  obtain ⟨z0, z1, z2, z3⟩ := (hj0.bx 0 rfl).c4
  obtain ⟨f0, f1, f2, f3⟩ := (hj0.bx 0 rfl).f4
  clear hj0 ht
  go_enter Tryd.func9, Tryd.ntmps9
  go_wp2
  have HA : Hid (∀ W, Below (w.heap.size + 1 + 1) ((w.alloc (.cells #[.int .i64 3, .int .i64 4] 69)).alloc (.cells #[.int .i64 9, .int .i64 0, .int .i64 0, .slice (some ⟨w.heap.size, 0, none⟩) 1 1] 24)) W → Bx W (w.heap.size + 1) #[.int .i64 9, .int .i64 0, .int .i64 0, .slice (some ⟨w.heap.size, 0, none⟩) 1 1] ∧ Tab W ∧ Lg.In W ⟨9, 0, 0, some ⟨w.heap.size, 0, none⟩, 1, [⟨3, 4⟩]⟩ ∧ w.heap.size ≤ W.heap.size) := Lib.hid fun W hW => by
    have hj1 := hj.out.next (W' := W) (by simpa using hW)
    refine ⟨hj1.bx 0 rfl, HTb.out.next hj1.below, ⟨Nat.le_refl 1, show 1 ≤ maxLen by decide, .inr ⟨w.heap.size, 0, rfl, (hj1.bx 1 rfl).lt, fun k u hu => by rw [Nat.zero_add]; exact (hj1.bx 1 rfl).cell (by simpa [pms, Pm.cells] using hu)⟩⟩, hj1.below.size⟩
  have hsz : ((w.alloc (.cells #[.int .i64 3, .int .i64 4] 69)).alloc (.cells #[.int .i64 9, .int .i64 0, .int .i64 0, .slice (some ⟨w.heap.size, 0, none⟩) 1 1] 24)).heap.size = w.heap.size + 1 + 1 := by simp
  rw [← hsz] at HA
  have HB0 := Lib.hid hj.out.below
  clear z0 z1 z2 z3 f0 f1 f2 f3 hsz
  generalize (w.alloc (.cells #[.int .i64 3, .int .i64 4] 69)).alloc (.cells #[.int .i64 9, .int .i64 0, .int .i64 0, .slice (some ⟨w.heap.size, 0, none⟩) 1 1] 24) = w0 at HA HB0 ⊢
  clear hj
  refine Held.wp_region_invt 4 (AwkF w.heap.size o0 o1) (by kernel_rfl) (by kernel_rfl) ?_ ?_ ?_
  · intro i v W W' h hb
    unfold AwkF at h ⊢
    split at h <;> first | exact h | exact JV.next h hb | exact AV.next h hb 
  · intro i o x W K hi ho hB hd hK
    have HX := Lib.hid (HA.out W hB)
    match i, ho with
    | 0, ho =>
      obtain rfl := Option.some.inj ho
      simp only [Inv.fill, Act.put, List.setIfInBounds_toArray, List.set_cons_zero, List.set_cons_succ, List.take_succ_cons, List.take_zero] at hK ⊢
      clear hd ho
      rw [wpOp]
      refine (if_pos rfl).mpr (.inl ?_)
      have hc := from_nil W
      go_simp
      refine hc.mono ?_
      rintro e w2 ⟨q, rfl, h1, h2, h3⟩
      exact hK _ _ h3 ⟨q, rfl, h1, h2⟩
    | 1, ho =>
      obtain rfl := Option.some.inj ho
      simp only [Inv.fill, Act.put, List.setIfInBounds_toArray, List.set_cons_zero, List.set_cons_succ, List.take_succ_cons, List.take_zero] at hK ⊢
      clear hd ho
      rw [wpOp]
      refine (if_pos rfl).mpr (.inl ?_)
      obtain ⟨k0, k1, k2, k3⟩ := HX.out.1.c4
      go_simp
      exact hK _ _ (Below.refl _ _) rfl
    | 2, ho =>
      obtain rfl := Option.some.inj ho
      obtain ⟨j0, e0, hi0, hb0⟩ := (hd ⟨0, .data⟩ (by simp) rfl : JV (x 0) W [] [] [] [])
      have e1 : x 1 = .agg #[.int .i64 9, .int .i64 0, .int .i64 0, .slice (some ⟨w.heap.size, 0, none⟩) 1 1] := hd ⟨1, .data⟩ (by simp) rfl
      simp only [Inv.fill, Act.put, List.setIfInBounds_toArray, List.set_cons_zero, List.set_cons_succ, List.take_succ_cons, List.take_zero, e0, e1] at hK ⊢
      clear hd ho e0 e1
      rw [wpOp]
      refine (if_pos rfl).mpr (.inl ?_)
      have hc := HW.out j0 ⟨9, 0, 0, some ⟨w.heap.size, 0, none⟩, 1, [⟨3, 4⟩]⟩ W HX.out.2.1 hi0 hb0 HX.out.2.2.1 rfl rfl rfl
      go_simp
      refine hc.mono ?_
      rintro e w2 ⟨q, rfl, h1, h2, h3⟩
      exact hK _ _ h3 ⟨q, rfl, h1, h2⟩
    | 3, ho =>
      obtain rfl := Option.some.inj ho
      simp only [Inv.fill, Act.put, List.setIfInBounds_toArray, List.set_cons_zero, List.set_cons_succ, List.take_succ_cons, List.take_zero] at hK ⊢
      clear hd ho
      rw [wpOp]
      refine (if_pos rfl).mpr (.inl ?_)
      go_simp
      exact hK _ _ below_box ⟨W.heap.size, rfl, BxT.new _ _ _, HX.out.2.2.2⟩
    | n + 4, ho => exact absurd hi (by omega)
  · intro x W hB hx
    obtain ⟨j2, e2, hi2, hb2⟩ := (hx 2 (by simp) : JV (x 2) W o0 o1 [] [])
    obtain ⟨B, e3, hB3, hn3⟩ := (hx 3 (by simp) : AV (x 3) W w.heap.size)
    simp only [Inv.fill, Act.put, List.setIfInBounds_toArray, List.set_cons_zero, List.set_cons_succ, List.take_succ_cons, List.take_zero, List.drop_succ_cons, List.drop_zero, e2, e3]
    clear hx e2 e3
    obtain ⟨⟨A0, c0, q0⟩, ⟨A1, c1, q1⟩, ⟨A2, c2, q2⟩, ⟨A3, c3, q3⟩⟩ := j2
    obtain ⟨k0, k1, k2, k3⟩ := hB3.bx.c4
    obtain ⟨f0, f1, f2, f3⟩ := hB3.bx.f4
    have HQ : Hid (AQ w ((((W.setCell ⟨B, 0, none⟩ (.slice A0 q0.length c0)).setCell ⟨B, 1, none⟩ (.slice A1 q1.length c1)).setCell ⟨B, 2, none⟩ (.slice A2 q2.length c2)).setCell ⟨B, 3, none⟩ (.slice A3 q3.length c3)) B ⟨⟨A0, c0, q0⟩, ⟨A1, c1, q1⟩, ⟨A2, c2, q2⟩, ⟨A3, c3, q3⟩⟩) := Lib.hid ⟨set4 hB3, in4 hi2 hB3 (by decide) _ _ _ _, below4 (HB0.out.trans (hB.mono HB0.out.size)) hn3 _ _ _ _⟩
    have HB2 := Lib.hid hb2
    clear HA HB0 hB hi2 hb2 hB3 hn3
    simp only [Jr.val, Jr.arr, RowV.val]
    change wpList _ _ _ _ _ _
    go_wp2_with (first
      | (go_at_call 18; (refine (HL.out ⟨⟨A0, c0, q0⟩, ⟨A1, c1, q1⟩, ⟨A2, c2, q2⟩, ⟨A3, c3, q3⟩⟩ _ (HTb.out.next HQ.out.bel) HQ.out.in_ HB2.out).mono ?_; clear HL; rintro e w1 ⟨g4, o4, c4, rfl, ht4, h1⟩; have HQ1 := Lib.hid ((HQ.out.next h1).next (below_box (o := .cells #[.int .i64 9, .int .i64 0, .int .i64 0, .slice (some ⟨g4, o4, none⟩) 1 c4] 24))); have HT1 := Lib.hid (ht4.next (below_box (o := .cells #[.int .i64 9, .int .i64 0, .int .i64 0, .slice (some ⟨g4, o4, none⟩) 1 c4] 24))); have HX1 := Lib.hid (BxT.new w1 #[.int .i64 9, .int .i64 0, .int .i64 0, .slice (some ⟨g4, o4, none⟩) 1 c4] 24); clear ht4 h1 HQ k0 k1 k2 k3 f0 f1 f2 f3; obtain ⟨k0, k1, k2, k3⟩ := HQ1.out.box.bx.c4; simp only [RowV.val] at k0 k1 k2 k3))
      | (go_at_call 21; go_must (refine (HT.out ⟨⟨A0, c0, q0⟩, ⟨A1, c1, q1⟩, ⟨A2, c2, q2⟩, ⟨A3, c3, q3⟩⟩ _ (HTb.out.next HQ1.out.bel) HQ1.out.in_ HB2.out).mono ?_; clear HT; rintro e w2 ⟨⟨⟨A5, c5, q5⟩, ⟨A6, c6, q6⟩, ⟨A7, c7, q7⟩, ⟨A8, c8, q8⟩⟩, rfl, hi5, hb5, h2⟩; have HQ2 := Lib.hid (HQ1.out.next h2); have HT2 := Lib.hid (HT1.out.next h2); have HX2 := Lib.hid (HX1.out.next h2); have HB5 := Lib.hid hb5; have HI5 := Lib.hid hi5; clear HQ1 HT1 HX1 hb5 hi5 h2 k0 k1 k2 k3; simp only [Jr.val, Jr.arr, RowV.val]))
      | (go_at_call 18; (refine (HL2.out ⟨⟨A5, c5, q5⟩, ⟨A6, c6, q6⟩, ⟨A7, c7, q7⟩, ⟨A8, c8, q8⟩⟩ _ (HTb.out.next HQ2.out.bel) HI5.out HB5.out).mono ?_; clear HL2; rintro e w3 ⟨A9, c9, rfl, h3⟩; have HQ3 := Lib.hid ((HQ2.out.next h3).next (below_box (o := .cells #[.int .i64 0, .int .i64 0, .int .i64 0, .slice A9 0 c9] 24))); have HT3 := Lib.hid ((HT2.out.next h3).next (below_box (o := .cells #[.int .i64 0, .int .i64 0, .int .i64 0, .slice A9 0 c9] 24))); have HX3 := Lib.hid ((HX2.out.next h3).next (below_box (o := .cells #[.int .i64 0, .int .i64 0, .int .i64 0, .slice A9 0 c9] 24))); clear h3 HQ2 HT2 HX2; obtain ⟨k0, k1, k2, k3⟩ := HQ3.out.box.bx.c4; obtain ⟨l0, l1, l2, l3⟩ := HX3.out.bx.c4; have l4 := ts_peak HT3.out; simp only [RowV.val] at k0 k1 k2 k3))
      | (go_at_call 20; go_must (refine (slots_at _ _ _ _ ⟨⟨A0, c0, q0⟩, ⟨A1, c1, q1⟩, ⟨A2, c2, q2⟩, ⟨A3, c3, q3⟩⟩ _ HQ3.out.in_ HB2.out).mono ?_; rintro e w4 ⟨g9, c10, r9, r10, rfl, _, _, _, _, _, _, _, h4⟩; have HB9 := Lib.hid (HQ3.out.bel.trans (h4.mono HQ3.out.bel.size)); clear h4)))
    go_ret
    exact ⟨rfl, HB9.out⟩

end Go.Proofs.YtgbgbodhpahceaaDoor.Jrn

/- The contracts at letters, for the laws' walks. -/
namespace Go.Proofs.YtgbgbodhpahceaaDoor.Jrn
open Go.RowKit Go.Proofs.YtgbgbodhpahceaaDoor.Plain Go.Proofs.YtgbgbodhpahceaaDoor.Sees Go.Proofs.YtgbgbodhpahceaaDoor.Oct Go.Proofs.YtgbgbodhpahceaaDoor.Crc Go.Proofs.YtgbgbodhpahceaaDoor.Box Go.Proofs.YtgbgbodhpahceaaDoor.Held Go.Proofs.YtgbgbodhpahceaaDoor.JrnP Go.Proofs.YtgbgbodhpahceaaDoor.Open Go.Proofs.YtgbgbodhpahceaaDoor.LgrP
set_option linter.unusedVariables false
set_option maxRecDepth 100000

/-- permits in memory -/
structure LI (W : World) (A : Option Addr) (c n : Nat) (l : List Pm) : Prop where
  len : l.length = n
  cap : n ≤ c
  max : c ≤ maxLen
  see : Sees W W.heap.size A (pms l)
theorem LI.next {W W' : World} {A : Option Addr} {c n : Nat} {l : List Pm} (h : LI W A c n l) (hb : Below W.heap.size W W') : LI W' A c n l := ⟨h.len, h.cap, h.max, sees_next h.see hb⟩
theorem LI.lg {W : World} {A : Option Addr} {c n : Nat} {l : List Pm} (h : LI W A c n l) (b m k : Int) : Lg.In W ⟨b, m, k, A, c, l⟩ := ⟨by simp only [h.len]; exact h.cap, h.max, h.see⟩
theorem LI.val {W : World} {A : Option Addr} {c n : Nat} {l : List Pm} (h : LI W A c n l) (b m k : Int) : Lg.val ⟨b, m, k, A, c, l⟩ = .agg #[.int .i64 b, .int .i64 m, .int .i64 k, .slice A n c] := by simp only [Lg.val, h.len]
theorem Lg.li {W : World} {x : Lg} (h : x.In W) : LI W x.A x.cap x.l.length x.l := ⟨rfl, h.cap_, h.max_, h.see⟩

theorem few_at {W : World} {A : Option Addr} {c n : Nat} {l : List Pm} (h : LI W A c n l) (b m k : Int) : Calls Tryd.prog 10 #[.agg #[.int .i64 b, .int .i64 m, .int .i64 k, .slice A n c]] W fun e w' => e = .returned (.bool (decide (n ≤ 80))) ∧ Below W.heap.size W w' := by
  have := few_any ⟨b, m, k, A, c, l⟩ W
  rw [h.val] at this
  simpa only [h.len] using this
theorem of_at {W : World} {A : Option Addr} {c n : Nat} {l : List Pm} (h : LI W A c n l) (hn : n ≤ 100) (b m k : Int) : Calls Tryd.prog 15 #[.agg #[.int .i64 b, .int .i64 m, .int .i64 k, .slice A n c]] W fun e w' => ∃ A' c', e = .returned (.agg #[.int .i64 b, .int .i64 m, .int .i64 k, .slice A' n c']) ∧ LI w' A' c' n l ∧ Below W.heap.size W w' := by
  have := of_any ⟨b, m, k, A, c, l⟩ W (h.lg b m k) (by simp only [h.len]; exact hn)
  rw [h.val] at this
  refine this.mono ?_
  rintro e w' ⟨A', c', rfl, h2, h3⟩
  have hl : LI w' A' c' n l := ⟨h.len, by have := h2.cap_; simp only [h.len] at this; exact this, h2.max_, h2.see⟩
  exact ⟨A', c', by rw [hl.val], hl, h3⟩
theorem same_at {W : World} {A A' : Option Addr} {c c' n : Nat} {l : List Pm} (h : LI W A c n l) (h' : LI W A' c' n l) (hn : n ≤ 100) (b m k : Int) :
    Calls Tryd.prog 16 #[.agg #[.int .i64 b, .int .i64 m, .int .i64 k, .slice A n c], .agg #[.int .i64 b, .int .i64 m, .int .i64 k, .slice A' n c']] W fun e w' => e = .returned (.bool true) ∧ Below W.heap.size W w' := by
  have := same_any ⟨b, m, k, A, c, l⟩ ⟨b, m, k, A', c', l⟩ W (h.lg b m k) (h'.lg b m k) (by simp only [h.len]; exact hn) rfl rfl rfl rfl
  rwa [h.val, h'.val] at this
/-- may a ledger be one? -/
def mayK (b m k : Int) (l : List Pm) : Bool := mayB ⟨b, m, k, none, 0, l⟩
theorem may_k {b m k : Int} {l : List Pm} (h : mayK b m k l = true) : may b m l = true := may_of (x := ⟨b, m, k, none, 0, l⟩) h
theorem check_at {W : World} {A : Option Addr} {c n : Nat} {l : List Pm} (h : LI W A c n l) (hn : n ≤ 100) (b m k : Int) : Calls Tryd.prog 25 #[.agg #[.int .i64 b, .int .i64 m, .int .i64 k, .slice A n c]] W fun e w' => e = .returned (.bool (mayK b m k l)) ∧ Below W.heap.size W w' := by
  have := Lgr.check_any ⟨b, m, k, A, c, l⟩ W (h.lg b m k) (by simp only [h.len]; omega)
  rw [h.val] at this
  exact this.mono fun e w' h => ⟨h.1, h.2⟩
theorem put_at {W : World} {A : Option Addr} {c n : Nat} {l : List Pm} (h : LI W A c n l) (hn : n ≤ 100) (ht : Tab W) (b m k s : Int) (hs : 0 ≤ s ∧ s ≤ 18446744073709551615) :
    Calls Tryd.prog 13 #[.agg #[.int .i64 b, .int .i64 m, .int .i64 k, .slice A n c], .int .u64 s] W fun e w' => ∃ q : RowV, e = .returned q.val ∧ (RT w' q ∧ q.bs = put b m l s) ∧ Below W.heap.size W w' := by
  have := put_row ⟨b, m, k, A, c, l⟩ s W (h.lg b m k) (by simp only [h.len]; exact hn) hs ht
  rwa [h.val] at this
theorem ts_li {w' : World} {A : Option Addr} {c n : Nat} {l : List Pm} (hn : l.length = n) (h1 : n ≤ c) (h2 : c ≤ maxLen) (h3 : TS w' 69 A (pms l)) : LI w' A c n l := ⟨hn, h1, h2, h3.sees⟩
theorem get_back {W : World} {A : Option Addr} {c n : Nat} {q : List Int} {b m s : Int} {l : List Pm} (hq : RT W ⟨A, c, q⟩) (he : q = put b m l s) (ht : Tab W) (hm : may b m l = true) (hl : l.length = n) (hn : n ≤ 100) (hs : 0 ≤ s ∧ s ≤ 18446744073709551615) :
    Calls Tryd.prog 11 #[.slice A q.length c] W fun e w' => ∃ A' c', e = .returned (.tuple #[.agg #[.int .i64 b, .int .i64 m, .int .i64 0, .slice A' n c'], .int .u64 s, .int .i64 0]) ∧ LI w' A' c' n l ∧ Below W.heap.size W w' := by
  have := jGet_any q A q.length c W rfl hq.few hq.cap ht hq.ty.sees hq.byte
  rw [he, get_put hm (by omega) hs, ← he] at this
  refine this.mono ?_
  rintro e w' ⟨A', c', rfl, h1, h2, h3, h4⟩
  exact ⟨A', c', by simp only [hl], ts_li hl (by rw [← hl]; exact h1) h2 h3, h4⟩
theorem write_li {W : World} {A : Option Addr} {c n : Nat} {l : List Pm} (z0 z1 y0 y1 : List Int) (j : Jr) (ht : Tab W) (hj : j.In W) (he : j.n0.bs = z0 ∧ j.n1.bs = z1 ∧ j.a0.bs = y0 ∧ j.a1.bs = y1) (h : LI W A c n l) (hn : n ≤ 100) (b m k : Int) :
    Calls Tryd.prog 23 #[j.val, .agg #[.int .i64 b, .int .i64 m, .int .i64 k, .slice A n c]] W (JP W (wr0 z0 z1 b m l) (wr1 z0 z1 b m l) z0 z1) := by
  have := write_at z0 z1 y0 y1 j ⟨b, m, k, A, c, l⟩ W ht hj he (h.lg b m k) (by simp only [h.len]; exact hn)
  rwa [h.val] at this
theorem load_li {W : World} (z0 z1 y0 y1 : List Int) (j : Jr) (ht : Tab W) (hj : j.In W) (he : j.n0.bs = z0 ∧ j.n1.bs = z1 ∧ j.a0.bs = y0 ∧ j.a1.bs = y1) {e0 b m s : Int} {l : List Pm} {n : Nat} (hg : JrnP.load z0 z1 = ⟨e0, b, m, l, s⟩) (hl : l.length = n) :
    Calls Tryd.prog 18 #[j.val] W fun e w' => ∃ A c, e = .returned (.tuple #[.agg #[.int .i64 b, .int .i64 m, .int .i64 0, .slice A n c], .int .u64 s, .bool (decide (0 < s))]) ∧ LI w' A c n l ∧ Below W.heap.size W w' := by
  have := load_at z0 z1 y0 y1 j W ht hj he
  rw [hg] at this
  refine this.mono ?_
  rintro e w' ⟨A, c, rfl, h1, h2, h3, h4⟩
  exact ⟨A, c, by simp only [hl], ts_li hl (by rw [← hl]; exact h1) h2 h3, h4⟩

end Go.Proofs.YtgbgbodhpahceaaDoor.Jrn

/- What stands in the laws' worlds. -/
namespace Go.Proofs.YtgbgbodhpahceaaDoor.Jrn
open Go.RowKit Go.Proofs.YtgbgbodhpahceaaDoor.Plain Go.Proofs.YtgbgbodhpahceaaDoor.Sees Go.Proofs.YtgbgbodhpahceaaDoor.Oct Go.Proofs.YtgbgbodhpahceaaDoor.Crc Go.Proofs.YtgbgbodhpahceaaDoor.Box Go.Proofs.YtgbgbodhpahceaaDoor.Held Go.Proofs.YtgbgbodhpahceaaDoor.JrnP Go.Proofs.YtgbgbodhpahceaaDoor.Open Go.Proofs.YtgbgbodhpahceaaDoor.LgrP
set_option linter.unusedVariables false
set_option maxRecDepth 100000

/-- bytes that came in -/
structure SB (W : World) (A : Option Addr) (n : Nat) (z : List Int) : Prop where
  len : z.length = n
  see : Sees W W.heap.size A (nums .u8 z)
theorem SB.next {W W' : World} {A : Option Addr} {n : Nat} {z : List Int} (h : SB W A n z) (hb : Below W.heap.size W W') : SB W' A n z := ⟨h.len, sees_next h.see hb⟩
/-- memory made alone -/
structure BW (w W : World) : Prop where
  bel : Below w.heap.size w W
theorem BW.next {w W W' : World} (h : BW w W) (hb : Below W.heap.size W W') : BW w W' := ⟨h.bel.trans (hb.mono h.bel.size)⟩
/-- a journal in a box -/
structure JB (W : World) (B : Nat) (j : Jr) : Prop where
  box : BxT W B j.arr 45
  in_ : j.In W
theorem JB.next {W W' : World} {B : Nat} {j : Jr} (h : JB W B j) (hb : Below W.heap.size W W') : JB W' B j := ⟨h.box.next hb, h.in_.next hb⟩
/-- both places, in a slice -/
structure SI (W : World) (g c : Nat) (r0 r1 : RowV) : Prop where
  c2 : 2 ≤ c
  h0 : W.cell? ⟨g, 0, none⟩ = some r0.val
  h1 : W.cell? ⟨g, 1, none⟩ = some r1.val
  lt : g < W.heap.size
  t0 : RT W r0
  t1 : RT W r1
theorem SI.next {W W' : World} {g c : Nat} {r0 r1 : RowV} (h : SI W g c r0 r1) (hb : Below W.heap.size W W') : SI W' g c r0 r1 :=
  ⟨h.c2, (hb.cell (p := ⟨g, 0, none⟩) h.lt).trans h.h0, (hb.cell (p := ⟨g, 1, none⟩) h.lt).trans h.h1, Nat.lt_of_lt_of_le h.lt hb.size, h.t0.next hb, h.t1.next hb⟩
theorem slots_si {W : World} (z0 z1 y0 y1 : List Int) (j : Jr) (hj : j.In W) (he : j.n0.bs = z0 ∧ j.n1.bs = z1 ∧ j.a0.bs = y0 ∧ j.a1.bs = y1) :
    Calls Tryd.prog 20 #[j.val] W fun e w' => ∃ g c r0 r1, e = .returned (.slice (some ⟨g, 0, none⟩) 2 c) ∧ SI w' g c r0 r1 ∧ (r0.bs = z0 ∧ r1.bs = z1) ∧ Below W.heap.size W w' :=
  (slots_at z0 z1 y0 y1 j W hj he).mono fun e w' ⟨g, c, r0, r1, h1, h2, h3, h4, h5, h6, h7, h8, h9⟩ => ⟨g, c, r0, r1, h1, ⟨h2, h3, h4, h5.2, h6, h7⟩, h8, h9⟩
/-- the same, and the slice's block is new -/
theorem slots_new {W : World} (z0 z1 y0 y1 : List Int) (j : Jr) (hj : j.In W) (he : j.n0.bs = z0 ∧ j.n1.bs = z1 ∧ j.a0.bs = y0 ∧ j.a1.bs = y1) :
    Calls Tryd.prog 20 #[j.val] W fun e w' => ∃ g c r0 r1, e = .returned (.slice (some ⟨g, 0, none⟩) 2 c) ∧ SI w' g c r0 r1 ∧ W.heap.size ≤ g ∧ (r0.bs = z0 ∧ r1.bs = z1) ∧ Below W.heap.size W w' :=
  (slots_at z0 z1 y0 y1 j W hj he).mono fun e w' ⟨g, c, r0, r1, h1, h2, h3, h4, h5, h6, h7, h8, h9⟩ => ⟨g, c, r0, r1, h1, ⟨h2, h3, h4, h5.2, h6, h7⟩, h5.1, h8, h9⟩
/-- a store into another block -/
theorem SI.set {W : World} {g c X : Nat} {r0 r1 : RowV} {cs : Array Value} {t : TypeId} (h : SI W g c r0 r1) (hX : BxT W X cs t) (ht : t ≠ 5) (hne : g ≠ X) (j : Nat) (u : Value) : SI (W.setCell ⟨X, j, none⟩ u) g c r0 r1 := by
  have e := Below.heap_setCell W ⟨X, j, none⟩ u g hne
  have ec : ∀ k, (W.setCell ⟨X, j, none⟩ u).cell? ⟨g, k, none⟩ = W.cell? ⟨g, k, none⟩ := fun k => by unfold World.cell?; rw [e]
  have hlt : g < (W.setCell ⟨X, j, none⟩ u).heap.size := by
    have h1 := Array.getElem?_eq_getElem h.lt
    rw [← e] at h1
    exact (Array.getElem?_eq_some_iff.1 h1).1
  exact ⟨h.c2, (ec 0).trans h.h0, (ec 1).trans h.h1, hlt, h.t0.set hX ht j u, h.t1.set hX ht j u⟩
/-- what is told of a row, in whatever drawn world -/
theorem conv_sb {W : World} {A : Option Addr} {n c : Nat} {z : List Int} (h : SB W A n z) : ∀ k, (convert 26 9 (.slice A n c)).run Tryd.prog (W.drewN k) = .ok (.string (strOfNums z)) (W.drewN k) := fun k =>
  conv_sees (c := c) (h.see.below (below_drewN (Below.refl _ W) k) (Nat.le_refl _)) h.len
theorem conv_row {W : World} {A : Option Addr} {c : Nat} {q z : List Int} (h : RT W ⟨A, c, q⟩) (he : q = z) : ∀ k, (convert 26 9 (.slice A q.length c)).run Tryd.prog (W.drewN k) = .ok (.string (strOfNums z)) (W.drewN k) := by
  subst he
  exact conv_sb ⟨rfl, h.ty.sees⟩
theorem conv_row0 {W : World} {A : Option Addr} {c : Nat} {q z : List Int} (h : RT W ⟨A, c, q⟩) (he : q = z) : (convert 26 9 (.slice A q.length c)).run Tryd.prog W = .ok (.string (strOfNums z)) W := by
  subst he
  exact conv_sees (c := c) h.ty.sees rfl
/-- a row, in new memory -/
def PS (v : Value) (W : World) (p : List Int) : Prop := ∃ A c q, v = .slice A q.length c ∧ RT W ⟨A, c, q⟩ ∧ q = p
theorem PS.next {v : Value} {W W' : World} {p : List Int} (h : PS v W p) (hb : Below W.heap.size W W') : PS v W' p := by
  obtain ⟨A, c, q, h1, h2, h3⟩ := h
  exact ⟨A, c, q, h1, h2.next hb, h3⟩
/-- a ledger's value, in new memory -/
def GV (v : Value) (W : World) (b m k : Int) (n : Nat) (l : List Pm) : Prop := ∃ A c, v = .agg #[.int .i64 b, .int .i64 m, .int .i64 k, .slice A n c] ∧ LI W A c n l
theorem GV.next {v : Value} {W W' : World} {b m k : Int} {n : Nat} {l : List Pm} (h : GV v W b m k n l) (hb : Below W.heap.size W W')   : GV v W' b m k n l := by
  obtain ⟨A, c, h1, h2⟩ := h
  exact ⟨A, c, h1, h2.next hb⟩
theorem load_b {W : World} (z0 z1 y0 y1 : List Int) (j : Jr) (ht : Tab W) (hj : j.In W) (he : j.n0.bs = z0 ∧ j.n1.bs = z1 ∧ j.a0.bs = y0 ∧ j.a1.bs = y1) {e0 b m s : Int} {l : List Pm} {n : Nat} {bv : Bool} (hg : JrnP.load z0 z1 = ⟨e0, b, m, l, s⟩) (hl : l.length = n) (hv : decide (0 < s) = bv) :
    Calls Tryd.prog 18 #[j.val] W fun e w' => ∃ A c, e = .returned (.tuple #[.agg #[.int .i64 b, .int .i64 m, .int .i64 0, .slice A n c], .int .u64 s, .bool bv]) ∧ LI w' A c n l ∧ Below W.heap.size W w' := by
  subst hv
  exact load_li z0 z1 y0 y1 j ht hj he hg hl

end Go.Proofs.YtgbgbodhpahceaaDoor.Jrn

/- Plain: a write that came through in part. -/
namespace Go.Proofs.YtgbgbodhpahceaaDoor.Jrn
open Go.RowKit Go.Proofs.YtgbgbodhpahceaaDoor.Plain Go.Proofs.YtgbgbodhpahceaaDoor.Oct Go.Proofs.YtgbgbodhpahceaaDoor.Crc Go.Proofs.YtgbgbodhpahceaaDoor.JrnP Go.Proofs.YtgbgbodhpahceaaDoor.Open Go.Proofs.YtgbgbodhpahceaaDoor.LgrP
set_option linter.unusedVariables false
set_option maxRecDepth 100000

theorem byte_inj {x y : Int} (hx : 0 ≤ x ∧ x ≤ 255) (hy : 0 ≤ y ∧ y ≤ 255) (h : UInt8.ofNat x.toNat = UInt8.ofNat y.toNat) : x = y := by
  have h1 := congrArg UInt8.toNat h
  simp only [UInt8.toNat_ofNat'] at h1
  omega
theorem map_inj : ∀ (z p : List Int), By z → By p → (z.map fun n => UInt8.ofNat n.toNat) = (p.map fun n => UInt8.ofNat n.toNat) → z = p := by
  intro z
  induction z with
  | nil => intro p _ _ h; cases p with | nil => rfl | cons y p => simp at h
  | cons x z ih =>
    intro p hz hp h
    cases p with
    | nil => simp at h
    | cons y p =>
      simp only [List.map_cons, List.cons.injEq] at h
      rw [byte_inj (hz x List.mem_cons_self) (hp y List.mem_cons_self) h.1, ih p (fun b hb => hz b (List.mem_cons_of_mem _ hb)) (fun b hb => hp b (List.mem_cons_of_mem _ hb)) h.2]
theorem str_inj {z p : List Int} (hz : By z) (hp : By p) (h : strOfNums z = strOfNums p) : z = p := by
  have := congrArg ByteArray.toList h
  rw [str_toList, str_toList] at this
  exact map_inj z p hz hp this

theorem put_head (b m : Int) (l : List Pm) (s : Int) : ∃ r, put b m l s = 8 :: 0 :: (lowB 8 s ++ r) := by
  have e : ∀ (r : List Int) rs, joinB (r :: rs) = lowB 2 (r.length : Int) ++ (r ++ joinB rs) := fun r rs => by rw [joinB, List.append_assoc]
  unfold put sea rws
  rw [e, lowB_length]
  refine ⟨joinB [allB 4 [u b, u m], allB 4 (pws l)] ++ lowB 4 (crc (lowB 2 ((8 : Nat) : Int) ++ (lowB 8 s ++ joinB [allB 4 [u b, u m], allB 4 (pws l)])) : Nat), ?_⟩
  rw [show lowB 2 ((8 : Nat) : Int) = [8, 0] by decide]
  simp only [List.cons_append, List.nil_append, List.append_assoc]
theorem low1 : lowB 8 1 = [1, 0, 0, 0, 0, 0, 0, 0] := by decide
theorem low3 : lowB 8 3 = [3, 0, 0, 0, 0, 0, 0, 0] := by decide
theorem torn_head (b0 m0 b2 m2 : Int) (l0 l2 : List Pm) (n : Nat) :
    torn (put b2 m2 l2 3) (put b0 m0 l0 1) n = put b0 m0 l0 1 ∨ ∃ r, torn (put b2 m2 l2 3) (put b0 m0 l0 1) n = 8 :: 0 :: ([3, 0, 0, 0, 0, 0, 0, 0] ++ r) := by
  obtain ⟨r1, h1⟩ := put_head b0 m0 l0 1
  obtain ⟨r3, h3⟩ := put_head b2 m2 l2 3
  rw [low1] at h1
  rw [low3] at h3
  have hl := put_len b2 m2 l2 3
  unfold torn
  by_cases hn : (put b2 m2 l2 3).length ≤ n
  · rw [if_pos hn]
    exact .inr ⟨r3, h3⟩
  · rw [if_neg hn, h1, h3]
    match n with
    | 0 => exact .inl rfl
    | 1 => exact .inl rfl
    | 2 => exact .inl rfl
    | 3 => exact .inr ⟨r1, rfl⟩
    | 4 => exact .inr ⟨r1, rfl⟩
    | 5 => exact .inr ⟨r1, rfl⟩
    | 6 => exact .inr ⟨r1, rfl⟩
    | 7 => exact .inr ⟨r1, rfl⟩
    | 8 => exact .inr ⟨r1, rfl⟩
    | 9 => exact .inr ⟨r1, rfl⟩
    | n + 10 => exact .inr ⟨r3.take n ++ r1.drop n, by simp⟩
theorem ahead_cases {b0 m0 b1 m1 b2 m2 : Int} {l0 l1 l2 : List Pm} (n : Nat) (h0 : may b0 m0 l0 = true) (h1 : may b1 m1 l1 = true) (h2 : may b2 m2 l2 = true) (k0 : l0.length ≤ 8000) (k1 : l1.length ≤ 8000) (k2 : l2.length ≤ 8000) :
    JrnP.load (put b1 m1 l1 2) (torn (put b2 m2 l2 3) (put b0 m0 l0 1) n) = ⟨0, b1, m1, l1, 2⟩ ∨
    (torn (put b2 m2 l2 3) (put b0 m0 l0 1) n = put b2 m2 l2 3 ∧ JrnP.load (put b1 m1 l1 2) (torn (put b2 m2 l2 3) (put b0 m0 l0 1) n) = ⟨0, b2, m2, l2, 3⟩) ∨
    (torn (put b2 m2 l2 3) (put b0 m0 l0 1) n ≠ put b2 m2 l2 3 ∧ ∃ b m l, JrnP.load (put b1 m1 l1 2) (torn (put b2 m2 l2 3) (put b0 m0 l0 1) n) = ⟨0, b, m, l, 3⟩) := by
  have hz : By (torn (put b2 m2 l2 3) (put b0 m0 l0 1) n) := torn_in (put_in _ _ _ _) (put_in _ _ _ _)
  have g1 := get_put h1 k1 (s := 2) (by decide)
  have g0 := get_put h0 k0 (s := 1) (by decide)
  have g2 := get_put h2 k2 (s := 3) (by decide)
  rcases torn_head b0 m0 b2 m2 l0 l2 n with h | ⟨r, h⟩
  · rw [h]
    exact .inl (load_even g1 (by decide) (by decide) fun _ _ => by rw [g0]; exact (by decide : (1 : Int) ≤ 2))
  · by_cases he : torn (put b2 m2 l2 3) (put b0 m0 l0 1) n = put b2 m2 l2 3
    · rw [he]
      exact .inr (.inl ⟨rfl, load_odd g2 (by decide) (by decide) fun _ _ => by rw [g1]; exact (by decide : (2 : Int) < 3)⟩)
    · generalize torn (put b2 m2 l2 3) (put b0 m0 l0 1) n = z at *
      by_cases hg : (JrnP.get z).e = 0
      · have hs : (JrnP.get z).s = 3 := by
          rw [(get_form hz hg).2, h]
          rfl
        rcases hgz : JrnP.get z with ⟨e, b, m, l, s⟩
        rw [hgz] at hg hs
        simp only at hg hs
        subst hg hs
        exact .inr (.inr ⟨he, b, m, l, load_odd hgz (by decide) (by decide) fun _ _ => by rw [g1]; exact (by decide : (2 : Int) < 3)⟩)
      · exact .inl (load_even g1 (by decide) (by decide) fun h _ => absurd h hg)

end Go.Proofs.YtgbgbodhpahceaaDoor.Jrn
