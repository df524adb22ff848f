/- A journal as it lies: From, Slots. -/
import Derived.Test.YtgbgbodhpahceaaDoorJrnB
import Derived.Test.YtgbgbodhpahceaaDoorOctD
import Derived.LoopN
import Derived.RangeFuncBox
import Derived.Deep.DeepMust
namespace Go.Proofs.YtgbgbodhpahceaaDoor.Jrn
open Go.RowKit Go.Proofs.YtgbgbodhpahceaaDoor.Plain Go.Proofs.YtgbgbodhpahceaaDoor.Sees Go.Proofs.YtgbgbodhpahceaaDoor.Oct Go.Proofs.YtgbgbodhpahceaaDoor.Crc Go.Proofs.YtgbgbodhpahceaaDoor.Box Go.Proofs.YtgbgbodhpahceaaDoor.Held Go.Proofs.YtgbgbodhpahceaaDoor.JrnP
set_option linter.unusedVariables false
set_option maxRecDepth 100000

/-- a row of bytes in memory of bytes -/
structure RT (W : World) (r : RowV) : Prop where
  cap : r.bs.length ≤ r.c
  max : r.c ≤ maxLen
  ty : TS W 5 r.A (nums .u8 r.bs)
  byte : ∀ b ∈ r.bs, 0 ≤ b ∧ b ≤ 255
  few : r.bs.length ≤ 10000
theorem RT.next {W W' : World} {r : RowV} (h : RT W r) (hb : Below W.heap.size W W') : RT W' r := ⟨h.cap, h.max, h.ty.next hb, h.byte, h.few⟩
theorem RT.set {W : World} {r : RowV} (h : RT W r) {X : Nat} {cs : Array Value} {t : TypeId} (hX : BxT W X cs t) (ht : t ≠ 5) (j : Nat) (u : Value) : RT (W.setCell ⟨X, j, none⟩ u) r := ⟨h.cap, h.max, h.ty.set hX ht j u, h.byte, h.few⟩
theorem RT.ok {W : World} {r : RowV} (h : RT W r) : r.Ok W W.heap.size := ⟨h.cap, h.ty.sees, h.byte⟩
/-- a journal: both places as they are, and as they were -/
structure Jr where
  n0 : RowV
  n1 : RowV
  a0 : RowV
  a1 : RowV
def Jr.arr (j : Jr) : Array Value := #[j.n0.val, j.n1.val, j.a0.val, j.a1.val]
def Jr.val (j : Jr) : Value := .agg j.arr
structure Jr.In (W : World) (j : Jr) : Prop where
  n0 : RT W j.n0
  n1 : RT W j.n1
  a0 : RT W j.a0
  a1 : RT W j.a1
theorem Jr.In.next {W W' : World} {j : Jr} (h : j.In W) (hb : Below W.heap.size W W') : j.In W' := ⟨h.n0.next hb, h.n1.next hb, h.a0.next hb, h.a1.next hb⟩
theorem Jr.In.set {W : World} {r : Jr} (h : r.In W) {X : Nat} {cs : Array Value} {t : TypeId} (hX : BxT W X cs t) (ht : t ≠ 5) (j : Nat) (u : Value) : r.In (W.setCell ⟨X, j, none⟩ u) := ⟨h.n0.set hX ht j u, h.n1.set hX ht j u, h.a0.set hX ht j u, h.a1.set hX ht j u⟩
/-- a journal of such places is answered, and memory made alone -/
def JP (w : World) (z0 z1 y0 y1 : List Int) (e : Ending) (w' : World) : Prop :=
  ∃ j : Jr, e = .returned j.val ∧ j.In w' ∧ (j.n0.bs = z0 ∧ j.n1.bs = z1 ∧ j.a0.bs = y0 ∧ j.a1.bs = y1) ∧ Below w.heap.size w w'

theorem set4 {W : World} {X : Nat} {a b c d x y z u : Value} {t : TypeId} (h : BxT W X #[a, b, c, d] t) : BxT ((((W.setCell ⟨X, 0, none⟩ x).setCell ⟨X, 1, none⟩ y).setCell ⟨X, 2, none⟩ z).setCell ⟨X, 3, none⟩ u) X #[x, y, z, u] t := (((h.set 0 x).set 1 y).set 2 z).set 3 u
theorem in4 {W : World} {r : Jr} (h : r.In W) {X : Nat} {a b c d : Value} {t : TypeId} (hX : BxT W X #[a, b, c, d] t) (ht : t ≠ 5) (x y z u : Value) : r.In ((((W.setCell ⟨X, 0, none⟩ x).setCell ⟨X, 1, none⟩ y).setCell ⟨X, 2, none⟩ z).setCell ⟨X, 3, none⟩ u) :=
  (((h.set hX ht 0 x).set (hX.set 0 x) ht 1 y).set ((hX.set 0 x).set 1 y) ht 2 z).set (((hX.set 0 x).set 1 y).set 2 z) ht 3 u
theorem below4 {B : Nat} {A W : World} (h : Below B A W) {X : Nat} (hX : B ≤ X) (x y z u : Value) : Below B A ((((W.setCell ⟨X, 0, none⟩ x).setCell ⟨X, 1, none⟩ y).setCell ⟨X, 2, none⟩ z).setCell ⟨X, 3, none⟩ u) :=
  (((h.setCell (p := ⟨X, 0, none⟩) hX x).setCell (p := ⟨X, 1, none⟩) hX y).setCell (p := ⟨X, 2, none⟩) hX z).setCell (p := ⟨X, 3, none⟩) hX u

/-- a clone, as a row -/
theorem clone_row (bs : List Int) (A : Option Addr) (n c : Nat) (w : World) (hl : bs.length = n) (hn : n ≤ 10000) (hs : Sees w w.heap.size A (nums .u8 bs)) (hb : ∀ b ∈ bs, 0 ≤ b ∧ b ≤ 255) :
    Calls Tryd.prog 40 #[.slice A n c] w fun e w' => ∃ A' c', e = .returned (.slice A' n c') ∧ RT w' ⟨A', c', bs⟩ ∧ Below w.heap.size w w' :=
  (bClone_any bs A n c w hl (by omega) hs).mono fun e w' ⟨A', c', h1, h2, h3, h4, h5⟩ => ⟨A', c', h1, ⟨by simp only; omega, h3, h4, hb, by simp only; omega⟩, h5⟩

set_option maxHeartbeats 3200000 in
theorem jFrom_any (za zb : List Int) (A0 A1 : Option Addr) (n0 n1 c0 c1 : Nat) (w : World) (hl0 : za.length = n0) (hl1 : zb.length = n1) (h0 : n0 ≤ 10000) (h1 : n1 ≤ 10000)
    (hs0 : Sees w w.heap.size A0 (nums .u8 za)) (hs1 : Sees w w.heap.size A1 (nums .u8 zb)) (hb0 : ∀ b ∈ za, 0 ≤ b ∧ b ≤ 255) (hb1 : ∀ b ∈ zb, 0 ≤ b ∧ b ≤ 255) :
    Calls Tryd.prog 17 #[.slice A0 n0 c0, .slice A1 n1 c1] w (JP w za zb za zb) := by
  have H0 : Hid (∀ W, Below w.heap.size w W → Calls Tryd.prog 40 #[.slice A0 n0 c0] W fun e w' => ∃ A' c', e = .returned (.slice A' n0 c') ∧ RT w' ⟨A', c', za⟩ ∧ Below W.heap.size W w') := Lib.hid fun W hW => clone_row za A0 n0 c0 W hl0 h0 (sees_next hs0 hW) hb0
  have H1 : Hid (∀ W, Below w.heap.size w W → Calls Tryd.prog 40 #[.slice A1 n1 c1] W fun e w' => ∃ A' c', e = .returned (.slice A' n1 c') ∧ RT w' ⟨A', c', zb⟩ ∧ Below W.heap.size W w') := Lib.hid fun W hW => clone_row zb A1 n1 c1 W hl1 h1 (sees_next hs1 hW) hb1
  have hj := Lib.hid (J.one w #[.slice none 0 0, .slice none 0 0, .slice none 0 0, .slice none 0 0] 45)
  have hT := Lib.hid (BxT.new w #[.slice none 0 0, .slice none 0 0, .slice none 0 0, .slice none 0 0] 45)
  clear hs0 hs1 hb0 hb1
  go_enter Tryd.func17, Tryd.ntmps17
  go_wp2_with (first
    | (go_at_call 40; (with_reducible refine (H0.out _ hj.out.below).mono ?_); clear H0; rintro e w1 ⟨A2, c2, rfl, hr1, h1⟩; have hj1 := Lib.hid (hj.out.next h1); have hT1 := Lib.hid (hT.out.next h1); have HR1 := Lib.hid hr1; clear h1 hr1 hj hT)
    | (go_at_call 40; (with_reducible refine (H1.out _ hj1.out.below).mono ?_); clear H1; rintro e w2 ⟨A3, c3, rfl, hr2, h2⟩; have hj2 := Lib.hid ((hj1.out.next h2).push #[.slice A2 n0 c2, .slice A3 n1 c3] 43); have hT2 := Lib.hid ((hT1.out.next h2).next (below_box (o := .cells #[.slice A2 n0 c2, .slice A3 n1 c3] 43))); have HR2 := Lib.hid (And.intro ((HR1.out.next h2).next (below_box (o := .cells #[.slice A2 n0 c2, .slice A3 n1 c3] 43))) (hr2.next (below_box (o := .cells #[.slice A2 n0 c2, .slice A3 n1 c3] 43)))); clear h2 hr2 hj1 hT1; obtain ⟨a0, a1⟩ := (hj2.out.bx 0 rfl).c2; obtain ⟨f0, f1, f2, f3⟩ := (hj2.out.bx 1 rfl).f4; obtain ⟨y0, y1, y2, y3⟩ := (hj2.out.bx 1 rfl).c4))
  have hne : ∀ x ∈ ([] : List (Nat × Array Value)), x.1 ≠ w.heap.size := fun x hx => by cases hx
  have hje := ((((hj2.out.less (bs' := [(w.heap.size, #[.slice none 0 0, .slice none 0 0, .slice none 0 0, .slice none 0 0])]) (by simp)).put (Nat.le_refl _) hne 0 (.slice A2 n0 c2)).put (Nat.le_refl _) hne 1 (.slice A3 n1 c3)).put (Nat.le_refl _) hne 2 (.slice A2 n0 c2)).put (Nat.le_refl _) hne 3 (.slice A3 n1 c3)
  have hin : ({ n0 := ⟨A2, c2, za⟩, n1 := ⟨A3, c3, zb⟩, a0 := ⟨A2, c2, za⟩, a1 := ⟨A3, c3, zb⟩ } : Jr).In _ := in4 ⟨HR2.out.1, HR2.out.2, HR2.out.1, HR2.out.2⟩ hT2.out (by decide) (.slice A2 n0 c2) (.slice A3 n1 c3) (.slice A2 n0 c2) (.slice A3 n1 c3)
  obtain ⟨k0, k1, k2, k3⟩ := (hje.bx 0 rfl).c4
  refine bodyPost_ret (v := .agg #[.slice A2 n0 c2, .slice A3 n1 c3, .slice A2 n0 c2, .slice A3 n1 c3]) (by simp [results, Tryd.results17, go_sem, k0, k1, k2, k3]) rfl ⟨⟨⟨A2, c2, za⟩, ⟨A3, c3, zb⟩, ⟨A2, c2, za⟩, ⟨A3, c3, zb⟩⟩, by simp [Jr.val, Jr.arr, RowV.val, hl0, hl1], hin, ⟨rfl, rfl, rfl, rfl⟩, hje.below⟩

/-- both places, in new memory -/
def SP (w : World) (z0 z1 : List Int) (e : Ending) (w' : World) : Prop :=
  ∃ (g c : Nat) (r0 r1 : RowV), e = .returned (.slice (some ⟨g, 0, none⟩) 2 c) ∧ 2 ≤ c ∧ w'.cell? ⟨g, 0, none⟩ = some r0.val ∧ w'.cell? ⟨g, 1, none⟩ = some r1.val ∧ g < w'.heap.size ∧ RT w' r0 ∧ RT w' r1 ∧ (r0.bs = z0 ∧ r1.bs = z1) ∧ Below w.heap.size w w'
theorem info_rows : (Tryd.prog.info? 26).map (fun i => (i.zero, i.size, i.bytes)) = some (some (.slice none 0 0), 1, 24) := by kernel_rfl

theorem idx0 (A0 A1 : Option Addr) (n0 n1 c0 c1 : Nat) : ∀ W, (Instr.index 43 (.agg #[.slice A0 n0 c0, .slice A1 n1 c1]) (.int .i64 0)).run Tryd.prog W = .ok (.slice A0 n0 c0) W := fun W => by kernel_rfl
theorem idx1 (A0 A1 : Option Addr) (n0 n1 c0 c1 : Nat) : ∀ W, (Instr.index 43 (.agg #[.slice A0 n0 c0, .slice A1 n1 c1]) (.int .i64 1)).run Tryd.prog W = .ok (.slice A1 n1 c1) W := fun W => by kernel_rfl
theorem grown_cells {W W' : World} {X : Nat} {cs : Array Value} {t : TypeId} {v : Value} (h : BxT W X cs t) (hg : W.grownBy W' v.ownBlock) (hne : ∀ g, v.ownBlock = some g → g ≠ X) : BxT W' X cs t :=
  (hg.block X h.bx.lt (fun e => hne X e.symm rfl)).trans h
theorem ts_own_grown {W W' : World} {t : TypeId} {A : Option Addr} {xs : List Value} {base : Nat} {e : TypeId} {size : Nat} {v : Value} {n : Nat} {ys : List Value} (h : TS W t A xs) (ho : W.ownsRow base e size v n ys) (hte : e ≠ t) (hg : W.grownBy W' v.ownBlock) : TS W' t A xs := by
  rcases h with h | ⟨g, o, cur, hA, hh, hc⟩
  · exact .inl h
  · refine .inr ⟨g, o, cur, hA, (hg.block g (Array.getElem?_eq_some_iff.1 hh).1 (fun e' => ?_)).trans hh, hc⟩
    rcases ho.2 with ⟨rfl, _⟩ | ⟨g2, cap, cur2, rfl, _, hh2, _⟩
    · simp [Value.ownBlock] at e'
    · simp [Value.ownBlock] at e'
      subst e'
      rw [hh] at hh2
      injection hh2 with hh2
      injection hh2 with _ h4
      exact hte h4.symm
theorem RT.grown {W W' : World} {r : RowV} {base : Nat} {e : TypeId} {size : Nat} {v : Value} {n : Nat} {ys : List Value} (h : RT W r) (ho : W.ownsRow base e size v n ys) (hte : e ≠ 5) (hg : W.grownBy W' v.ownBlock) : RT W' r := ⟨h.cap, h.max, ts_own_grown h.ty ho hte hg, h.byte, h.few⟩

set_option maxHeartbeats 3200000 in
theorem jSlots_any (j : Jr) (w : World) (hj : j.In w) : Calls Tryd.prog 20 #[j.val] w (SP w j.n0.bs j.n1.bs) := by
  obtain ⟨h0, h1, _, _⟩ := hj
  obtain ⟨⟨A0, c0, z0⟩, ⟨A1, c1, z1⟩, ⟨A2, c2, z2⟩, ⟨A3, c3, z3⟩⟩ := j
  simp only at h0 h1
  unfold Jr.val Jr.arr RowV.val
  simp only
  obtain ⟨n0, hn0⟩ : ∃ n, z0.length = n := ⟨_, rfl⟩
  obtain ⟨n1, hn1⟩ : ∃ n, z1.length = n := ⟨_, rfl⟩
  generalize z2.length = n2
  generalize z3.length = n3
  rw [hn0, hn1]
  have H0 : Hid (∀ W, Below w.heap.size w W → Calls Tryd.prog 40 #[.slice A0 n0 c0] W fun e w' => ∃ A' c', e = .returned (.slice A' n0 c') ∧ RT w' ⟨A', c', z0⟩ ∧ Below W.heap.size W w') := Lib.hid fun W hW => clone_row z0 A0 n0 c0 W hn0 (by have := h0.few; simp only at this; omega) (sees_next h0.ty.sees hW) h0.byte
  have H1 : Hid (∀ W, Below w.heap.size w W → Calls Tryd.prog 40 #[.slice A1 n1 c1] W fun e w' => ∃ A' c', e = .returned (.slice A' n1 c') ∧ RT w' ⟨A', c', z1⟩ ∧ Below W.heap.size W w') := Lib.hid fun W hW => clone_row z1 A1 n1 c1 W hn1 (by have := h1.few; simp only at this; omega) (sees_next h1.ty.sees hW) h1.byte
  obtain ⟨i0, hi, hz0, hz1, hz2⟩ := info_parts info_rows
  have HN := Lib.hid (And.intro hn0 hn1)
  clear h0 h1 hn0 hn1
  have hjb := Lib.hid (J.one w #[.slice A0 n0 c0, .slice A1 n1 c1, .slice A2 n2 c2, .slice A3 n3 c3] 45)
  obtain ⟨a0, a1, a2, a3⟩ := (hjb.out.bx 0 rfl).c4
  have x0 := idx0 A0 A1 n0 n1 c0 c1
  have x1 := idx1 A0 A1 n0 n1 c0 c1
  go_enter Tryd.func20, Tryd.ntmps20
  go_wp2_with (at_make; go_must (refine wpList_make_own _ rfl _ _ 53 rfl (w.heap.size + 1) 26 i0 (.slice none 0 0) 1 Tryd.underlying53 hi hz0 hz1 _ _ _ 2 rfl rfl (by simp) (by rw [hz2]; omega) (by unfold maxLen; omega) (by simp) ?_; intro w0 hown0 hgrow0; have hj0 := Lib.hid (hjb.out.next ((Below.refl _ _).grown hgrow0 (Nat.le_refl _) (fun k h => by cases h))); obtain ⟨a0, a1, a2, a3⟩ := (hj0.out.bx 0 rfl).c4))
  simp only [World.size_alloc] at hown0
  clear a0 a1 a2 a3 hjb hgrow0
  refine wp_loop_rounds 3 ?_
  rw [rounds_succ]
  go_wp2_with (first
    | (go_at_call 40; go_must ((with_reducible refine (H0.out _ hj0.out.below).mono ?_); clear H0; rintro e w1 ⟨A4, c4, rfl, hr1, h1⟩; have hown1 := own_below hown0 h1 (fun k hk => (hown0.lt k hk).2); have hB1 := Lib.hid (hj0.out.next h1).below; have HR1 := Lib.hid hr1; clear h1 hr1 hj0 hown0))
    | (at_builtin; go_must (refine wpList_append_own_at _ rfl _ _ 53 rfl (w.heap.size + 1) 26 i0 (.slice none 0 0) 1 24 Tryd.underlying53 hi hz0 hz1 hz2 rfl (by omega) _ 0 _ rfl (hown1.alloc _) ⟨w1.heap.size, 0, none⟩ 1 1 [.slice A4 n0 c4] rfl rfl (new_cell _ _ _) (one_slice _ _ _) (by unfold maxLen; omega) (by omega) (by have := hB1.out.size; simp; omega) ?_; intro v2 w2 hown2 hg2 _ _)))
  have hR2 := Lib.hid ((HR1.out.next (below_box (o := .cells #[.slice A4 n0 c4] 26))).grown (hown1.alloc _) (by decide) hg2)
  have hB2 := Lib.hid (below_more hB1.out (below_box (o := .cells #[.slice A4 n0 c4] 26)) (Nat.le_refl _) |>.grown hg2 (by have := hB1.out.size; simp; omega) (fun k hk => by have := (hown1.lt k hk).1; omega))
  rw [rounds_succ]
  clear hown1 hg2 HR1
  go_wp2_with (first
    | (go_at_call 40; go_must ((with_reducible refine (H1.out _ hB2.out).mono ?_); clear H1; rintro e w3 ⟨A5, c5, rfl, hr3, h3⟩; have hown3 := own_below hown2 h3 (fun k hk => (hown2.lt k hk).2); have hB3 := Lib.hid (below_more hB2.out h3 (Nat.le_refl _)); have HR3 := Lib.hid (And.intro (hR2.out.next h3) hr3); clear h3 hr3 hown2))
    | (at_builtin; go_must (refine wpList_append_own_at _ rfl _ _ 53 rfl (w.heap.size + 1) 26 i0 (.slice none 0 0) 1 24 Tryd.underlying53 hi hz0 hz1 hz2 rfl (by omega) _ 1 _ rfl (hown3.alloc _) ⟨w3.heap.size, 0, none⟩ 1 1 [.slice A5 n1 c5] rfl rfl (new_cell _ _ _) (one_slice _ _ _) (by unfold maxLen; omega) (by omega) (by have := hB3.out.size; simp; omega) ?_; intro v4 w4 hown4 hg4 _ _; obtain ⟨g', c6, rfl⟩ := ownsRow_succ hown4)))
  have hR4 := And.intro ((HR3.out.1.next (below_box (o := .cells #[.slice A5 n1 c5] 26))).grown (hown3.alloc _) (by decide) hg4) ((HR3.out.2.next (below_box (o := .cells #[.slice A5 n1 c5] 26))).grown (hown3.alloc _) (by decide) hg4)
  have hB4 := (below_more hB3.out (below_box (o := .cells #[.slice A5 n1 c5] 26)) (Nat.le_refl _)).grown hg4 (by have := hB3.out.size; simp; omega) (fun k hk => by have := (hown3.lt k hk).1; omega)
  rw [rounds_succ]
  go_wp2
  go_ret
  have k0 := hown4.cells (g := g') rfl 0 (.slice A4 n0 c4) rfl
  have k1 := hown4.cells (g := g') rfl 1 (.slice A5 n1 c5) rfl
  refine ⟨g', c6, ⟨A4, c4, z0⟩, ⟨A5, c5, z1⟩, rfl, (own_cap hown4).1, ?_, ?_, (hown4.lt g' rfl).2, hR4.1, hR4.2, ⟨rfl, rfl⟩, hB4⟩
  · rw [show RowV.val ⟨A4, c4, z0⟩ = .slice A4 n0 c4 by rw [RowV.val, HN.out.1]]; simpa [Addr.add] using k0
  · rw [show RowV.val ⟨A5, c5, z1⟩ = .slice A5 n1 c5 by rw [RowV.val, HN.out.2]]; simpa [Addr.add] using k1

end Go.Proofs.YtgbgbodhpahceaaDoor.Jrn
