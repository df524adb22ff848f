/- Events that are read. -/
import Derived.Test.YthpbcbbiampamaaGreatDoorScrJ
namespace Go.Proofs.YthpbcbbiampamaaGreatDoor.Scr
open Go.RowKit Go.Maps Go.Proofs.YthpbcbbiampamaaGreatDoor.ScrP Go.Proofs.YthpbcbbiampamaaGreatDoor.Box Go.Proofs.YthpbcbbiampamaaGreatDoor.Held Go.Proofs.YthpbcbbiampamaaGreatDoor.Sees Go.Proofs.YthpbcbbiampamaaGreatDoor.Jrn
set_option linter.unusedVariables false
set_option linter.unusedSimpArgs false
set_option maxRecDepth 100000

/-- what is left behind a number, if one is asked for -/
def rt (c : Bool) (ls : List By) : List By := if c then ls.tail else ls
def bd (c : Bool) (ls : List By) : Bool := c && (num (hd ls)).isNone
def Got (c : Bool) (ls : List By) (x : Int) : Prop := (c = false → x = 0) ∧ (c = true → ∀ m, num (hd ls) = some m → x = m)
theorem rd_got {c : Bool} {ls : List By} {x : Int} (h : Got c ls x) : rd c ls = if bd c ls then none else some (x, rt c ls) := by
  cases c
  · rw [h.1 rfl]; rfl
  · have h2 := h.2 rfl
    unfold rd bd rt
    cases ls with
    | nil => rfl
    | cons w r =>
      have e : hd (w :: r) = w := rfl
      rw [e] at h2 ⊢
      simp only [if_true, Bool.true_and, List.tail_cons]
      cases hn : num w with
      | none => simp
      | some n => rw [h2 n hn]; simp
/-- a block of the call's own, beside what is read -/
theorem Us.off {W : World} {X R : Nat} {ls : List By} {b : Bool} (h : Us W X R ls b) {a : Addr} (u : Value) (hX : a.block ≠ X) (hR : a.block ≠ R) : Us (W.setCell a u) X R ls b := by
  obtain ⟨o, n, c, h1, h2, h3, h4, h5, h6, h7⟩ := h.ex
  refine ⟨⟨o, n, c, h1.off u hX.symm, h2, h3, h4, h5, by simpa [World.setCell] using h6, fun j x hx => ?_⟩, h.len⟩
  rw [← h7 j x hx]
  exact World.cell?_setCell_other _ _ _ _ (fun e => absurd (congrArg Addr.block e) hR)
/-- what is read, with blocks of the call's own beside it -/
structure Re (W0 : World) (X R : Nat) (bs : List (Nat × Array Value)) (ls : List By) (b : Bool) (W : World) : Prop where
  us : Us W X R ls b
  gr : W0.grownBy W (some X)
  at_ : ∀ x ∈ bs, Bx W x.1 x.2
  new : ∀ x ∈ bs, W0.heap.size ≤ x.1
  rx : R < W0.heap.size ∧ X < W0.heap.size
theorem Re.rd {W0 W W' : World} {X R : Nat} {bs : List (Nat × Array Value)} {ls ls' : List By} {b b' : Bool} (h : Re W0 X R bs ls b W) (k : Rd W X R ls' b' W') : Re W0 X R bs ls' b' W' :=
  ⟨k.us, grown_trans h.gr k.gr, fun x hx => (h.at_ x hx).kept (k.gr.block _ (h.at_ x hx).lt (fun e => by have := h.new x hx; have := h.rx; injection e with e; omega)), h.new, h.rx⟩
theorem Re.next {W0 W W' : World} {X R : Nat} {bs : List (Nat × Array Value)} {ls : List By} {b : Bool} (h : Re W0 X R bs ls b W) (hb : Below W.heap.size W W') : Re W0 X R bs ls b W' :=
  ⟨h.us.next hb, grown_trans h.gr (grown_below hb), fun x hx => (h.at_ x hx).next hb, h.new, h.rx⟩
theorem Re.push {W0 W : World} {X R : Nat} {bs : List (Nat × Array Value)} {ls : List By} {b : Bool} (h : Re W0 X R bs ls b W) (cs : Array Value) (t : TypeId) : Re W0 X R ((W.heap.size, cs) :: bs) ls b (W.alloc (.cells cs t)) := by
  have h2 := h.next (W' := W.alloc (.cells cs t)) below_box
  refine ⟨h2.us, h2.gr, fun x hx => ?_, fun x hx => ?_, h.rx⟩
  · rcases List.mem_cons.1 hx with rfl | hx
    · exact Bx.new W cs t
    · exact h2.at_ x hx
  · rcases List.mem_cons.1 hx with rfl | hx
    · exact h.gr.size
    · exact h.new x hx
theorem Re.set {W0 W : World} {X R : Nat} {bs : List (Nat × Array Value)} {ls : List By} {b : Bool} {E : Nat} {cs : Array Value} (h : Re W0 X R ((E, cs) :: bs) ls b W) (hne : ∀ x ∈ bs, x.1 ≠ E) (j : Nat) (u : Value) : Re W0 X R ((E, cs.setIfInBounds j u) :: bs) ls b (W.setCell ⟨E, j, none⟩ u) := by
  have hE := h.new _ List.mem_cons_self
  simp only at hE
  have hrx := h.rx
  refine ⟨h.us.off u (by simp only; omega) (by simp only; omega), ?_, fun x hx => ?_, fun x hx => ?_, h.rx⟩
  · have hg := grown_cell W E j u
    exact ⟨hg.os.trans h.gr.os, hg.tape.trans h.gr.tape, hg.output.trans h.gr.output, Nat.le_trans h.gr.size hg.size, fun i hi hne => (hg.block i (Nat.lt_of_lt_of_le hi h.gr.size) (fun e => by injection e with e; omega)).trans (h.gr.block i hi hne)⟩
  · rcases List.mem_cons.1 hx with rfl | hx
    · exact (h.at_ _ List.mem_cons_self).set u
    · exact (h.at_ x (List.mem_cons_of_mem _ hx)).off u (hne x hx)
  · rcases List.mem_cons.1 hx with rfl | hx
    · exact hE
    · exact h.new x (List.mem_cons_of_mem _ hx)
theorem Re.start {W : World} {X R : Nat} {ls : List By} {b : Bool} (h : Us W X R ls b) : Re W X R [] ls b W := by
  have hr := h
  obtain ⟨o, n, c, h1, h2, h3, h4, h5, h6, h7⟩ := h.ex
  exact ⟨hr, World.grownBy.refl _ _, (fun x hx => by cases hx), (fun x hx => by cases hx), h6, h1.lt⟩
theorem Re.below {w W W' : World} {X R : Nat} {bs : List (Nat × Array Value)} {ls : List By} {b : Bool} (h : Re W X R bs ls b W') (hB : Below w.heap.size w W) (hX : w.heap.size ≤ X) : Below w.heap.size w W' :=
  hB.grown h.gr hB.size (fun g hg => by injection hg with hg; omega)
theorem Re.less {W0 W : World} {X R : Nat} {bs bs' : List (Nat × Array Value)} {ls : List By} {b : Bool} (h : Re W0 X R bs ls b W) (hs : ∀ x ∈ bs', x ∈ bs) : Re W0 X R bs' ls b W :=
  ⟨h.us, h.gr, fun x hx => h.at_ x (hs x hx), fun x hx => h.new x (hs x hx), h.rx⟩
theorem Re.to {W0 W : World} {X R : Nat} {bs : List (Nat × Array Value)} {ls : List By} {b : Bool} (h : Re W0 X R bs ls b W) : Rd W0 X R ls b W := ⟨h.us, h.gr⟩
theorem Re.bx {W0 W : World} {X R : Nat} {bs : List (Nat × Array Value)} {ls : List By} {b : Bool} (h : Re W0 X R bs ls b W) (i : Nat) {Y : Nat} {cs : Array Value} (hi : bs[i]? = some (Y, cs)) : Bx W Y cs := h.at_ (Y, cs) (List.mem_of_getElem? hi)
/-- the first and the second one the other way round -/
theorem Re.swap {W0 W : World} {X R : Nat} {p q : Nat × Array Value} {bs : List (Nat × Array Value)} {ls : List By} {b : Bool} (h : Re W0 X R (p :: q :: bs) ls b W) : Re W0 X R (q :: p :: bs) ls b W :=
  h.less fun x hx => by
    rcases List.mem_cons.1 hx with rfl | hx
    · exact List.mem_cons_of_mem _ List.mem_cons_self
    · rcases List.mem_cons.1 hx with rfl | hx
      · exact List.mem_cons_self
      · exact List.mem_cons_of_mem _ (List.mem_cons_of_mem _ hx)
/-- the result is set, cell by cell -/
theorem Re.fill {W0 W : World} {X R E F : Nat} {ls : List By} {b : Bool} {x0 x1 x2 : Value} {ce : Array Value} (h : Re W0 X R [(E, ce), (F, #[x0, x1, x2])] ls b W) (hne : E ≠ F) (y0 y1 y2 : Value) :
    Bx (((W.setCell ⟨F, 0, none⟩ y0).setCell ⟨F, 1, none⟩ y1).setCell ⟨F, 2, none⟩ y2) F #[y0, y1, y2] ∧ Rd W0 X R ls b (((W.setCell ⟨F, 0, none⟩ y0).setCell ⟨F, 1, none⟩ y1).setCell ⟨F, 2, none⟩ y2) := by
  have hh : ∀ x ∈ [(E, ce)], x.1 ≠ F := fun x hx => by rw [List.mem_singleton.1 hx]; exact hne
  have h2 := ((h.swap.set hh 0 y0).set hh 1 y1).set hh 2 y2
  have h3 := h2.bx 0 rfl
  exact ⟨by simpa using h3, h2.to⟩
/-- behind an event -/
def EvPost (W : World) (X R : Nat) (k : Int) (c m : Bool) (ls : List By) (b : Bool) (e : Ending) (W' : World) : Prop :=
  ∃ x y : Int, e = .returned (evv ⟨k, x, y⟩) ∧ Hid (Got c ls x ∧ Got m (rt c ls) y ∧ Rd W X R (rt m (rt c ls)) (b || bd c ls || bd m (rt c ls)) W')

set_option maxHeartbeats 3200000 in
theorem Event_any (w : World) (hE : Env w) (X R : Nat) (k : Int) (c m : Bool) (ls : List By) (b : Bool) (W : World) (hB : Below w.heap.size w W) (hX : w.heap.size ≤ X) (h : Us W X R ls b) :
    Calls Tryz.prog 47 #[.pointer (some ⟨X, 0, none⟩), fv (k, c, m)] W (EvPost W X R k c m ls b) := by
  have HNu : Hid (∀ {bs} {ls} {b} W', Re W X R bs ls b W' → Calls Tryz.prog 26 #[.pointer (some ⟨X, 0, none⟩)] W' (NumPost W' X R ls b)) := Lib.hid fun W' k => Number_any w hE X R _ _ W' (k.below hB hX) hX k.us
  have R0 := Re.start h
  have R1 := R0.push #[.int .i64 k, .bool c, .bool m] 58
  have R2 := R1.push #[.int .i64 0, .int .i64 0, .int .i64 0] 49
  have R3 := R2.push #[.int .i64 k, .int .i64 0, .int .i64 0] 49
  have e1 : (W.alloc (.cells #[.int .i64 k, .bool c, .bool m] 58)).heap.size = W.heap.size + 1 := by simp
  have e2 : ((W.alloc (.cells #[.int .i64 k, .bool c, .bool m] 58)).alloc (.cells #[.int .i64 0, .int .i64 0, .int .i64 0] 49)).heap.size = W.heap.size + 2 := by simp
  rw [e1, e2] at R3
  have HR := Lib.hid R3
  have HR0 := Lib.hid R3
  have HU := Lib.hid h
  clear R0 R1 R2 R3 e1 e2 h hB hE
  unfold EvPost fv evv
  simp only
  cases c <;> cases m
  · have hx : Got false ls 0 ∧ Got false (rt false ls) 0 := ⟨⟨fun _ => rfl, fun e => by cases e⟩, ⟨fun _ => rfl, fun e => by cases e⟩⟩
    have hb : (b || bd false ls || bd false (rt false ls)) = b := by simp [bd]
    have hl : rt false (rt false ls) = ls := rfl
    rw [hb, hl]
    have HX := Lib.hid hx
    clear hx hb hl
    go_enter Tryz.func47, Tryz.ntmps47
    go_wp2
    refine bodyPost_ret (v := _) (by simp [results, Tryz.results47, go_sem, *]) rfl ⟨0, 0, rfl, Lib.hid ⟨HX.out.1, HX.out.2, ?_⟩⟩
    exact (((Rd.refl HU.out).next below_box).next below_box).next below_box
  · have hx : Got false ls 0 := ⟨fun _ => rfl, fun e => by cases e⟩
    have hb : (b || bd false ls || bd true (rt false ls)) = (b || (num (hd ls)).isNone) := by simp [bd, rt]
    have hl : rt true (rt false ls) = ls.tail := rfl
    have hl2 : rt false ls = ls := rfl
    rw [hb, hl, hl2]
    have HX := Lib.hid hx
    clear hx hb hl hl2
    go_enter Tryz.func47, Tryz.ntmps47
    go_wp2_with (go_at_call 26; refine (HNu.out _ HR.out).mono ?_; clear HR; rintro e' w4 ⟨x, rfl, H4⟩; have R4 := Lib.hid (HR0.out.rd H4.out.2); obtain ⟨c0, c1, c2⟩ := (R4.out.bx 0 rfl).c3; obtain ⟨f0, f1, f2⟩ := (R4.out.bx 0 rfl).f3; obtain ⟨g0, g1, g2⟩ := (R4.out.bx 1 rfl).c3; obtain ⟨p0, p1, p2⟩ := (R4.out.bx 1 rfl).f3; obtain ⟨q0, q1, q2⟩ := (R4.out.bx 2 rfl).c3)
    have R5 := R4.out.set (fun y hy => by simp only [List.mem_cons, List.not_mem_nil, or_false] at hy; rcases hy with rfl | rfl <;> simp only <;> omega) 2 (.int .i64 x)
    simp only [List.setIfInBounds_toArray, List.set_cons_succ, List.set_cons_zero] at R5
    obtain ⟨hf, hr⟩ := (R5.less (bs' := [(W.heap.size + 2, #[.int .i64 k, .int .i64 0, .int .i64 x]), (W.heap.size + 1, #[.int .i64 0, .int .i64 0, .int .i64 0])]) (fun y hy => by simp only [List.mem_cons, List.not_mem_nil, or_false] at hy ⊢; rcases hy with h | h <;> simp only [h, true_or, or_true])).fill (by omega) (.int .i64 k) (.int .i64 0) (.int .i64 x)
    obtain ⟨t0, t1, t2⟩ := hf.c3
    refine bodyPost_ret (v := .agg #[.int .i64 k, .int .i64 0, .int .i64 x]) (by simp [results, Tryz.results47, go_sem, *]) rfl ⟨0, x, rfl, Lib.hid ⟨HX.out, ⟨(fun e => by cases e), fun _ => H4.out.1⟩, hr⟩⟩
  · have hx : ∀ l, Got false l 0 := fun l => ⟨fun _ => rfl, fun e => by cases e⟩
    have hb : (b || bd true ls || bd false (rt true ls)) = (b || (num (hd ls)).isNone) := by simp [bd, rt]
    have hl : rt false (rt true ls) = ls.tail := rfl
    rw [hb, hl]
    have HX := Lib.hid (hx (rt true ls))
    clear hx hb hl
    go_enter Tryz.func47, Tryz.ntmps47
    go_wp2_with (go_at_call 26; refine (HNu.out _ HR.out).mono ?_; clear HR; rintro e' w4 ⟨x, rfl, H4⟩; have R4 := Lib.hid (HR0.out.rd H4.out.2); obtain ⟨c0, c1, c2⟩ := (R4.out.bx 0 rfl).c3; obtain ⟨f0, f1, f2⟩ := (R4.out.bx 0 rfl).f3; obtain ⟨g0, g1, g2⟩ := (R4.out.bx 1 rfl).c3; obtain ⟨p0, p1, p2⟩ := (R4.out.bx 1 rfl).f3; obtain ⟨q0, q1, q2⟩ := (R4.out.bx 2 rfl).c3)
    have R5 := R4.out.set (fun y hy => by simp only [List.mem_cons, List.not_mem_nil, or_false] at hy; rcases hy with rfl | rfl <;> simp only <;> omega) 1 (.int .i64 x)
    simp only [List.setIfInBounds_toArray, List.set_cons_succ, List.set_cons_zero] at R5
    obtain ⟨hf, hr⟩ := (R5.less (bs' := [(W.heap.size + 2, #[.int .i64 k, .int .i64 x, .int .i64 0]), (W.heap.size + 1, #[.int .i64 0, .int .i64 0, .int .i64 0])]) (fun y hy => by simp only [List.mem_cons, List.not_mem_nil, or_false] at hy ⊢; rcases hy with h | h <;> simp only [h, true_or, or_true])).fill (by omega) (.int .i64 k) (.int .i64 x) (.int .i64 0)
    obtain ⟨t0, t1, t2⟩ := hf.c3
    refine bodyPost_ret (v := .agg #[.int .i64 k, .int .i64 x, .int .i64 0]) (by simp [results, Tryz.results47, go_sem, *]) rfl ⟨x, 0, rfl, Lib.hid ⟨⟨(fun e => by cases e), fun _ => H4.out.1⟩, HX.out, hr⟩⟩
  · have hb : (b || bd true ls || bd true (rt true ls)) = (b || (num (hd ls)).isNone || (num (hd ls.tail)).isNone) := by simp [bd, rt]
    have hl : rt true (rt true ls) = ls.tail.tail := rfl
    have hl2 : rt true ls = ls.tail := rfl
    rw [hb, hl, hl2]
    clear hb hl hl2
    go_enter Tryz.func47, Tryz.ntmps47
    go_wp2_with (first
      | (go_at_call 26; refine (HNu.out _ HR.out).mono ?_; clear HR; rintro e' w4 ⟨x, rfl, H4⟩; have R4 := Lib.hid (HR0.out.rd H4.out.2); obtain ⟨c0, c1, c2⟩ := (R4.out.bx 0 rfl).c3; obtain ⟨f0, f1, f2⟩ := (R4.out.bx 0 rfl).f3; obtain ⟨g0, g1, g2⟩ := (R4.out.bx 1 rfl).c3; obtain ⟨p0, p1, p2⟩ := (R4.out.bx 1 rfl).f3; obtain ⟨q0, q1, q2⟩ := (R4.out.bx 2 rfl).c3; have R5 := Lib.hid (R4.out.set (fun y hy => by simp only [List.mem_cons, List.not_mem_nil, or_false] at hy; rcases hy with rfl | rfl <;> simp only <;> omega) 1 (.int .i64 x)))
      | (go_at_call 26; refine (HNu.out _ R5.out).mono ?_; clear c0 c1 c2 f0 f1 f2 g0 g1 g2 p0 p1 p2 q0 q1 q2; rintro e' w6 ⟨y, rfl, H6⟩; have R6 := Lib.hid (R5.out.rd H6.out.2); obtain ⟨c0, c1, c2⟩ := (R6.out.bx 0 rfl).c3; obtain ⟨f0, f1, f2⟩ := (R6.out.bx 0 rfl).f3; obtain ⟨g0, g1, g2⟩ := (R6.out.bx 1 rfl).c3; obtain ⟨p0, p1, p2⟩ := (R6.out.bx 1 rfl).f3))
    have R7 := R6.out.set (fun y hy => by simp only [List.mem_cons, List.not_mem_nil, or_false] at hy; rcases hy with rfl | rfl <;> simp only <;> omega) 2 (.int .i64 y)
    simp only [List.setIfInBounds_toArray, List.set_cons_succ, List.set_cons_zero] at R7
    obtain ⟨hf, hr⟩ := (R7.less (bs' := [(W.heap.size + 2, #[.int .i64 k, .int .i64 x, .int .i64 y]), (W.heap.size + 1, #[.int .i64 0, .int .i64 0, .int .i64 0])]) (fun y hy => by simp only [List.mem_cons, List.not_mem_nil, or_false] at hy ⊢; rcases hy with h | h <;> simp only [h, true_or, or_true])).fill (by omega) (.int .i64 k) (.int .i64 x) (.int .i64 y)
    obtain ⟨t0, t1, t2⟩ := hf.c3
    refine bodyPost_ret (v := .agg #[.int .i64 k, .int .i64 x, .int .i64 y]) (by simp [results, Tryz.results47, go_sem, *]) rfl ⟨x, y, rfl, Lib.hid ⟨⟨(fun e => by cases e), fun _ => H4.out.1⟩, ⟨(fun e => by cases e), fun _ => H6.out.1⟩, hr⟩⟩
end Go.Proofs.YthpbcbbiampamaaGreatDoor.Scr
