/- The walk of RatesPeaks. -/
import Derived.Test.YtlejnmjjpknhjaaRatW4
import Derived.Test.YtlejnmjjpknhjaaSees
import Derived.Test.YtlejnmjjpknhjaaPlain
namespace Go.Proofs.Ytlejnmjjpknhjaa.Walk
open Go.RowKit Go.ChangeShapes Go.Proofs.Ytlejnmjjpknhjaa.RatP Go.Proofs.Ytlejnmjjpknhjaa.Rat Go.Proofs.Ytlejnmjjpknhjaa.Sees
set_option linter.unusedVariables false

theorem jLaid {r : R} {W : World} {B : Nat} (h : Hid (Laid W B r)) : Calls Try.prog 16 #[.pointer (some ⟨B, 0, none⟩)] W fun e W' => e = .returned (.int .i64 1) ∧ W = W' := Laid_any B 1 W (Tbl.cl h.out)
theorem jFresh {r : R} {W : World} {B : Nat} (h : Hid (Fresh W B r)) : Calls Try.prog 16 #[.pointer (some ⟨B, 0, none⟩)] W fun e W' => e = .returned (.int .i64 0) ∧ W = W' := Laid_any B 0 W (Tbl.cl h.out)
theorem jOfL {r : R} {w W : World} {X B : Nat} (h : Hid (J w W X B r)) (hl : Hid (Laid W B r)) : Calls Try.prog 19 #[val r] W fun e W' => e = .returned (val r) ∧ Hid (J w W' X B r) ∧ Hid (Laid W' B r) :=
  (of_any r W).mono fun e W' ⟨h1, h2⟩ => ⟨h1, Lib.hid (h.out.next h2), Lib.hid (hl.out.next h2)⟩
theorem jRefPeakL {r : R} (hr : Hid r.May) {w W : World} {X B : Nat} (l d : Int) (h : Hid (J w W X B r)) (hl : Hid (Laid W B r)) :
    Calls Try.prog 22 #[val r, .int .i64 l, .int .i64 d] W fun e W' => e = .returned (.int .i64 (pk r l d)) ∧ Hid (J w W' X B r) ∧ Hid (Laid W' B r) :=
  (refPeak_any r hr.out l d W).mono fun e W' ⟨h1, h2⟩ => ⟨h1, Lib.hid (h.out.next h2), Lib.hid (hl.out.next h2)⟩
theorem jRefMostL {r : R} (hr : Hid r.May) {w W : World} {X B : Nat} (h : Hid (J w W X B r)) (hl : Hid (Laid W B r)) :
    Calls Try.prog 23 #[val r] W fun e W' => e = .returned (.int .i64 (most r)) ∧ Hid (J w W' X B r) ∧ Hid (Laid W' B r) :=
  (refMost_any r hr.out W).mono fun e W' ⟨h1, h2⟩ => ⟨h1, Lib.hid (h.out.next h2), Lib.hid (hl.out.next h2)⟩

/-- a cell that came in is as it was -/
def CellOf (w : World) (b o : Nat) (v : Value) : Prop := b < w.heap.size ∧ w.cell? ⟨b, o, none⟩ = some v
theorem CellOf.at_ {w W : World} {b o : Nat} {v : Value} (h : CellOf w b o v) (hb : Below w.heap.size w W) : W.cell? ⟨b, o, none⟩ = some v := (bcell hb b o h.1).trans h.2

set_option maxRecDepth 100000 in
set_option maxHeartbeats 12800000 in
theorem ratesPeaks_walk (w : World) (r : R) (a1 : Option Addr) (len1 cap1 : Nat) (z1 : List Int) (a2 : Option Addr) (len2 cap2 : Nat) (z2 : List Int)
    (hl1 : z1.length = len1) (hc1 : len1 ≤ cap1) (hx1 : cap1 ≤ maxLen) (hs1 : Sees w w.heap.size a1 (nums .i64 z1)) (_hw1 : ∀ n ∈ z1, (Lit.int .i64 n).wf = true)
    (hl2 : z2.length = len2) (hc2 : len2 ≤ cap2) (hx2 : cap2 ≤ maxLen) (hs2 : Sees w w.heap.size a2 (nums .i64 z2)) (_hw2 : ∀ n ∈ z2, (Lit.int .i64 n).wf = true) :
    Calls Try.prog 5 #[val r, .slice a1 len1 cap1, .slice a2 len2 cap2] w fun e w' => e = .returned (.bool true) ∧ Below w.heap.size w w' := by
  have H0 := J0.new w r
  unfold maxLen at hx1 hx2
  have HL1 := Lib.hid hl1
  have HL2 := Lib.hid hl2
  have HS1 := Lib.hid hs1
  have HS2 := Lib.hid hs2
  clear _hw1 _hw2 hl1 hl2 hs1 hs2
  unfold val
  by_cases hbig : 60 < len1
  · have hb' : (60 : Int) < (len1 : Int) := by omega
    go_enter Try.func5, Try.ntmps5
    go_wp2_with (go_at_call 11; refine (awake_j H0).mono ?_; clear H0; rintro e w1 ⟨rfl, h1⟩)
    go_ret
    exact ⟨rfl, h1.out.below⟩
  have hb1 : (len1 : Int) ≤ 60 := by omega
  have hn1 : len1 ≤ 60 := by omega
  clear hbig
  by_cases hsh : len2 < len1
  · have hb' : (len2 : Int) < (len1 : Int) := by omega
    go_enter Try.func5, Try.ntmps5
    go_wp2_with (go_at_call 11; refine (awake_j H0).mono ?_; clear H0; rintro e w1 ⟨rfl, h1⟩)
    go_ret
    exact ⟨rfl, h1.out.below⟩
  have hb2 : (len1 : Int) ≤ (len2 : Int) := by omega
  have hn2 : len1 ≤ len2 := by omega
  have hd2 : decide ((len2 : Int) < (len1 : Int)) = false := by simpa using hb2
  have hd3 : decide (len2 < len1) = false := by simpa using hn2
  clear hsh
  by_cases hm : mayB r = false
  · have HR := Lib.hid hm
    clear hm
    go_enter Try.func5, Try.ntmps5
    go_wp2_with (first
      | (go_at_call 11; refine (awake_j H0).mono ?_; clear H0; rintro e w1 ⟨rfl, h1⟩; obtain ⟨a0, a1, a2, a3, a4, a5⟩ := box_cells h1.out.box)
      | (go_at_call 13; refine (check_no HR h1).mono ?_; clear h1; rintro e w2 ⟨rfl, h2⟩))
    go_ret
    exact ⟨rfl, h2.out.below⟩
  have hr : r.May := (mayB_iff r).1 (by simpa using hm)
  have HR : Hid r.May := Lib.hid hr
  clear hm hr
  go_enter Try.func5, Try.ntmps5
  go_wp2_with (first
    | (go_at_call 11; refine (awake_j H0).mono ?_; clear H0; rintro e w1 ⟨rfl, h1⟩; obtain ⟨g0, g1, g2, g3, g4, g5⟩ := box_cells h1.out.box)
    | (go_at_call 13; refine (check_yes HR h1).mono ?_; clear h1 g0 g1 g2 g3 g4 g5; rintro e w2 ⟨rfl, h2⟩; obtain ⟨b0, b1, b2, b3, b4, b5⟩ := box_cells h2.out.box)
    | (go_at_call 12; refine (new_yes HR h2).mono ?_; clear h2 b0 b1 b2 b3 b4 b5; rintro e w3 ⟨B, rfl, h3, hF⟩)
    | (go_at_call 16; refine (jFresh hF).mono ?_; clear hF; rintro e w4 ⟨rfl, rfl⟩))
  go_loopw [9] (fun i wr => ∃ k : Nat, k ≤ len1 ∧ i = .int .i64 (k : Int) ∧ HoldsT w wr w.heap.size B r) (fun i _ => len1 - (intOf i).toNat)
  case atStart => exact ⟨0, Nat.zero_le _, rfl, h3⟩
  case round =>
    obtain ⟨k, hk, rfl, hj⟩ := hrel
    clear h3
    have h3 : Hid (J w wr w.heap.size B r) := hj
    clear hj
    have hj' := J.drew h3
    clear h3
    by_cases hlt : k < len1
    · obtain ⟨b1, o1, rfl, hbb1, hcc1⟩ := HS1.out.at_ (nums_at .i64 z1 k (by rw [HL1.out]; exact hlt))
      obtain ⟨b2, o2, rfl, hbb2, hcc2⟩ := HS2.out.at_ (nums_at .i64 z2 k (by rw [HL2.out]; omega))
      generalize z1[k]?.getD 0 = x at *
      generalize z2[k]?.getD 0 = y at *
      have HC1 : Hid (CellOf w b1 (o1 + k) (.int .i64 x)) := Lib.hid ⟨hbb1, hcc1⟩
      have HC2 : Hid (CellOf w b2 (o2 + k) (.int .i64 y)) := Lib.hid ⟨hbb2, hcc2⟩
      clear hbb1 hcc1 hbb2 hcc2
      have hP : ∀ W, Hid (J w W w.heap.size B r) → Calls Try.prog 14 #[.pointer (some ⟨B, 0, none⟩), .int .i64 x, .int .i64 y] W fun e W' => e = .returned (.int .i64 (pk r x y)) ∧ Hid (J w W' w.heap.size B r) ∧ Hid (Laid W' B r) := fun W h => jPeak HR x y h
      have hQ : ∀ W, Hid (J w W w.heap.size B r) → Calls Try.prog 22 #[val r, .int .i64 x, .int .i64 y] W fun e W' => e = .returned (.int .i64 (pk r x y)) ∧ Hid (J w W' w.heap.size B r) := fun W h => jRefPeak HR x y h
      have hQL : ∀ W, Hid (J w W w.heap.size B r) → Hid (Laid W B r) → Calls Try.prog 22 #[val r, .int .i64 x, .int .i64 y] W fun e W' => e = .returned (.int .i64 (pk r x y)) ∧ Hid (J w W' w.heap.size B r) ∧ Hid (Laid W' B r) := fun W h hl => jRefPeakL HR x y h hl
      generalize pk r x y = p at *
      have e1 : (p != p) = false := by simp
      have HP := Lib.hid hP
      have HQ := Lib.hid hQ
      have HQL := Lib.hid hQL
      clear hP hQ hQL
      unfold val at HQ HQL
      have r1 : (0 : Int) ≤ (k : Int) := by omega
      have r2 : (k : Int) < (len1 : Int) := by omega
      have r3 : (k : Int) < (len2 : Int) := by omega
      go_wp2
      go_region_held (fun W' => W'.cell? ⟨w.heap.size, 0, none⟩ = some (.int .i64 r.idle) ∧ W'.cell? ⟨w.heap.size, 1, none⟩ = some (.int .i64 r.move) ∧ W'.cell? ⟨w.heap.size, 2, none⟩ = some (.int .i64 r.gain) ∧ W'.cell? ⟨w.heap.size, 3, none⟩ = some (.int .i64 r.pull) ∧ W'.cell? ⟨w.heap.size, 4, none⟩ = some (.int .i64 r.door) ∧ W'.cell? ⟨w.heap.size, 5, none⟩ = some (.int .i64 r.weight) ∧
          W'.cell? ⟨b1, o1 + k, none⟩ = some (.int .i64 x) ∧ W'.cell? ⟨b2, o2 + k, none⟩ = some (.int .i64 y) ∧ HoldsT w W' w.heap.size B r)
        ((have hj := ‹Hid (J _ _ _ _ _)›; exact ⟨hj.out.box.c0, hj.out.box.c1, hj.out.box.c2, hj.out.box.c3, hj.out.box.c4, hj.out.box.c5, HC1.out.at_ hj.out.below, HC2.out.at_ hj.out.below, hj⟩))
        ((have hj0 := ‹Hid (J _ _ _ _ _)›
          first
          | (go_at_call 14; (with_reducible refine (HP.out _ hj0).mono ?_); clear hj0; rintro e w' ⟨rfl, hj', hL'⟩)
          | (go_at_call 19; have hl0 := ‹Hid (Laid _ _ _)›; refine (jOfL hj0 hl0).mono ?_; clear hj0 hl0; unfold val; rintro e w' ⟨rfl, hj', hL'⟩)
          | (go_at_call 19; refine (jOf hj0).mono ?_; clear hj0; unfold val; rintro e w' ⟨rfl, hj'⟩)
          | (go_at_call 22; have hl0 := ‹Hid (Laid _ _ _)›; (with_reducible refine (HQL.out _ hj0 hl0).mono ?_); clear hj0 hl0; rintro e w' ⟨rfl, hj', hL'⟩)
          | (go_at_call 22; (with_reducible refine (HQ.out _ hj0).mono ?_); clear hj0; rintro e w' ⟨rfl, hj'⟩)
          | (go_at_call 16; clear hj0; have hl0 := ‹Hid (Laid _ _ _)›; refine (jLaid hl0).mono ?_; clear hl0; rintro e w' ⟨rfl, rfl⟩)))
      all_goals
        go_wp2
        go_roundw
        case rel => exact ⟨k + 1, by omega, by go_num, ‹Hid (J _ _ _ _ _)›⟩
        case measure => simp [intOf]; omega
    · obtain rfl : k = len1 := by omega
      have hM : ∀ W, Hid (J w W w.heap.size B r) → Calls Try.prog 15 #[.pointer (some ⟨B, 0, none⟩)] W fun e W' => e = .returned (.int .i64 (most r)) ∧ Hid (J w W' w.heap.size B r) ∧ Hid (Laid W' B r) := fun W h => jMost HR h
      have hQ : ∀ W, Hid (J w W w.heap.size B r) → Calls Try.prog 23 #[val r] W fun e W' => e = .returned (.int .i64 (most r)) ∧ Hid (J w W' w.heap.size B r) := fun W h => jRefMost HR h
      have hQL : ∀ W, Hid (J w W w.heap.size B r) → Hid (Laid W B r) → Calls Try.prog 23 #[val r] W fun e W' => e = .returned (.int .i64 (most r)) ∧ Hid (J w W' w.heap.size B r) ∧ Hid (Laid W' B r) := fun W h hl => jRefMostL HR h hl
      generalize most r = p at *
      have e1 : (p == p) = true := by simp
      have HM := Lib.hid hM
      have HQ := Lib.hid hQ
      have HQL := Lib.hid hQL
      clear hM hQ hQL
      unfold val at HQ HQL
      go_wp2
      go_region_held (fun W' => W'.cell? ⟨w.heap.size, 0, none⟩ = some (.int .i64 r.idle) ∧ W'.cell? ⟨w.heap.size, 1, none⟩ = some (.int .i64 r.move) ∧ W'.cell? ⟨w.heap.size, 2, none⟩ = some (.int .i64 r.gain) ∧ W'.cell? ⟨w.heap.size, 3, none⟩ = some (.int .i64 r.pull) ∧ W'.cell? ⟨w.heap.size, 4, none⟩ = some (.int .i64 r.door) ∧ W'.cell? ⟨w.heap.size, 5, none⟩ = some (.int .i64 r.weight) ∧ HoldsT w W' w.heap.size B r)
        ((have hj := ‹Hid (J _ _ _ _ _)›; exact ⟨hj.out.box.c0, hj.out.box.c1, hj.out.box.c2, hj.out.box.c3, hj.out.box.c4, hj.out.box.c5, hj⟩))
        ((have hj0 := ‹Hid (J _ _ _ _ _)›
          first
          | (go_at_call 15; (with_reducible refine (HM.out _ hj0).mono ?_); clear hj0; rintro e w' ⟨rfl, hj', hL'⟩)
          | (go_at_call 19; have hl0 := ‹Hid (Laid _ _ _)›; refine (jOfL hj0 hl0).mono ?_; clear hj0 hl0; unfold val; rintro e w' ⟨rfl, hj', hL'⟩)
          | (go_at_call 19; refine (jOf hj0).mono ?_; clear hj0; unfold val; rintro e w' ⟨rfl, hj'⟩)
          | (go_at_call 23; have hl0 := ‹Hid (Laid _ _ _)›; (with_reducible refine (HQL.out _ hj0 hl0).mono ?_); clear hj0 hl0; rintro e w' ⟨rfl, hj', hL'⟩)
          | (go_at_call 23; (with_reducible refine (HQ.out _ hj0).mono ?_); clear hj0; rintro e w' ⟨rfl, hj'⟩)
          | (go_at_call 16; clear hj0; have hl0 := ‹Hid (Laid _ _ _)›; refine (jLaid hl0).mono ?_; clear hl0; rintro e w' ⟨rfl, rfl⟩)))
      all_goals
        go_wp2
        go_ret
        have hj := ‹Hid (J _ _ _ _ _)›
        exact ⟨rfl, hj.out.below⟩

end Go.Proofs.Ytlejnmjjpknhjaa.Walk
