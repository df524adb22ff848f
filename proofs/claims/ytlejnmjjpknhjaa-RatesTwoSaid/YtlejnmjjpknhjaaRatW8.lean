/- The walk of RatesTwo. -/
import Derived.Test.YtlejnmjjpknhjaaRatW7
namespace Go.Proofs.Ytlejnmjjpknhjaa.Walk
open Go.RowKit Go.ChangeShapes Go.Proofs.Ytlejnmjjpknhjaa.RatP Go.Proofs.Ytlejnmjjpknhjaa.Rat Go.Proofs.Ytlejnmjjpknhjaa.Sees
set_option linter.unusedVariables false

/-- two tables: the first one laid -/
structure J2 (w W : World) (X A B : Nat) (r : R) : Prop where
  below : Below w.heap.size w W
  box : Box W X r
  laid : Laid W A r
  ok : Ok W B r
  baseA : w.heap.size ≤ A
  baseB : w.heap.size ≤ B
  neA : X ≠ A
  neB : X ≠ B
  ne : A ≠ B
theorem Tbl.other {W W' : World} {A B : Nat} {r : R} {d m l : Int} {n : Nat} {q : Int} (h : Tbl W A r d m l n q) (hg : W.grownBy W' (some B)) (hne : A ≠ B) : Tbl W' A r d m l n q :=
  h.kept (hg.block A h.lt (by intro e; injection e with e; exact hne e))
theorem J2.first {w W W' : World} {X A B : Nat} {r : R} (h : J2 w W X A B r) (hl : Laid W' A r) (hg : W.grownBy W' (some A)) : J2 w W' X A B r :=
  ⟨h.below.grown hg h.below.size (fun k hk => by injection hk with hk; subst hk; exact h.baseA), h.box.kept (hg.block X h.box.lt (by intro e; injection e with e; exact h.neA e)), hl,
    h.ok.imp (fun t => Tbl.other t hg h.ne.symm) (fun t => Tbl.other t hg h.ne.symm), h.baseA, h.baseB, h.neA, h.neB, h.ne⟩
theorem J2.second {w W W' : World} {X A B : Nat} {r : R} (h : J2 w W X A B r) (hl : Laid W' B r) (hg : W.grownBy W' (some B)) : J2 w W' X A B r :=
  ⟨h.below.grown hg h.below.size (fun k hk => by injection hk with hk; subst hk; exact h.baseB), h.box.kept (hg.block X h.box.lt (by intro e; injection e with e; exact h.neB e)), Tbl.other h.laid hg h.ne,
    .inr hl, h.baseA, h.baseB, h.neA, h.neB, h.ne⟩
theorem J2.drew {w W : World} {X A B : Nat} {r : R} (h : Hid (J2 w W X A B r)) : Hid (J2 w W.drew X A B r) :=
  Lib.hid ⟨h.out.below.drew, h.out.box.drew, Tbl.drew h.out.laid, h.out.ok.imp Tbl.drew Tbl.drew, h.out.baseA, h.out.baseB, h.out.neA, h.out.neB, h.out.ne⟩
def Holds2 (w W : World) (X A B : Nat) (r : R) : Prop := Hid (J2 w W X A B r)
theorem j2PeakA {r : R} (hr : Hid r.May) {w W : World} {X A B : Nat} (l d : Int) (h : Hid (J2 w W X A B r)) :
    Calls Try.prog 14 #[.pointer (some ⟨A, 0, none⟩), .int .i64 l, .int .i64 d] W fun e W' => e = .returned (.int .i64 (pk r l d)) ∧ Hid (J2 w W' X A B r) :=
  (Peak_any r hr.out A l d W (.inr h.out.laid)).mono fun e W' ⟨h1, h2, h3⟩ => ⟨h1, Lib.hid (h.out.first h2 h3)⟩
theorem j2PeakB {r : R} (hr : Hid r.May) {w W : World} {X A B : Nat} (l d : Int) (h : Hid (J2 w W X A B r)) :
    Calls Try.prog 14 #[.pointer (some ⟨B, 0, none⟩), .int .i64 l, .int .i64 d] W fun e W' => e = .returned (.int .i64 (pk r l d)) ∧ Hid (J2 w W' X A B r) :=
  (Peak_any r hr.out B l d W h.out.ok).mono fun e W' ⟨h1, h2, h3⟩ => ⟨h1, Lib.hid (h.out.second h2 h3)⟩
theorem j2MostB {r : R} (hr : Hid r.May) {w W : World} {X A B : Nat} (h : Hid (J2 w W X A B r)) :
    Calls Try.prog 15 #[.pointer (some ⟨B, 0, none⟩)] W fun e W' => e = .returned (.int .i64 (most r)) ∧ Hid (J2 w W' X A B r) ∧ Hid (Laid W' B r) ∧ Hid (Laid W' A r) :=
  (Most_any r hr.out B W h.out.ok).mono fun e W' ⟨h1, h2, h3⟩ => ⟨h1, Lib.hid (h.out.second h2 h3), Lib.hid h2, Lib.hid (h.out.second h2 h3).laid⟩
/-- the second table is made beside the first one -/
def Got2 (w : World) (X A : Nat) (r : R) (e : Ending) (W' : World) : Prop := ∃ B, e = .returned (.pointer (some ⟨B, 0, none⟩)) ∧ Hid (J w W' X A r) ∧ Hid (Fresh W' B r) ∧ Hid (w.heap.size ≤ B ∧ X ≠ B ∧ A ≠ B)
theorem new_two {r : R} (hr : Hid r.May) {w W : World} {X A : Nat} (h : Hid (J w W X A r)) : Calls Try.prog 12 #[val r] W (Got2 w X A r) :=
  (New_yes r hr.out W).mono fun e W' ⟨B, h1, h2, h3, h4⟩ => ⟨B, h1, Lib.hid (h.out.next h3), Lib.hid h4, Lib.hid ⟨Nat.le_trans h.out.below.size h2, fun e => by have := h.out.box.lt; omega, fun e => by
    have : A < W.heap.size := by rcases h.out.ok with t | t <;> exact Tbl.lt t
    omega⟩⟩
theorem mostA {r : R} (hr : Hid r.May) {w W : World} {X A B : Nat} (h : Hid (J w W X A r)) (hF : Hid (Fresh W B r)) (hn : Hid (w.heap.size ≤ B ∧ X ≠ B ∧ A ≠ B)) :
    Calls Try.prog 15 #[.pointer (some ⟨A, 0, none⟩)] W fun e W' => e = .returned (.int .i64 (most r)) ∧ Hid (J2 w W' X A B r) ∧ Hid (Laid W' A r) ∧ Hid (Fresh W' B r) :=
  (Most_any r hr.out A W h.out.ok).mono fun e W' ⟨h1, h2, h3⟩ => by
    have hf : Fresh W' B r := Tbl.other hF.out h3 hn.out.2.2.symm
    have hj := h.out.lays h2 h3
    exact ⟨h1, Lib.hid ⟨hj.below, hj.box, h2, .inl hf, hj.base, hn.out.1, hj.ne, hn.out.2.1, hn.out.2.2⟩, Lib.hid h2, Lib.hid hf⟩

set_option maxRecDepth 100000 in
set_option maxHeartbeats 12800000 in
theorem ratesTwo_walk (w : World) (r : R) (a1 : Option Addr) (len1 cap1 : Nat) (z1 : List Int) (dir : Int)
    (hl1 : z1.length = len1) (hc1 : len1 ≤ cap1) (hx1 : cap1 ≤ maxLen) (hs1 : Sees w w.heap.size a1 (nums .i64 z1)) (_hw1 : ∀ n ∈ z1, (Lit.int .i64 n).wf = true) (_w2 : (Lit.int .i64 dir).wf = true) :
    Calls Try.prog 10 #[val r, .slice a1 len1 cap1, .int .i64 dir] w fun e w' => e = .returned (.bool true) ∧ Below w.heap.size w w' := by
  have H0 := J0.new w r
  unfold maxLen at hx1
  have HL1 := Lib.hid hl1
  have HS1 := Lib.hid hs1
  clear _hw1 _w2 hl1 hs1
  unfold val
  by_cases hbig : 60 < len1
  · have hb' : (60 : Int) < (len1 : Int) := by omega
    go_enter Try.func10, Try.ntmps10
    go_wp2_with (go_at_call 11; refine (awake_j H0).mono ?_; clear H0; rintro e w1 ⟨rfl, h1⟩)
    go_ret
    exact ⟨rfl, h1.out.below⟩
  have hb1 : (len1 : Int) ≤ 60 := by omega
  have hn1 : len1 ≤ 60 := by omega
  clear hbig
  by_cases hm : mayB r = false
  · have HR := Lib.hid hm
    clear hm
    go_enter Try.func10, Try.ntmps10
    go_wp2_with (first
      | (go_at_call 11; refine (awake_j H0).mono ?_; clear H0; rintro e w1 ⟨rfl, h1⟩; obtain ⟨a0, a1, a2, a3, a4, a5⟩ := box_cells h1.out.box)
      | (go_at_call 13; refine (check_no HR h1).mono ?_; clear h1; rintro e w2 ⟨rfl, h2⟩))
    go_ret
    exact ⟨rfl, h2.out.below⟩
  have hr : r.May := (mayB_iff r).1 (by simpa using hm)
  have HR : Hid r.May := Lib.hid hr
  have hMA : ∀ W A B, Hid (J w W w.heap.size A r) → Hid (Fresh W B r) → Hid (w.heap.size ≤ B ∧ w.heap.size ≠ B ∧ A ≠ B) → Calls Try.prog 15 #[.pointer (some ⟨A, 0, none⟩)] W fun e W' => e = .returned (.int .i64 (most r)) ∧ Hid (J2 w W' w.heap.size A B r) ∧ Hid (Laid W' A r) ∧ Hid (Fresh W' B r) := fun W A B h hF hn => mostA HR h hF hn
  have hMB : ∀ W A B, Hid (J2 w W w.heap.size A B r) → Calls Try.prog 15 #[.pointer (some ⟨B, 0, none⟩)] W fun e W' => e = .returned (.int .i64 (most r)) ∧ Hid (J2 w W' w.heap.size A B r) ∧ Hid (Laid W' B r) ∧ Hid (Laid W' A r) := fun W A B h => j2MostB HR h
  have hle : ∀ x, pk r x dir ≤ most r := fun x => pk_most r x dir
  have HMA := Lib.hid hMA
  have HMB := Lib.hid hMB
  have HLE := Lib.hid hle
  clear hm hr hMA hMB hle
  generalize most r = m at *
  have em : (m == m) = true := by simp
  go_enter Try.func10, Try.ntmps10
  go_wp2_with (first
    | (go_at_call 11; refine (awake_j H0).mono ?_; clear H0; rintro e w1 ⟨rfl, h1⟩; obtain ⟨g0, g1, g2, g3, g4, g5⟩ := box_cells h1.out.box)
    | (go_at_call 13; refine (check_yes HR h1).mono ?_; clear h1 g0 g1 g2 g3 g4 g5; rintro e w2 ⟨rfl, h2⟩; obtain ⟨b0, b1, b2, b3, b4, b5⟩ := box_cells h2.out.box)
    | (go_at_call 12; refine (new_yes HR h2).mono ?_; clear h2 b0 b1 b2 b3 b4 b5; rintro e w3 ⟨A, rfl, h3, hF⟩; clear hF; obtain ⟨d0, d1, d2, d3, d4, d5⟩ := box_cells h3.out.box)
    | (go_at_call 12; refine (new_two HR h3).mono ?_; clear h3 d0 d1 d2 d3 d4 d5; rintro e w4 ⟨B, rfl, h4, hF, hn⟩)
    | (go_at_call 15; refine (HMA.out _ A B h4 hF hn).mono ?_; clear h4 hF; rintro e w5 ⟨rfl, h5, hL5, hF5⟩)
    | (go_at_call 16; (with_reducible refine (jLaid hL5).mono ?_); rintro e w6 ⟨rfl, rfl⟩)
    | (go_at_call 16; (with_reducible refine (jFresh hF5).mono ?_); rintro e w7 ⟨rfl, rfl⟩))
  clear hL5 hF5
  go_loopw [11] (fun i wr => ∃ k : Nat, k ≤ len1 ∧ i = .int .i64 (k : Int) ∧ Holds2 w wr w.heap.size A B r) (fun i _ => len1 - (intOf i).toNat)
  case atStart => exact ⟨0, Nat.zero_le _, rfl, h5⟩
  case round =>
    obtain ⟨k, hk, rfl, hj⟩ := hrel
    clear h5
    have h5 : Hid (J2 w wr w.heap.size A B r) := hj
    clear hj
    by_cases hlt : k < len1
    · have hj' := J2.drew h5
      clear h5
      obtain ⟨b1, o1, rfl, hbb1, hcc1⟩ := HS1.out.at_ (nums_at .i64 z1 k (by rw [HL1.out]; exact hlt))
      obtain ⟨b2, o2, hbo, hbb2, hcc2⟩ := HS1.out.at_ (nums_at .i64 z1 (len1 - 1 - k) (by rw [HL1.out]; omega))
      injection hbo with hbo
      injection hbo with hbo1 hbo2
      subst hbo1 hbo2
      generalize z1[k]?.getD 0 = x at *
      generalize z1[len1 - 1 - k]?.getD 0 = y at *
      have HC1 : Hid (CellOf w b1 (o1 + k) (.int .i64 x)) := Lib.hid ⟨hbb1, hcc1⟩
      have HC2 : Hid (CellOf w b1 (o1 + (len1 - 1 - k)) (.int .i64 y)) := Lib.hid ⟨hbb2, hcc2⟩
      clear hbb1 hcc1 hbb2 hcc2
      have hPA : ∀ W, Hid (J2 w W w.heap.size A B r) → Calls Try.prog 14 #[.pointer (some ⟨A, 0, none⟩), .int .i64 x, .int .i64 dir] W fun e W' => e = .returned (.int .i64 (pk r x dir)) ∧ Hid (J2 w W' w.heap.size A B r) := fun W h => j2PeakA HR x dir h
      have hPB : ∀ W, Hid (J2 w W w.heap.size A B r) → Calls Try.prog 14 #[.pointer (some ⟨B, 0, none⟩), .int .i64 x, .int .i64 dir] W fun e W' => e = .returned (.int .i64 (pk r x dir)) ∧ Hid (J2 w W' w.heap.size A B r) := fun W h => j2PeakB HR x dir h
      have hPY : ∀ W, Hid (J2 w W w.heap.size A B r) → Calls Try.prog 14 #[.pointer (some ⟨A, 0, none⟩), .int .i64 y, .int .i64 dir] W fun e W' => e = .returned (.int .i64 (pk r y dir)) ∧ Hid (J2 w W' w.heap.size A B r) := fun W h => j2PeakA HR y dir h
      have hy := HLE.out y
      generalize pk r x dir = p at *
      generalize pk r y dir = q at *
      have e1 : (p != p) = false := by simp
      have HPA := Lib.hid hPA
      have HPB := Lib.hid hPB
      have HPY := Lib.hid hPY
      clear hPA hPB hPY
      obtain ⟨t, ht⟩ : ∃ t : Nat, len1 - 1 - k = t := ⟨_, rfl⟩
      rw [ht] at HC2
      have et : IntKind.i64.wrap (IntKind.i64.wrap ((len1 : Int) - 1) - (k : Int)) = (t : Int) := by
        rw [IntWalk.i64_in ((len1 : Int) - 1) (by omega), IntWalk.i64_in _ (by omega)]; omega
      have r1 : (0 : Int) ≤ (k : Int) := by omega
      have r2 : (k : Int) < (len1 : Int) := by omega
      have r3 : (0 : Int) ≤ (t : Int) := by omega
      have r4 : (t : Int) < (len1 : Int) := by omega
      clear ht
      go_wp2
      go_region_held (fun W' => W'.cell? ⟨b1, o1 + k, none⟩ = some (.int .i64 x) ∧ W'.cell? ⟨b1, o1 + t, none⟩ = some (.int .i64 y) ∧ Holds2 w W' w.heap.size A B r)
        ((have hj := ‹Hid (J2 _ _ _ _ _ _)›; exact ⟨HC1.out.at_ hj.out.below, HC2.out.at_ hj.out.below, hj⟩))
        ((have hj0 := ‹Hid (J2 _ _ _ _ _ _)›
          first
          | (go_at_call 14; (with_reducible refine (HPA.out _ hj0).mono ?_); clear hj0; rintro e w' ⟨rfl, hj'⟩)
          | (go_at_call 14; (with_reducible refine (HPB.out _ hj0).mono ?_); clear hj0; rintro e w' ⟨rfl, hj'⟩)
          | (go_at_call 14; (with_reducible refine (HPY.out _ hj0).mono ?_); clear hj0; rintro e w' ⟨rfl, hj'⟩)))
      all_goals
        go_wp2
        go_roundw
        case rel => exact ⟨k + 1, by omega, by go_num, ‹Hid (J2 _ _ _ _ _ _)›⟩
        case measure => simp [intOf]; omega
    · obtain rfl : k = len1 := by omega
      go_wp2_with (first
        | (go_at_call 15; refine (HMB.out _ A B h5).mono ?_; clear h5; rintro e w8 ⟨rfl, h8, hLB, hLA⟩)
        | (go_at_call 16; (with_reducible refine (jLaid hLA).mono ?_); rintro e w9 ⟨rfl, rfl⟩)
        | (go_at_call 16; (with_reducible refine (jLaid hLB).mono ?_); rintro e w9 ⟨rfl, rfl⟩))
      go_ret
      exact ⟨rfl, h8.out.below⟩

end Go.Proofs.Ytlejnmjjpknhjaa.Walk
