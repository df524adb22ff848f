/- Contracts of a meter. -/
import Derived.Test.YtnojenokeggpoaaBox
import Derived.Test.YtnojenokeggpoaaAto
import Derived.Test.YtnojenokeggpoaaMetP
import Derived.Test.YtnojenokeggpoaaSatE3
import Derived.Test.YtnojenokeggpoaaPlain
import Derived.Deep.OwnRows
namespace Go.Proofs.Ytnojenokeggpoaa.Mtr
open Go.RowKit Go.Proofs.Ytnojenokeggpoaa.SatP Go.Proofs.Ytnojenokeggpoaa.MetP Go.Proofs.Ytnojenokeggpoaa.Box Go.Proofs.Ytnojenokeggpoaa.Sees Go.Proofs.Ytnojenokeggpoaa.Ato
set_option linter.unusedVariables false

/-- what a call that turns block X alone leaves of it -/
structure T (w W : World) (X : Nat) (cs : Array Value) : Prop where
  by_ : w.grownBy W (some X)
  bx : Bx W X cs
theorem T.start {w : World} {X : Nat} {cs : Array Value} (h : Bx w X cs) : T w w X cs := ⟨World.grownBy.refl w _, h⟩
theorem T.below {w W W' : World} {X : Nat} {cs : Array Value} (h : T w W X cs) (hb : Below W.heap.size W W') : T w W' X cs :=
  ⟨⟨hb.os.trans h.by_.os, hb.tape.trans h.by_.tape, hb.output.trans h.by_.output, Nat.le_trans h.by_.size hb.size, fun i hi hne => (hb.block i (Nat.lt_of_lt_of_le hi h.by_.size)).trans (h.by_.block i hi hne)⟩, h.bx.next hb⟩
theorem T.set {w W : World} {X : Nat} {cs : Array Value} (h : T w W X cs) (j : Nat) (u : Value) : T w (W.setCell ⟨X, j, none⟩ u) X (cs.setIfInBounds j u) :=
  ⟨⟨h.by_.os, h.by_.tape, h.by_.output, by simpa [World.setCell] using h.by_.size, fun i hi hne => (Below.heap_setCell W _ u i (by rintro rfl; exact hne rfl)).trans (h.by_.block i hi hne)⟩, h.bx.set u⟩
theorem T.drew {w W : World} {X : Nat} {cs : Array Value} (h : T w W X cs) : T w W.drew X cs := ⟨⟨h.by_.os, h.by_.tape, h.by_.output, h.by_.size, h.by_.block⟩, h.bx.drew⟩

theorem info_i64 : (Try.prog.info? 2).map (fun i => (i.zero, i.size, i.bytes)) = some (some (.int .i64 0), 1, 8) := by kernel_rfl
theorem made_zero (n : Nat) : madeCells #[.int .i64 0] n = (nums .i64 (List.replicate n 0)).toArray := by
  apply Array.toList_inj.1
  rw [toList_madeCells_one]
  simp [nums]
theorem sees_bx {W : World} {X : Nat} {l : List Value} (h : Bx W X l.toArray) : Sees W W.heap.size (some ⟨X, 0, none⟩) l :=
  .inr ⟨X, 0, rfl, h.lt, fun j u hu => by rw [Nat.zero_add]; exact h.cell (by simpa using hu)⟩
/-- the row as far as k draws are counted -/
def mid (zs : List Int) (k : Nat) : List Int := up (zs.take k) ++ List.replicate (zs.length - k) 0
theorem mid_zero (zs : List Int) : mid zs 0 = List.replicate zs.length 0 := by simp [mid, up]
theorem mid_all (zs : List Int) : mid zs zs.length = up zs := by simp [mid]
theorem mid_at (zs : List Int) (k : Nat) (h : k < zs.length) : (nums .i64 (mid zs k)).toArray[k]? = some (.int .i64 0) := by
  have e : (up (zs.take k)).length = k := by simp [up]; omega
  have hr : zs.length - k = (zs.length - (k + 1)) + 1 := by omega
  simp only [nums, mid, hr, List.replicate_succ]
  simp [e]
theorem mid_set (zs : List Int) (k : Nat) (x : Int) (h : k < zs.length) (hx : zs[k]?.getD 0 = x) : (nums .i64 (mid zs k)).toArray.setIfInBounds k (.int .i64 (max 0 x)) = (nums .i64 (mid zs (k + 1))).toArray := by
  have e : (up (zs.take k)).length = k := by simp [up]; omega
  have ht : zs.take (k + 1) = zs.take k ++ [x] := by
    rw [← hx]; exact Plain.take_snoc zs k h 0
  have hr : zs.length - k = (zs.length - (k + 1)) + 1 := by omega
  rw [List.setIfInBounds_toArray]
  congr 1
  unfold mid nums
  rw [ht, hr, List.replicate_succ]
  unfold up at *
  rw [List.map_append (f := fun x => max 0 x), List.map_append, List.map_append, List.map_append, List.set_append_right (h := by simp at e ⊢; omega)]
  rw [show k - ((List.map (fun x => max 0 x) (zs.take k)).map (Value.int .i64)).length = 0 by simp at e ⊢; omega]
  simp

set_option maxHeartbeats 1600000 in
theorem together_any (zs : List Int) (A : Option Addr) (n cap : Nat) (w : World) (hl : zs.length = n) (hn : n ≤ 1000) (hs : Sees w w.heap.size A (nums .i64 zs)) :
    Calls Try.prog 14 #[.slice A n cap] w (Says w (.int .i64 (dv zs))) := by
  have hmk : ∀ W, (Instr.makeSlice 47 (.int .i64 (n : Int)) (.int .i64 (n : Int))).run Try.prog W = .ok (.slice (some ⟨W.heap.size, 0, none⟩) n n) (W.alloc (.cells (madeCells #[.int .i64 0] n) 2)) :=
    run_make_row' 47 2 (.int .i64 0) 8 Try.underlying47 info_i64 rfl .i64 .i64 n (by omega) (by omega)
  rw [made_zero] at hmk
  have hS : ∀ W, Sees W W.heap.size (some ⟨w.heap.size, 0, none⟩) (nums .i64 (up zs)) → Calls Try.prog 19 #[.slice (some ⟨w.heap.size, 0, none⟩) n n] W (Sat.Pair W (dv zs) (sumM (up zs))) := fun W h =>
    Sat.Sum_any (up zs) _ n n W (by simp [up, hl]) (by unfold maxLen; omega) h
  have hj0 : J w (w.alloc (.cells (nums .i64 (List.replicate n 0)).toArray 2)) [(w.heap.size, (nums .i64 (mid zs 0)).toArray)] := by
    rw [mid_zero, hl]; exact J.one w _ _
  have HL := Lib.hid hl
  have HS := Lib.hid hS
  have HJ0 := Lib.hid hj0
  have HE := Lib.hid hs
  clear hl hS hj0 hs
  generalize sumM (up zs) = m at *
  go_enter Try.func14, Try.ntmps14
  go_wp2
  go_loopw [13] (fun i wr => ∃ k : Nat, k ≤ n ∧ i = .int .i64 k ∧ Hid (J w wr [(w.heap.size, (nums .i64 (mid zs k)).toArray)])) (fun i _ => n - (intOf i).toNat)
  case atStart => exact ⟨0, Nat.zero_le _, rfl, HJ0⟩
  case round =>
    obtain ⟨k, hk, rfl, hj⟩ := hrel
    by_cases hlt : k < n
    · have hlt' : k < zs.length := by rw [HL.out]; exact hlt
      obtain ⟨b, o, rfl, hbB, hcell⟩ := HE.out.at_ (nums_at .i64 zs k hlt')
      have hc1 := (hj.out.below.cell (p := ⟨b, o + k, none⟩) hbB).trans hcell
      have b1 := (hj.out.bx 0 rfl).cell (mid_at zs k hlt')
      have f1 := (hj.out.bx 0 rfl).fr k
      have HM := Lib.hid (mid_set zs k _ hlt' rfl)
      generalize zs[k]?.getD 0 = x at *
      have hmax : ∀ W, (Builtin.max_ #[3, 3] 3 #[.int .i64 0, .int .i64 x]).run Try.prog W = .ok (.int .i64 (max 0 x)) W := fun W => by
        rw [run_max_int2]; congr 2; split <;> omega
      have hj2 := Lib.hid (hj.out.put (Nat.le_refl _) (fun x hx => by cases hx) k (.int .i64 (max 0 x)))
      rw [HM.out] at hj2
      clear hcell hlt'
      generalize max 0 x = y at *
      have i0 : (0 : Int) ≤ (k : Int) := by omega
      have i1 : (k : Int) < (n : Int) := by omega
      go_wp2
      go_roundw
      case rel => exact ⟨k + 1, by omega, by go_num, hj2⟩
      case measure => simp [intOf]; omega
    · obtain rfl : k = n := by omega
      have hsee : Sees wr wr.heap.size (some ⟨w.heap.size, 0, none⟩) (nums .i64 (up zs)) := by
        have := sees_bx (hj.out.bx 0 rfl)
        rwa [← HL.out, mid_all] at this
      have HSE := Lib.hid (HS.out _ hsee)
      clear hsee
      go_wp2_with (go_at_call 19; refine HSE.out.mono ?_; rintro e w1 ⟨rfl, h1⟩; have hj1 := Lib.hid (hj.out.next h1))
      go_ret
      exact ⟨rfl, hj1.out.below⟩

/-- New: a block of three numbers -/
theorem New_any (w : World) : Calls Try.prog 7 #[] w fun e w' => e = .returned (.pointer (some ⟨w.heap.size, 0, none⟩)) ∧ w' = w.alloc (.cells #[.int .i64 0, .int .i64 0, .int .i64 0] 39) := by
  go_enter Try.func7, Try.ntmps7
  go_wp2
  go_ret
  exact ⟨rfl, rfl⟩

end Go.Proofs.Ytnojenokeggpoaa.Mtr
