/- Contracts of a meter's calls. -/
import Derived.Test.YtnojenokeggpoaaMetA
import Derived.Deep.RegionWith
namespace Go.Proofs.Ytnojenokeggpoaa.Mtr
open Go.RowKit Go.Proofs.Ytnojenokeggpoaa.SatP Go.Proofs.Ytnojenokeggpoaa.MetP Go.Proofs.Ytnojenokeggpoaa.Box Go.Proofs.Ytnojenokeggpoaa.Sees Go.Proofs.Ytnojenokeggpoaa.Ato
set_option linter.unusedVariables false

/-- a meter's cells -/
def cells (l h n : Int) : Array Value := #[.int .i64 l, .int .i64 h, .int .i64 n]

set_option maxHeartbeats 1600000 in
theorem tick_any (zs : List Int) (A : Option Addr) (n cap : Nat) (X : Nat) (l h t : Int) (w : World) (hl : zs.length = n) (hn : n ≤ 1000) (hs : Sees w w.heap.size A (nums .i64 zs)) (hx : Bx w X (cells l h t)) (ht : t < 1000000 ∧ 0 ≤ t) :
    Calls Try.prog 9 #[.pointer (some ⟨X, 0, none⟩), .slice A n cap] w fun e w' => e = .returned (.int .i64 (dv zs)) ∧ T w w' X (cells (dv zs) (max h (dv zs)) (t + 1)) := by
  have HT := Lib.hid (together_any zs A n cap w hl hn hs)
  have HX := Lib.hid (T.start hx)
  clear hx hs hl
  have ew : IntKind.i64.wrap (t + 1) = t + 1 := IntWalk.i64_in _ (by omega)
  unfold cells at *
  generalize dv zs = d at *
  have hmax : ∀ W, (Builtin.max_ #[2, 2] 2 #[.int .i64 h, .int .i64 d]).run Try.prog W = .ok (.int .i64 (max h d)) W := fun W => by
    rw [run_max_int2]; congr 2; split <;> omega
  generalize max h d = m at *
  obtain ⟨t1, ht1⟩ : ∃ t1, t + 1 = t1 := ⟨_, rfl⟩
  rw [ht1] at ew ⊢
  have ew2 : IntKind.i64.wrap (t + 1) = t1 := by rw [ht1]; exact ew
  clear ew ht1 ht
  go_enter Try.func9, Try.ntmps9
  go_wp2_with (first
    | (go_at_call 14; refine HT.out.mono ?_; rintro e w1 ⟨rfl, h1⟩; have hx1 := Lib.hid (HX.out.below h1); obtain ⟨c0, c1, c2⟩ := hx1.out.bx.c3; obtain ⟨f0, f1, f2⟩ := hx1.out.bx.f3)
    | (go_at_call 15; refine (store_any ⟨X, 0, none⟩ _ _ _ c0 f0).mono ?_; rintro e w2 ⟨rfl, rfl⟩; have hx2 := Lib.hid (hx1.out.set 0 (.int .i64 d)).drew))
  go_region_with (first
    | (go_at_call 16; refine (load_any ⟨X, 1, none⟩ h _ (by go_simp)).mono ?_; rintro e w' ⟨rfl, rfl⟩)
    | (go_at_call 15; refine (store_any ⟨X, 1, none⟩ (.int .i64 h) _ _ (by go_simp) (by go_simp)).mono ?_; rintro e w' ⟨rfl, rfl⟩))
  have hx3 := Lib.hid (hx2.out.set 1 (.int .i64 m)).drew
  go_wp2_with (go_at_call 17; refine (add_any ⟨X, 2, none⟩ t t1 _ ew2 (by go_simp) (by go_simp)).mono ?_; rintro e w' ⟨rfl, rfl⟩)
  go_ret
  exact ⟨rfl, hx2.out.set 1 (.int .i64 m) |>.set 2 (.int .i64 t1)⟩

theorem tick_nil (v : Value) (w : World) : Calls Try.prog 9 #[.pointer none, v] w fun e w' => e = .returned (.int .i64 0) ∧ w = w' := by
  go_enter Try.func9, Try.ntmps9
  go_wp2
  go_ret
  exact ⟨rfl, rfl⟩
theorem last_any (X : Nat) (x : Int) (w : World) (hc : w.cell? ⟨X, 0, none⟩ = some (.int .i64 x)) : Calls Try.prog 10 #[.pointer (some ⟨X, 0, none⟩)] w fun e w' => e = .returned (.int .i64 x) ∧ w = w' := by
  go_enter Try.func10, Try.ntmps10
  go_wp2_with (go_at_call 16; refine (load_any ⟨X, 0, none⟩ x _ hc).mono ?_; rintro e w' ⟨rfl, rfl⟩)
  go_ret
  exact ⟨rfl, rfl⟩
theorem high_any (X : Nat) (x : Int) (w : World) (hc : w.cell? ⟨X, 1, none⟩ = some (.int .i64 x)) : Calls Try.prog 11 #[.pointer (some ⟨X, 0, none⟩)] w fun e w' => e = .returned (.int .i64 x) ∧ w = w' := by
  go_enter Try.func11, Try.ntmps11
  go_wp2_with (go_at_call 16; refine (load_any ⟨X, 1, none⟩ x _ hc).mono ?_; rintro e w' ⟨rfl, rfl⟩)
  go_ret
  exact ⟨rfl, rfl⟩
theorem ticks_any (X : Nat) (x : Int) (w : World) (hc : w.cell? ⟨X, 2, none⟩ = some (.int .i64 x)) : Calls Try.prog 12 #[.pointer (some ⟨X, 0, none⟩)] w fun e w' => e = .returned (.int .i64 x) ∧ w = w' := by
  go_enter Try.func12, Try.ntmps12
  go_wp2_with (go_at_call 16; refine (load_any ⟨X, 2, none⟩ x _ hc).mono ?_; rintro e w' ⟨rfl, rfl⟩)
  go_ret
  exact ⟨rfl, rfl⟩
theorem last_nil (w : World) : Calls Try.prog 10 #[.pointer none] w fun e w' => e = .returned (.int .i64 0) ∧ w = w' := by
  go_enter Try.func10, Try.ntmps10
  go_wp2
  go_ret
  exact ⟨rfl, rfl⟩
theorem high_nil (w : World) : Calls Try.prog 11 #[.pointer none] w fun e w' => e = .returned (.int .i64 0) ∧ w = w' := by
  go_enter Try.func11, Try.ntmps11
  go_wp2
  go_ret
  exact ⟨rfl, rfl⟩
theorem ticks_nil (w : World) : Calls Try.prog 12 #[.pointer none] w fun e w' => e = .returned (.int .i64 0) ∧ w = w' := by
  go_enter Try.func12, Try.ntmps12
  go_wp2
  go_ret
  exact ⟨rfl, rfl⟩

/-- whole worlds of a law: the meter's block is the law's own -/
theorem j_tick {w0 w w' : World} {bs : List (Nat × Array Value)} {X : Nat} {cs cs' : Array Value} (h : J w0 w ((X, cs) :: bs)) (hX : w0.heap.size ≤ X) (hne : ∀ x ∈ bs, x.1 ≠ X) (ht : T w w' X cs') : J w0 w' ((X, cs') :: bs) := by
  refine ⟨⟨ht.by_.os.trans h.below.os, ht.by_.tape.trans h.below.tape, ht.by_.output.trans h.below.output, Nat.le_trans h.below.size ht.by_.size, fun i hi => (ht.by_.block i (Nat.lt_of_lt_of_le hi h.below.size) (by intro e; injection e with e; omega)).trans (h.below.block i hi)⟩, fun x hx => ?_⟩
  rcases List.mem_cons.1 hx with rfl | hx
  · exact ht.bx
  · have hb := h.at_ x (List.mem_cons_of_mem _ hx)
    exact hb.kept (ht.by_.block x.1 hb.lt (by intro e; injection e with e; exact hne x hx e))

end Go.Proofs.Ytnojenokeggpoaa.Mtr
