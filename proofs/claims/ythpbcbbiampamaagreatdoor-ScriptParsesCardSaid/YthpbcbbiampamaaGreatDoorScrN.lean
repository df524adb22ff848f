/- The layer is awake. -/
import Derived.Test.YthpbcbbiampamaaGreatDoorScrM
namespace Go.Proofs.YthpbcbbiampamaaGreatDoor.Scr
open Go.RowKit Go.Maps Go.Proofs.YthpbcbbiampamaaGreatDoor.ScrP Go.Proofs.YthpbcbbiampamaaGreatDoor.Box Go.Proofs.YthpbcbbiampamaaGreatDoor.Held Go.Proofs.YthpbcbbiampamaaGreatDoor.Sees Go.Proofs.YthpbcbbiampamaaGreatDoor.Jrn
set_option linter.unusedVariables false
set_option linter.unusedSimpArgs false
set_option maxRecDepth 100000

theorem Show_nil (w : World) : Calls Tryz.prog 15 #[.pointer none] w fun e w' => e = .returned (.string ByteArray.empty) ∧ w = w' := by
  go_enter Tryz.func15, Tryz.ntmps15
  go_wp2
  go_ret
  exact ⟨rfl, rfl⟩
def aw1 : By := [109, 97, 105, 110, 115, 32, 110, 111, 110, 101, 32, 48, 32, 48, 32, 99, 97, 108, 108, 32, 48, 32, 51]
def aw2 : By := [109, 97, 105, 110, 115, 32, 110, 111, 110, 101, 32, 48, 32, 48, 48]
def awt : T := ⟨true, false, 0, 0, [⟨1, 0, 3⟩]⟩
theorem awt_in : awt.In := ⟨by unfold awt In64; simp only; omega, by decide, fun e he => by unfold awt at he; rw [List.mem_singleton.1 he]; unfold E.In In64; simp only; omega⟩
theorem aw_put : put awt = aw1 := by
  unfold put ws hd4 awt
  simp only
  decide +kernel
theorem aw_pr1 : pr aw1 = (awt, 0) := by
  have h : prs aw1 = some awt := by rw [← aw_put]; exact (prs_put awt_in).trans (by rfl)
  unfold pr
  rw [if_neg (by decide), h]
theorem aw_pr2 : pr aw2 = (t0, 11) := by
  have h : prs aw2 = none := by decide +kernel
  unfold pr
  rw [if_neg (by decide), h]
theorem _root_.Go.Proofs.YthpbcbbiampamaaGreatDoor.Sees.Sees.on {W W' : World} {A : Option Addr} {xs : List Value} (h : Sees W W.heap.size A xs) (hb : Below W.heap.size W W') : Sees W' W'.heap.size A xs := (h.below hb (Nat.le_refl _)).more hb.size
theorem aw_ev {W : World} {B : Nat} {A : Option Addr} (h : Sees W B A (evc awt.es)) : ∃ b o, A = some ⟨b, o, none⟩ ∧ W.cell? ⟨b, o, none⟩ = some (.int .i64 1) ∧ W.cell? ⟨b, o + 1, none⟩ = some (.int .i64 0) ∧ W.cell? ⟨b, o + 2, none⟩ = some (.int .i64 3) := by
  rcases h with h | ⟨b, o, ha, _, hc⟩
  · cases h
  · exact ⟨b, o, ha, hc 0 _ rfl, hc 1 _ rfl, hc 2 _ rfl⟩
set_option maxHeartbeats 3200000 in
theorem awake_any (w : World) (hE : Env w) : Calls Tryz.prog 7 #[] w (Says w (.bool true)) := by
  have H1 := Parse_any aw1 (by decide) w hE
  have H2 : Hid (∀ W, Below w.heap.size w W → Calls Tryz.prog 11 #[.string (S aw2)] W (ParsePost aw2 W)) := Lib.hid fun W h => Parse_any aw2 (by decide) W (hE.next h)
  have H3 : Hid (∀ A c W, Below w.heap.size w W → Sees W W.heap.size A (evc awt.es) → Calls Tryz.prog 8 #[tv awt A 1 c] W (Says W (.string (S aw1)))) := Lib.hid fun A c W h hs => by
    have := Put_any awt A 1 c W awt_in rfl (by decide) hs (hE.next h)
    rwa [aw_put] at this
  have ht : ∀ A c, tv awt A 1 c = .agg #[.bool true, .bool false, .int .i64 0, .int .u64 0, .slice A 1 c] := fun A c => rfl
  have ht0 : ∀ A c, tv t0 A 0 c = .agg #[.bool false, .bool false, .int .i64 0, .int .u64 0, .slice A 0 c] := fun A c => rfl
  unfold ParsePost at H1 H2
  rw [aw_pr1] at H1
  rw [aw_pr2] at H2
  have HP1 : Hid (Calls Tryz.prog 11 #[.string ⟨#[109, 97, 105, 110, 115, 32, 110, 111, 110, 101, 32, 48, 32, 48, 32, 99, 97, 108, 108, 32, 48, 32, 51]⟩] w fun e w' => ∃ A c, e = .returned (.tuple #[.agg #[.bool true, .bool false, .int .i64 0, .int .u64 0, .slice A 1 c], .int .i64 0]) ∧ Hid (Below w.heap.size w w' ∧ Sees w' w'.heap.size A (evc awt.es) ∧ 1 ≤ c)) := Lib.hid H1
  have HP2 : Hid (∀ W, Below w.heap.size w W → Calls Tryz.prog 11 #[.string ⟨#[109, 97, 105, 110, 115, 32, 110, 111, 110, 101, 32, 48, 32, 48, 48]⟩] W fun e w' => ∃ A c, e = .returned (.tuple #[.agg #[.bool false, .bool false, .int .i64 0, .int .u64 0, .slice A 0 c], .int .i64 11]) ∧ Hid (Below W.heap.size W w' ∧ Sees w' w'.heap.size A (evc t0.es) ∧ 0 ≤ c)) := Lib.hid H2.out
  have HP3 : Hid (∀ A c W, Below w.heap.size w W → Sees W W.heap.size A (evc awt.es) → Calls Tryz.prog 8 #[.agg #[.bool true, .bool false, .int .i64 0, .int .u64 0, .slice A 1 c]] W (Says W (.string ⟨#[109, 97, 105, 110, 115, 32, 110, 111, 110, 101, 32, 48, 32, 48, 32, 99, 97, 108, 108, 32, 48, 32, 51]⟩))) := Lib.hid H3.out
  clear hE H1 H2 H3 ht ht0
  go_enter Tryz.func7, Tryz.ntmps7
  go_wp2_with (first
    | (go_at_call 11; refine HP1.out.mono ?_; clear HP1; rintro e w1 ⟨A1, m1, rfl, K1⟩; have hj1 : Hid (JS w [(w1.heap.size, #[.bool true, .bool false, .int .i64 0, .int .u64 0, .slice A1 1 m1])] (w1.alloc (.cells #[.bool true, .bool false, .int .i64 0, .int .u64 0, .slice A1 1 m1] 25))) := Lib.hid (J.push ⟨K1.out.1, fun x hx => by cases hx⟩ _ _); have hs1 := Lib.hid (K1.out.2.1.on (W' := w1.alloc (.cells #[.bool true, .bool false, .int .i64 0, .int .u64 0, .slice A1 1 m1] 25)) below_box); have hb1 := Lib.hid hj1.out.below; clear K1)
    | (go_at_call 11; refine (HP2.out _ hb1.out).mono ?_; clear HP2; rintro e w2 ⟨A2, m2, rfl, K2⟩; have hj2 : Hid (JS w [(w2.heap.size, #[.bool false, .bool false, .int .i64 0, .int .u64 0, .slice A2 0 m2]), (w1.heap.size, #[.bool true, .bool false, .int .i64 0, .int .u64 0, .slice A1 1 m1])] (w2.alloc (.cells #[.bool false, .bool false, .int .i64 0, .int .u64 0, .slice A2 0 m2] 25))) := Lib.hid (J.push (J.next hj1.out K2.out.1) _ _); have hs2 := Lib.hid ((hs1.out.on K2.out.1).on (W' := w2.alloc (.cells #[.bool false, .bool false, .int .i64 0, .int .u64 0, .slice A2 0 m2] 25)) below_box); have hs3 := Lib.hid hs2.out; clear K2 hs1 hb1; obtain ⟨c0, c1, c2, c3, c4⟩ := (hj2.out.bx 1 rfl).c5; obtain ⟨b, o, rfl, d0, d1, d2⟩ := aw_ev hs2.out)
    | (go_at_call 8; refine (HP3.out _ m1 _ hj2.out.below hs3.out).mono ?_; rintro e w3 ⟨rfl, hb3⟩; have hj3 := Lib.hid (J.next hj2.out hb3))
    | (go_at_call 15; refine (Show_nil _).mono ?_; rintro e w4 ⟨rfl, rfl⟩))
  go_ret
  exact ⟨rfl, hj3.out.below⟩
end Go.Proofs.YthpbcbbiampamaaGreatDoor.Scr
