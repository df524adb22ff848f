/- Contracts of phase's known, Name, May; the reference's Name, May. -/
import Derived.Test.YtdmihhjbbodjoaaDoorPhaP
import Derived.Test.YtdmihhjbbodjoaaDoorBox
import Derived.Test.YtdmihhjbbodjoaaDoorSees
import Derived.Laws.BitsAllLaws
namespace Go.Proofs.YtdmihhjbbodjoaaDoor.Pha
open Go.RowKit Go.Proofs.YtdmihhjbbodjoaaDoor.PhaP Go.Proofs.YtdmihhjbbodjoaaDoor.Sees Go.Proofs.YtdmihhjbbodjoaaDoor.Box
set_option linter.unusedVariables false
set_option maxRecDepth 100000

/-- a phase's name -/
def nm (j : Nat) : ByteArray := match j with
  | 0 => ⟨#[110, 111, 114, 109, 97, 108]⟩
  | 1 => ⟨#[115, 116, 97, 108, 108, 101, 100]⟩
  | 2 => ⟨#[114, 101, 99, 97, 108, 108]⟩
  | 3 => ⟨#[112, 97, 114, 107, 101, 100]⟩
  | 4 => ⟨#[115, 101, 114, 118, 105, 110, 103]⟩
  | 5 => ⟨#[111, 117, 116]⟩
  | _ => ⟨#[]⟩
/-- .. none of another number -/
def na (p : Int) : ByteArray := if kn p = true then nm p.toNat else ⟨#[]⟩
/-- the names lie in block 0, what may follow in block 1 -/
structure Lay (w : World) : Prop where
  lt : 1 < w.heap.size
  names : ∀ j, j < 6 → w.cell? ⟨0, j, none⟩ = some (.string (nm j))
  bits : ∀ j : Nat, j < 6 → w.cell? ⟨1, j, none⟩ = some (.int .u8 (tb j : Nat))
theorem Lay.next {w w' : World} (h : Lay w) (hb : Below w.heap.size w w') : Lay w' :=
  ⟨Nat.lt_of_lt_of_le h.lt hb.size, fun j hj => (hb.cell (p := ⟨0, j, none⟩) (by have := h.lt; show 0 < _; omega)).trans (h.names j hj), fun j hj => (hb.cell (p := ⟨1, j, none⟩) h.lt).trans (h.bits j hj)⟩

theorem known_any (p : Int) (w : World) : Calls Tryd.prog 18 #[.int .i64 p] w fun e w' => e = .returned (.bool (kn p)) ∧ w = w' := by
  by_cases h0 : 0 ≤ p
  · by_cases h1 : p < 6
    · rw [kn_iff.2 ⟨h0, h1⟩]
      go_enter Tryd.func18, Tryd.ntmps18
      go_wp2
      go_ret
      exact ⟨rfl, rfl⟩
    · rw [kn_no.2 (by omega)]
      go_enter Tryd.func18, Tryd.ntmps18
      go_wp2
      go_ret
      exact ⟨rfl, rfl⟩
  · rw [kn_no.2 (by omega)]
    go_enter Tryd.func18, Tryd.ntmps18
    go_wp2
    go_ret
    exact ⟨rfl, rfl⟩

theorem Name_any (p : Int) (w : World) (h : Lay w) : Calls Tryd.prog 9 #[.int .i64 p] w fun e w' => e = .returned (.string (na p)) ∧ w = w' := by
  have HK := Lib.hid fun W => known_any p W
  cases hk : kn p
  · rw [hk] at HK
    rw [show na p = ⟨#[]⟩ by unfold na; rw [hk]; rfl]
    clear h hk
    go_enter Tryd.func9, Tryd.ntmps9
    go_wp2_with (go_at_call 18; refine (HK.out _).mono ?_; rintro e w' ⟨rfl, rfl⟩)
    go_ret
    exact ⟨rfl, rfl⟩
  · rw [hk] at HK
    have c0 := h.names 0 (by decide)
    have c1 := h.names 1 (by decide)
    have c2 := h.names 2 (by decide)
    have c3 := h.names 3 (by decide)
    have c4 := h.names 4 (by decide)
    have c5 := h.names 5 (by decide)
    rw [show na p = nm p.toNat by unfold na; rw [if_pos hk]]
    clear h
    rcases kn_six hk with rfl | rfl | rfl | rfl | rfl | rfl
    all_goals
      clear hk
      go_enter Tryd.func9, Tryd.ntmps9
      go_wp2_with (go_at_call 18; refine (HK.out _).mono ?_; rintro e w' ⟨rfl, rfl⟩)
      go_ret
      exact ⟨rfl, rfl⟩

theorem shr_fin : ∀ x : Fin 6, ∀ y : Fin 6, (bits .and .u8 ((tb x.val : Int) / 2 ^ y.val) 1 == 1) = my x.val y.val := by decide +kernel

set_option maxHeartbeats 3200000 in
theorem May_any (a b : Int) (w : World) (h : Lay w) : Calls Tryd.prog 11 #[.int .i64 a, .int .i64 b] w fun e w' => e = .returned (.bool (my a b)) ∧ w = w' := by
  have HK := Lib.hid fun p W => known_any p W
  cases ha : kn a
  · rw [my_out (.inl ha)]
    have HA := Lib.hid (HK.out a)
    rw [ha] at HA
    clear h ha HK
    go_enter Tryd.func11, Tryd.ntmps11
    go_wp2_with (go_at_call 18; refine (HA.out _).mono ?_; rintro e w' ⟨rfl, rfl⟩)
    go_ret
    exact ⟨rfl, rfl⟩
  · cases hb : kn b
    · rw [my_out (.inr hb)]
      have HA := Lib.hid (HK.out a)
      have HB := Lib.hid (HK.out b)
      rw [ha] at HA
      rw [hb] at HB
      clear h ha hb HK
      go_enter Tryd.func11, Tryd.ntmps11
      go_wp2_with (first
        | (go_at_call 18; (with_reducible refine (HA.out _).mono ?_); rintro e w' ⟨rfl, rfl⟩)
        | (go_at_call 18; (with_reducible refine (HB.out _).mono ?_); rintro e w' ⟨rfl, rfl⟩))
      go_ret
      exact ⟨rfl, rfl⟩
    · have h1 := kn_iff.1 ha
      have h2 := kn_iff.1 hb
      obtain ⟨x, rfl⟩ : ∃ x : Nat, a = x := ⟨a.toNat, by omega⟩
      obtain ⟨y, rfl⟩ : ∃ y : Nat, b = y := ⟨b.toNat, by omega⟩
      have HA := Lib.hid (HK.out x)
      have HB := Lib.hid (HK.out y)
      rw [ha] at HA
      rw [hb] at HB
      have c0 := h.bits x (by omega)
      have HE := Lib.hid (shr_fin ⟨x, by omega⟩ ⟨y, by omega⟩)
      simp only at HE
      have hx : x < 6 := by omega
      generalize my x y = m at *
      generalize tb x = t at *
      clear h HK
      go_enter Tryd.func11, Tryd.ntmps11
      go_wp2_with (first
        | (go_at_call 18; (with_reducible refine (HA.out _).mono ?_); rintro e w' ⟨rfl, rfl⟩)
        | (go_at_call 18; (with_reducible refine (HB.out _).mono ?_); rintro e w' ⟨rfl, rfl⟩))
      go_ret
      exact ⟨ret_bool HE.out, rfl⟩

/-- the reference's -/
theorem rName_any (p : Int) (w : World) : Calls Tryd.prog 10 #[.int .i64 p] w (Says w (.string (na p))) := by
  cases hk : kn p
  · rw [show na p = ⟨#[]⟩ by unfold na; rw [hk]; rfl]
    have := kn_no.1 hk
    by_cases h0 : p < 0
    · clear hk this
      go_enter Tryd.func10, Tryd.ntmps10
      go_wp2
      go_ret
      exact ⟨rfl, below_box⟩
    · have h1 : 5 < p := by omega
      clear hk this
      go_enter Tryd.func10, Tryd.ntmps10
      go_wp2
      go_ret
      exact ⟨rfl, below_box⟩
  · rw [show na p = nm p.toNat by unfold na; rw [if_pos hk]]
    rcases kn_six hk with rfl | rfl | rfl | rfl | rfl | rfl
    all_goals
      clear hk
      go_enter Tryd.func10, Tryd.ntmps10
      go_wp2
      go_ret
      exact ⟨rfl, below_box⟩

set_option maxHeartbeats 6400000 in
theorem rMay_any (a b : Int) (w : World) : Calls Tryd.prog 12 #[.int .i64 a, .int .i64 b] w fun e w' => e = .returned (.bool (my a b)) ∧ w = w' := by
  cases ha : kn a
  · rw [my_out (.inl ha)]
    have := kn_no.1 ha
    by_cases h0 : a < 0
    · clear ha this
      go_enter Tryd.func12, Tryd.ntmps12
      go_wp2
      go_ret
      exact ⟨rfl, rfl⟩
    · have h1 : 5 < a := by omega
      clear ha this
      go_enter Tryd.func12, Tryd.ntmps12
      go_wp2
      go_ret
      exact ⟨rfl, rfl⟩
  · cases hb : kn b
    · rw [my_out (.inr hb)]
      have h1 := kn_iff.1 ha
      have h2 : ¬ a < 0 := by omega
      have h3 : ¬ 5 < a := by omega
      have := kn_no.1 hb
      by_cases h0 : b < 0
      · clear ha hb this h1
        go_enter Tryd.func12, Tryd.ntmps12
        go_wp2
        go_ret
        exact ⟨rfl, rfl⟩
      · have h4 : 5 < b := by omega
        clear ha hb this h1
        go_enter Tryd.func12, Tryd.ntmps12
        go_wp2
        go_ret
        exact ⟨rfl, rfl⟩
    · rcases kn_six ha with rfl | rfl | rfl | rfl | rfl | rfl
      all_goals
        rcases kn_six hb with rfl | rfl | rfl | rfl | rfl | rfl
        all_goals
          clear ha hb
          go_enter Tryd.func12, Tryd.ntmps12
          go_wp2
          go_ret
          exact ⟨ret_bool (by decide), rfl⟩
end Go.Proofs.YtdmihhjbbodjoaaDoor.Pha
