/- The reference's texts of numbers. -/
import Derived.Test.YthpbcbbiampamaaGreatDoorScrA
import Derived.Deep.QuietTactic
namespace Go.Proofs.YthpbcbbiampamaaGreatDoor.Scr
open Go.RowKit Go.Proofs.YthpbcbbiampamaaGreatDoor.ScrP Go.Proofs.YthpbcbbiampamaaGreatDoor.Box Go.Proofs.YthpbcbbiampamaaGreatDoor.Held
set_option linter.unusedVariables false

theorem conv1 (W : World) (c : UInt8) (z : Int) (hz : z = (c.toNat : Int)) : (convert 35 9 (.slice (some ⟨W.heap.size, 0, none⟩) 1 1)).run Tryz.prog (W.alloc (.cells #[.int .u8 z] 5)) = .ok (.string (S [c])) (W.alloc (.cells #[.int .u8 z] 5)) := by
  subst hz
  exact run_convert_bytes_back (P := Tryz.prog) (W.alloc (.cells #[.int .u8 (c.toNat : Int)] 5)) 35 9 5 ⟨W.heap.size, 0, none⟩ 1 [c] Tryz.underlying35 Tryz.underlying5 Tryz.underlying9 (fun j hj => by
    have : j = 0 := by simpa using hj
    subst this
    rw [Lib.add_plain, World.cell?_alloc_new]; rfl)

/-- what is left of a number, and the digits behind it -/
def Tl (u m : Nat) (x : By) : Prop := (m = 0 ∧ x = Lib.decDigits u) ∨ (0 < m ∧ Lib.decDigits m ++ x = Lib.decDigits u)
theorem Tl.next {u m : Nat} {x : By} (h : Tl u m x) (hm : 0 < m) : Tl u (m / 10) ([UInt8.ofNat (48 + m % 10)] ++ x) := by
  rcases h with ⟨h, _⟩ | ⟨_, h⟩
  · omega
  · by_cases h10 : m < 10
    · left
      rw [Lib.decDigits_one h10] at h
      exact ⟨by omega, by rw [show m % 10 = m by omega]; exact h⟩
    · right
      rw [dec_big h10] at h
      exact ⟨by omega, by rw [← h]; simp⟩
theorem Tl.len {u m : Nat} {x : By} (h : Tl u m x) (hu : u < 18446744073709551616) : x.length ≤ 20 := by
  have h20 := Lib.nDigits_le20 u hu
  rw [← Lib.decDigits_length] at h20
  rcases h with ⟨_, h⟩ | ⟨_, h⟩
  · rw [h]; exact h20
  · rw [← h, List.length_append] at h20; omega

set_option maxHeartbeats 1600000 in
theorem rUns_any (u : Nat) (hu : u < 18446744073709551616) (w : World) : Calls Tryz.prog 23 #[.int .u64 u] w (Says w (.string (S (Lib.decDigits u)))) := by
  by_cases h0 : u = 0
  · subst h0
    go_enter Tryz.func23, Tryz.ntmps23
    go_wp2
    go_ret
    refine ⟨?_, Below.refl _ _⟩
    rw [Lib.decDigits_one (by decide)]; rfl
  · have hT : Hid (Tl u u []) := Lib.hid (.inr ⟨by omega, by simp⟩)
    have n0 : ¬ (u : Int) = 0 := by omega
    have HU := Lib.hid hu
    go_enter Tryz.func23, Tryz.ntmps23
    go_wp2
    go_loopw [0, 3] (fun n s wr => ∃ (m : Nat) (x : By), n = .int .u64 m ∧ s = .string (S x) ∧ m ≤ u ∧ Hid (Tl u m x) ∧ Below w.heap.size w wr)
      (fun n _ _ => (intOf n).toNat)
    case atStart => exact ⟨u, [], rfl, rfl, Nat.le_refl _, hT, Below.refl _ _⟩
    case round =>
      obtain ⟨m, x, rfl, rfl, hmu, hTm, hbel⟩ := hrel
      by_cases hm : 0 < m
      · have hx := hTm.out.len HU.out
        have hN := Lib.hid (hTm.out.next hm)
        have hz : ((48 : Int) + (m : Int) % 10) = ((UInt8.ofNat (48 + m % 10)).toNat : Int) := by rw [chr_toNat (Nat.mod_lt _ (by decide))]; omega
        have i1 : (0 : Int) < (m : Int) := by omega
        have i2 : (0 : Int) ≤ (m : Int) % 10 ∧ (m : Int) % 10 ≤ 9 := by omega
        have w1 : IntKind.u64.wrap (48 + (m : Int) % 10) = 48 + (m : Int) % 10 := by rw [IntKind.wrap_u64]; omega
        have w2 : IntKind.u8.wrap (48 + (m : Int) % 10) = 48 + (m : Int) % 10 := by rw [IntKind.wrap_u8]; omega
        have kc := conv1 wr (UInt8.ofNat (48 + m % 10)) (48 + (m : Int) % 10) hz
        have ka : ∀ W, (Op.stringOp .add (S [UInt8.ofNat (48 + m % 10)]) (S x)).run Tryz.prog W = .ok (.string (S ([UInt8.ofNat (48 + m % 10)] ++ x))) W := fun W => run_add W _ _ (by simp; omega)
        have hq : (m : Int) / 10 = ((m / 10 : Nat) : Int) := by omega
        have HQ := Lib.hid hq
        clear hq hz
        generalize hs : S ([UInt8.ofNat (48 + m % 10)] ++ x) = s2 at *
        generalize hs1 : S [UInt8.ofNat (48 + m % 10)] = s1 at *
        have HS := Lib.hid hs
        have HN := Lib.hid (hTm.out.next hm)
        clear hs hs1
        go_wp2
        go_roundw
        case rel => exact ⟨m / 10, _, by rw [HQ.out], by rw [← HS.out], by omega, HN, hbel.alloc hbel.size _⟩
        case measure => simp [intOf]; omega
      · have i0 : ¬ (0 : Int) < (m : Int) := by omega
        go_wp2
        go_ret
        rcases hTm.out with ⟨_, h⟩ | ⟨h, _⟩
        · exact ⟨by rw [h]; rfl, hbel⟩
        · omega
theorem rNumber_any (n : Int) (h : In64 n) (w : World) : Calls Tryz.prog 22 #[.int .i64 n] w (Says w (.string (S (Lib.itoa n)))) := by
  obtain ⟨h0, h1⟩ := h
  by_cases hn : n < 0
  · obtain ⟨u, rfl, hu⟩ : ∃ u : Nat, n = -(u : Int) ∧ 1 ≤ u := ⟨n.natAbs, by omega, by omega⟩
    have H := Lib.hid (fun W => rUns_any u (by omega) W)
    have e1 : IntKind.i64.wrap (-(u : Int) + 1) = -(u : Int) + 1 := IntWalk.i64_in _ (by omega)
    have e2 : IntKind.i64.wrap (-(-(u : Int) + 1)) = (u : Int) - 1 := by rw [IntWalk.i64_in _ (by omega)]; omega
    have e3 : IntKind.u64.wrap ((u : Int) - 1) = (u : Int) - 1 := by rw [IntKind.wrap_u64]; omega
    have e4 : IntKind.u64.wrap ((u : Int) - 1 + 1) = (u : Int) := by rw [IntKind.wrap_u64]; omega
    have hl : (Lib.decDigits u).length ≤ 20 := by rw [Lib.decDigits_length]; exact Lib.nDigits_le20 u (by omega)
    have ka : ∀ W, (Op.stringOp .add ⟨#[45]⟩ (S (Lib.decDigits u))).run Tryz.prog W = .ok (.string (S (Lib.itoa (-(u : Int))))) W := fun W => by
      rw [itoa_neg' hu]
      exact run_add W [45] _ (by simp; omega)
    generalize S (Lib.itoa (-(u : Int))) = s at *
    generalize S (Lib.decDigits u) = t at *
    go_enter Tryz.func22, Tryz.ntmps22
    go_wp2_with (go_at_call 23; refine (H.out _).mono ?_; rintro e w' ⟨rfl, h⟩)
    go_ret
    exact ⟨rfl, h⟩
  · obtain ⟨u, rfl⟩ : ∃ u : Nat, n = u := ⟨n.toNat, by omega⟩
    rw [itoa_pos]
    have H := Lib.hid (fun W => rUns_any u (by omega) W)
    have e3 : IntKind.u64.wrap (u : Int) = (u : Int) := by rw [IntKind.wrap_u64]; omega
    generalize S (Lib.decDigits u) = t at *
    go_enter Tryz.func22, Tryz.ntmps22
    go_wp2_with (go_at_call 23; refine (H.out _).mono ?_; rintro e w' ⟨rfl, h⟩)
    go_ret
    exact ⟨rfl, h⟩
/-- a kind's word, and what it has -/
theorem rKind_any (k : Int) (w : World) : Calls Tryz.prog 14 #[.int .i64 k] w fun e w' => e = .returned (.tuple #[.string (S (kw k).1), .bool (kw k).2.1, .bool (kw k).2.2]) ∧ w = w' := by
  by_cases h : 0 ≤ k ∧ k ≤ 6
  · have : k = 0 ∨ k = 1 ∨ k = 2 ∨ k = 3 ∨ k = 4 ∨ k = 5 ∨ k = 6 := by omega
    rcases this with rfl | rfl | rfl | rfl | rfl | rfl | rfl
    all_goals
      go_enter Tryz.func14, Tryz.ntmps14
      go_wp2
      refine bodyPost_ret (v := _) (by simp [results, Tryz.results14, go_sem]; first | exact ⟨rfl, rfl, rfl⟩ | rfl) rfl ⟨rfl, rfl⟩
  · rw [kw_no h]
    have n0 : ¬ k = 0 := by omega
    have n1 : ¬ k = 1 := by omega
    have n2 : ¬ k = 2 := by omega
    have n3 : ¬ k = 3 := by omega
    have n4 : ¬ k = 4 := by omega
    have n5 : ¬ k = 5 := by omega
    have n6 : ¬ k = 6 := by omega
    go_enter Tryz.func14, Tryz.ntmps14
    go_wp2
    refine bodyPost_ret (v := _) (by simp [results, Tryz.results14, go_sem]; first | exact ⟨rfl, rfl, rfl⟩ | rfl) rfl ⟨rfl, rfl⟩
end Go.Proofs.YthpbcbbiampamaaGreatDoor.Scr
