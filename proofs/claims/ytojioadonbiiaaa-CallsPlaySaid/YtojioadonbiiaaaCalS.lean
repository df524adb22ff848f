/- The reference of layer 22: Next. -/
import Derived.Test.YtojioadonbiiaaaCalR
import Derived.LoopN
namespace Go.Proofs.Ytojioadonbiiaaa.Cal
open Go.RowKit Go.Proofs.Ytojioadonbiiaaa.CalP Go.Proofs.Ytojioadonbiiaaa.Box Go.Proofs.Ytojioadonbiiaaa.Held
set_option linter.unusedVariables false

/-- best of the first k floors -/
def bk (b : Nat) (p : Int) (k : Nat) : Int × Int := (fk b k).foldl (nst p) (-1, 0)
theorem bk_all (b : Nat) (p : Int) : (bk b p 32).1 = nr b p := by unfold bk nr; rw [fk_all]
theorem bk_succ (b : Nat) (p : Int) {k : Nat} (h : k < 32) : bk b p (k + 1) = if hb b k = true then nst p (bk b p k) k else bk b p k := by
  unfold bk
  rw [fk_succ b h]
  split
  · simp
  · rfl
theorem bk_ok (b : Nat) (p : Int) (k : Nat) : bk b p k = (-1, 0) ∨ (0 ≤ (bk b p k).1 ∧ (bk b p k).2 = wy (bk b p k).1 p) :=
  (nst_all p (fk b k) (-1, 0) (fun x hx => fl_ge b x ((fk_prefix b k).subset hx)) (.inl rfl)).2.1
theorem bk_ge (b : Nat) (p : Int) (k : Nat) : -1 ≤ (bk b p k).1 := by
  rcases bk_ok b p k with h | h
  · rw [h]; decide
  · omega
/-- lowest of the first k -/
def lk (b k : Nat) : Int := (fk b k).headD (-1)
theorem lk_succ (b : Nat) {k : Nat} (h : k < 32) (h0 : lk b k = -1) : lk b (k + 1) = if hb b k = true then (k : Int) else -1 := by
  have hn : fk b k = [] := by
    unfold lk at h0
    cases e : fk b k with
    | nil => rfl
    | cons x l =>
      have := fl_ge b x ((fk_prefix b k).subset (by rw [e]; exact List.mem_cons_self))
      rw [e] at h0
      simp at h0
      omega
  unfold lk
  rw [fk_succ b h, hn]
  split <;> rfl
theorem lk_all (b : Nat) : lk b 32 = low b := by unfold lk low; rw [fk_all]
theorem lk_found {b k : Nat} (h : lk b k ≠ -1) : low b = lk b k := by
  obtain ⟨t, ht⟩ := fk_prefix b k
  unfold lk at h ⊢
  unfold low
  rw [← ht]
  cases e : fk b k with
  | nil => rw [e] at h; exact absurd rfl h
  | cons x l => rfl
theorem lk_ge (b k : Nat) : -1 ≤ lk b k := by
  unfold lk
  cases e : fk b k with
  | nil => decide
  | cons x l =>
    have := fl_ge b x ((fk_prefix b k).subset (by rw [e]; exact List.mem_cons_self))
    simp; omega
/-- what the reference tells -/
def rnx (b hs : Nat) (p : Int) : Int := if nr b p = -1 then low hs else nr b p

set_option maxHeartbeats 3200000 in
theorem rcNext_any (b hs : Nat) (p : Int) (hbl : b < 4294967296) (hhl : hs < 4294967296) (hp : 0 ≤ p ∧ p ≤ 248) (w : World) : Calls Try.prog 17 #[.int .u32 b, .int .u32 hs, .int .i64 p] w fun e w' => e = .returned (.int .i64 (rnx b hs p)) ∧ w = w' := by
  have HH : Hid (∀ (f : Int) W, Calls Try.prog 19 #[.int .u32 b, .int .i64 f] W fun e w' => e = .returned (.bool (hb b f)) ∧ W = w') := Lib.hid fun f W => rcHas_any b f W hbl
  have HS : Hid (∀ (f : Int) W, Calls Try.prog 19 #[.int .u32 hs, .int .i64 f] W fun e w' => e = .returned (.bool (hb hs f)) ∧ W = w') := Lib.hid fun f W => rcHas_any hs f W hhl
  go_enter Try.func17, Try.ntmps17
  go_wp2
  go_loop [7, 8, 9, 10, 11] (fun x y i d is => ∃ (k : Nat) (q z : Int), i = .int .i64 k ∧ k ≤ 32 ∧ x = .int .i64 q ∧ y = .int .i64 z ∧ -1 ≤ q ∧ Hid (bk b p k = (q, z))) (fun _ _ i _ _ => 32 - (intOf i).toNat)
  case atStart => exact ⟨0, -1, 0, rfl, Nat.zero_le _, rfl, rfl, by decide, Lib.hid rfl⟩
  case round =>
    obtain ⟨k, q, z, rfl, hk, rfl, rfl, hq, hB⟩ := hrel
    by_cases hlt : k < 32
    · have i1 : (k : Int) < 32 := by omega
      have HF := Lib.hid (bk_succ b p hlt)
      have hge := bk_ge b p (k + 1)
      have HX := Lib.hid (HH.out (k : Int))
      have e1 : IntKind.i64.wrap ((k : Int) + 1) = ((k + 1 : Nat) : Int) := by rw [IntWalk.i64_in _ (by omega)]; rfl
      have e2 : IntKind.i64.wrap (8 * (k : Int)) = 8 * (k : Int) := IntWalk.i64_in _ (by omega)
      have HST : Hid (nst p (bk b p k) k = if q = -1 ∨ wy k p < z then ((k : Int), wy k p) else (q, z)) := Lib.hid (by rw [hB.out]; rfl)
      obtain ⟨d, hd⟩ : ∃ d, wy k p = d := ⟨_, rfl⟩
      rw [hd] at HST
      -- how far
      have hway : (∃ g : Int, 8 * (k : Int) - p = g ∧ ¬ g < 0 ∧ d = g) ∨ (∃ g : Int, 8 * (k : Int) - p = g ∧ g < 0 ∧ d = -g) := by
        unfold wy at hd
        by_cases hg : 8 * (k : Int) - p < 0
        · exact .inr ⟨_, rfl, hg, by omega⟩
        · exact .inl ⟨_, rfl, hg, by omega⟩
      rcases hway with ⟨g, hg, hn, hdg⟩ | ⟨g, hg, hn, hdg⟩
      · have e3 : IntKind.i64.wrap (8 * (k : Int) - p) = g := by rw [hg]; exact IntWalk.i64_in _ (by omega)
        subst hdg
        clear hg hd
        cases hh : hb b k
        · have HK : Hid (bk b p (k + 1) = (q, z)) := Lib.hid (by rw [HF.out, hh, if_neg (by decide)]; exact hB.out)
          rw [hh] at HX
          clear hh HF HST HH HS hge
          go_wp2_with (go_at_call 19; refine (HX.out _).mono ?_; rintro e w' ⟨rfl, rfl⟩)
          go_round
          case rel => exact ⟨k + 1, q, z, rfl, by omega, rfl, rfl, hq, HK⟩
          case measure => simp [intOf]; omega
        · rw [hh] at HX
          have HK0 : Hid (bk b p (k + 1) = nst p (bk b p k) k) := Lib.hid (by rw [HF.out, hh, if_pos rfl])
          clear hh HF
          by_cases hq0 : q < 0
          · have HK : Hid (bk b p (k + 1) = ((k : Int), d)) := Lib.hid (by rw [HK0.out, HST.out, if_pos (.inl (by omega))])
            clear HK0 HST HH HS hge
            go_wp2_with (go_at_call 19; refine (HX.out _).mono ?_; rintro e w' ⟨rfl, rfl⟩)
            go_round
            case rel => exact ⟨k + 1, k, d, rfl, by omega, rfl, rfl, by omega, HK⟩
            case measure => simp [intOf]; omega
          · by_cases hdz : d < z
            · have HK : Hid (bk b p (k + 1) = ((k : Int), d)) := Lib.hid (by rw [HK0.out, HST.out, if_pos (.inr hdz)])
              clear HK0 HST HH HS hge
              go_wp2_with (go_at_call 19; refine (HX.out _).mono ?_; rintro e w' ⟨rfl, rfl⟩)
              go_round
              case rel => exact ⟨k + 1, k, d, rfl, by omega, rfl, rfl, by omega, HK⟩
              case measure => simp [intOf]; omega
            · have HK : Hid (bk b p (k + 1) = (q, z)) := Lib.hid (by rw [HK0.out, HST.out, if_neg (by omega)])
              clear HK0 HST HH HS hge
              go_wp2_with (go_at_call 19; refine (HX.out _).mono ?_; rintro e w' ⟨rfl, rfl⟩)
              go_round
              case rel => exact ⟨k + 1, q, z, rfl, by omega, rfl, rfl, hq, HK⟩
              case measure => simp [intOf]; omega
      · have e3 : IntKind.i64.wrap (8 * (k : Int) - p) = g := by rw [hg]; exact IntWalk.i64_in _ (by omega)
        have e4 : IntKind.i64.wrap (-g) = d := by rw [hdg]; exact IntWalk.i64_in _ (by omega)
        clear hg hdg hd
        cases hh : hb b k
        · have HK : Hid (bk b p (k + 1) = (q, z)) := Lib.hid (by rw [HF.out, hh, if_neg (by decide)]; exact hB.out)
          rw [hh] at HX
          clear hh HF HST HH HS hge
          go_wp2_with (go_at_call 19; refine (HX.out _).mono ?_; rintro e w' ⟨rfl, rfl⟩)
          go_round
          case rel => exact ⟨k + 1, q, z, rfl, by omega, rfl, rfl, hq, HK⟩
          case measure => simp [intOf]; omega
        · rw [hh] at HX
          have HK0 : Hid (bk b p (k + 1) = nst p (bk b p k) k) := Lib.hid (by rw [HF.out, hh, if_pos rfl])
          clear hh HF
          by_cases hq0 : q < 0
          · have HK : Hid (bk b p (k + 1) = ((k : Int), d)) := Lib.hid (by rw [HK0.out, HST.out, if_pos (.inl (by omega))])
            clear HK0 HST HH HS hge
            go_wp2_with (go_at_call 19; refine (HX.out _).mono ?_; rintro e w' ⟨rfl, rfl⟩)
            go_round
            case rel => exact ⟨k + 1, k, d, rfl, by omega, rfl, rfl, by omega, HK⟩
            case measure => simp [intOf]; omega
          · by_cases hdz : d < z
            · have HK : Hid (bk b p (k + 1) = ((k : Int), d)) := Lib.hid (by rw [HK0.out, HST.out, if_pos (.inr hdz)])
              clear HK0 HST HH HS hge
              go_wp2_with (go_at_call 19; refine (HX.out _).mono ?_; rintro e w' ⟨rfl, rfl⟩)
              go_round
              case rel => exact ⟨k + 1, k, d, rfl, by omega, rfl, rfl, by omega, HK⟩
              case measure => simp [intOf]; omega
            · have HK : Hid (bk b p (k + 1) = (q, z)) := Lib.hid (by rw [HK0.out, HST.out, if_neg (by omega)])
              clear HK0 HST HH HS hge
              go_wp2_with (go_at_call 19; refine (HX.out _).mono ?_; rintro e w' ⟨rfl, rfl⟩)
              go_round
              case rel => exact ⟨k + 1, q, z, rfl, by omega, rfl, rfl, hq, HK⟩
              case measure => simp [intOf]; omega
    · obtain rfl : k = 32 := by omega
      have hq1 : q = nr b p := by rw [← bk_all, hB.out]
      by_cases hy : q = -1
      · have hr : rnx b hs p = low hs := by unfold rnx; rw [if_pos (by rw [← hq1]; exact hy)]
        have HR := Lib.hid hr
        subst hy
        clear hq1 hr hB HH
        go_wp2
        go_loop [7, 12, 13] (fun x i is => ∃ (k : Nat) (t : Int), i = .int .i64 k ∧ k ≤ 32 ∧ x = .int .i64 t ∧ -1 ≤ t ∧ Hid (lk hs k = t)) (fun _ i _ => 32 - (intOf i).toNat)
        case atStart => exact ⟨0, -1, rfl, Nat.zero_le _, rfl, by decide, Lib.hid rfl⟩
        case round =>
          obtain ⟨k, t, rfl, hk, rfl, ht, hT⟩ := hrel
          by_cases hlt : k < 32
          · have i1 : (k : Int) < 32 := by omega
            by_cases ht0 : t < 0
            · have HF := Lib.hid (lk_succ hs hlt (by rw [hT.out]; omega))
              have HX := Lib.hid (HS.out (k : Int))
              have e1 : IntKind.i64.wrap ((k : Int) + 1) = ((k + 1 : Nat) : Int) := by rw [IntWalk.i64_in _ (by omega)]; rfl
              cases hh : hb hs k
              · have HK : Hid (lk hs (k + 1) = t) := Lib.hid (by rw [HF.out, hh, if_neg (by decide)]; omega)
                rw [hh] at HX
                clear hh HF HS
                go_wp2_with (go_at_call 19; refine (HX.out _).mono ?_; rintro e w' ⟨rfl, rfl⟩)
                go_round
                case rel => exact ⟨k + 1, t, rfl, by omega, rfl, ht, HK⟩
                case measure => simp [intOf]; omega
              · have HK : Hid (lk hs (k + 1) = k) := Lib.hid (by rw [HF.out, hh, if_pos rfl])
                rw [hh] at HX
                clear hh HF HS
                go_wp2_with (go_at_call 19; refine (HX.out _).mono ?_; rintro e w' ⟨rfl, rfl⟩)
                go_round
                case rel => exact ⟨k + 1, k, rfl, by omega, rfl, by omega, HK⟩
                case measure => simp [intOf]; omega
            · have HE : Hid (rnx b hs p = t) := Lib.hid (by rw [HR.out, lk_found (by rw [hT.out]; omega), hT.out])
              clear HR hT HS
              go_wp2
              go_ret
              exact ⟨ret_int (by rw [HE.out]), rfl⟩
          · obtain rfl : k = 32 := by omega
            have HE : Hid (rnx b hs p = t) := Lib.hid (by rw [HR.out, ← lk_all, hT.out])
            clear HR hT HS
            go_wp2
            go_ret
            exact ⟨ret_int (by rw [HE.out]), rfl⟩
      · have hr : Hid (rnx b hs p = q) := Lib.hid (by unfold rnx; rw [if_neg (by rw [← hq1]; exact hy)]; exact hq1.symm)
        have hq2 : ¬ q < 0 := by omega
        clear hq1 hB HH HS
        go_wp2
        go_loop [7, 12, 13] (fun x i is => i = .int .i64 0 ∧ x = .int .i64 q) (fun _ i _ => 0)
        case atStart => exact ⟨rfl, rfl⟩
        case round =>
          obtain ⟨rfl, rfl⟩ := hrel
          go_wp2
          go_ret
          exact ⟨ret_int (by rw [hr.out]), rfl⟩
end Go.Proofs.Ytojioadonbiiaaa.Cal
