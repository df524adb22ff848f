/- The reference's Fits. -/
import Derived.Test.YthgfjikhbgippaaDoorPhaA0
import Derived.LoopN
namespace Go.Proofs.YthgfjikhbgippaaDoor.Pha
open Go.RowKit Go.Proofs.YthgfjikhbgippaaDoor.Plain Go.Proofs.YthgfjikhbgippaaDoor.PhaP Go.Proofs.YthgfjikhbgippaaDoor.Sees Go.Proofs.YthgfjikhbgippaaDoor.Box
set_option linter.unusedVariables false
set_option maxRecDepth 100000

/-- what number i has seen of the first k -/
def Saw (l : List Int) (i : Nat) (x : Int) (k : Nat) : Prop := ∀ (j : Nat) (y : Int), j < k → l[j]? = some y → (i ≠ j → gn x = true → gn y = true → False) ∧ (x = 0 → qt y = true)
theorem Saw.next {l : List Int} {i : Nat} {x : Int} {k : Nat} {y : Int} (h : Saw l i x k) (hy : l[k]? = some y) (h1 : i ≠ k → gn x = true → gn y = true → False) (h2 : x = 0 → qt y = true) : Saw l i x (k + 1) := by
  intro j z hj hz
  by_cases e : j = k
  · subst e
    obtain rfl : y = z := Option.some.inj (hy.symm.trans hz)
    exact ⟨h1, h2⟩
  · exact h j z (by omega) hz

/-- the ways of a round -/
theorem ways (i k : Nat) (x y : Int) (hxy : i = k → x = y) :
    (i = k ∧ x ≠ 0) ∨ (i = k ∧ x = 0) ∨ (i ≠ k ∧ x = 2 ∧ y = 2) ∨ (i ≠ k ∧ x = 2 ∧ y = 4) ∨ (i ≠ k ∧ x = 4 ∧ y = 2) ∨ (i ≠ k ∧ x = 4 ∧ y = 4) ∨
    (i ≠ k ∧ x = 2 ∧ y ≠ 2 ∧ y ≠ 4) ∨ (i ≠ k ∧ x = 4 ∧ y ≠ 2 ∧ y ≠ 4) ∨ (i ≠ k ∧ x = 0 ∧ y = 0) ∨ (i ≠ k ∧ x = 0 ∧ y = 5) ∨ (i ≠ k ∧ x = 0 ∧ y ≠ 0 ∧ y ≠ 5) ∨ (i ≠ k ∧ x ≠ 2 ∧ x ≠ 4 ∧ x ≠ 0) := by
  by_cases h : i = k
  · by_cases a : x = 0 <;> simp [h, a]
  · by_cases a : x = 2
    · subst a
      by_cases b : y = 2
      · simp [h, b]
      · by_cases c : y = 4 <;> simp [h, b, c]
    · by_cases a2 : x = 4
      · subst a2
        by_cases b : y = 2
        · simp [h, b]
        · by_cases c : y = 4 <;> simp [h, b, c]
      · by_cases a3 : x = 0
        · subst a3
          by_cases b : y = 0
          · simp [h, b]
          · by_cases c : y = 5 <;> simp [h, b, c]
        · simp [h, a, a2, a3]

set_option maxHeartbeats 6400000 in
theorem rFits_any (l : List Int) (A : Option Addr) (n c : Nat) (w : World) (hl : l.length = n) (hn : n ≤ 1000) (hs : Sees w w.heap.size A (nums .i64 l)) : Calls Tryd.prog 19 #[.slice A n c] w fun e w' => e = .returned (.bool (ft l)) ∧ w = w' := by
  have HL := Lib.hid hl
  have HS := Lib.hid hs
  have HN := Lib.hid hn
  obtain ⟨v, hv⟩ : ∃ v, ft l = v := ⟨_, rfl⟩
  rw [hv]
  have HV := Lib.hid hv
  clear hs hl hv
  go_enter Tryd.func19, Tryd.ntmps19
  go_wp2
  go_loop [3] (fun a => ∃ i : Nat, a = .int .i64 i ∧ i ≤ n ∧ Hid (∀ (j : Nat) (x : Int), j < i → l[j]? = some x → kn x = true ∧ Saw l j x n)) (fun a => n - (intOf a).toNat)
  case atStart => exact ⟨0, rfl, Nat.zero_le _, Lib.hid fun j x hj => by omega⟩
  case round =>
    obtain ⟨i, rfl, hi, hM⟩ := hrel
    by_cases hlt : i < n
    · obtain ⟨x, hx⟩ : ∃ x, l[i]? = some x := ⟨_, List.getElem?_eq_getElem (by rw [HL.out]; omega)⟩
      obtain ⟨b, o, rfl, hb, hc⟩ := HS.out.at_ (k := i) (u := .int .i64 x) (by simp [nums, hx])
      have HX := Lib.hid hx
      have i1 : (i : Int) < (n : Int) := by omega
      have e3 : IntKind.i64.wrap ((i : Int) + 1) = ((i + 1 : Nat) : Int) := by rw [IntWalk.i64_in _ (by have := HN.out; omega)]; rfl
      cases hk : kn x
      · have HE := Lib.hid (HV.out.symm.trans (ft_unknown (List.mem_of_getElem? HX.out) hk))
        have := kn_no.1 hk
        by_cases h0 : x < 0
        · clear hk this hx hn
          go_wp2
          try rw [Exit.noGoto_ret]
          go_ret
          exact ⟨ret_bool HE.out.symm, rfl⟩
        · have h1 : 5 < x := by omega
          clear hk this hx hn
          go_wp2
          try rw [Exit.noGoto_ret]
          go_ret
          exact ⟨ret_bool HE.out.symm, rfl⟩
      · have hk6 := kn_iff.1 hk
        have HK := Lib.hid hk
        have g0 : ¬ x < 0 := by omega
        have g5 : ¬ 5 < x := by omega
        clear hk hk6 hx hn
        go_wp2
        go_loop [4] (fun a => ∃ k : Nat, a = .int .i64 k ∧ k ≤ n ∧ Hid (Saw l i x k)) (fun a => n - (intOf a).toNat)
        case atStart => exact ⟨0, rfl, Nat.zero_le _, Lib.hid fun j y hj => by omega⟩
        case round =>
          obtain ⟨k, rfl, hkn, hW⟩ := hrel
          by_cases hlt2 : k < n
          · obtain ⟨y, hy⟩ : ∃ y, l[k]? = some y := ⟨_, List.getElem?_eq_getElem (by rw [HL.out]; omega)⟩
            obtain ⟨b2, o2, hab, hb2, hc2⟩ := HS.out.at_ (k := k) (u := .int .i64 y) (by simp [nums, hy])
            have := Option.some.inj hab
            injection this with hb' ho'
            subst hb' ho'
            have HY := Lib.hid hy
            have i2 : (k : Int) < (n : Int) := by omega
            have e4 : IntKind.i64.wrap ((k : Int) + 1) = ((k + 1 : Nat) : Int) := by rw [IntWalk.i64_in _ (by have := HN.out; omega)]; rfl
            have hxy : i = k → x = y := fun e => by subst e; exact Option.some.inj (HX.out.symm.trans HY.out)
            clear hab hy
            have hways := ways i k x y hxy
            clear hxy
            rcases hways with ⟨h1, h2⟩ | ⟨h1, h2⟩ | ⟨h1, h2, h3⟩ | ⟨h1, h2, h3⟩ | ⟨h1, h2, h3⟩ | ⟨h1, h2, h3⟩ | ⟨h1, h2, h3, h4⟩ | ⟨h1, h2, h3, h4⟩ | ⟨h1, h2, h3⟩ | ⟨h1, h2, h3⟩ | ⟨h1, h2, h3, h4⟩ | ⟨h1, h2, h3, h4⟩
            · subst h1
              obtain rfl : x = y := Option.some.inj (HX.out.symm.trans HY.out)
              have k0 : (x == 0) = false := by simpa using h2
              have H2 := Lib.hid h2
              clear h2
              go_wp2
              go_round
              case rel => exact ⟨i + 1, rfl, by omega, Lib.hid (hW.out.next HY.out (fun h => absurd rfl h) (fun h => absurd h H2.out))⟩
              case measure => simp [intOf]; omega
            · subst h1
              obtain rfl : x = y := Option.some.inj (HX.out.symm.trans HY.out)
              subst h2
              go_wp2
              go_round
              case rel => exact ⟨i + 1, rfl, by omega, Lib.hid (hW.out.next HY.out (fun h => absurd rfl h) (fun _ => by decide))⟩
              case measure => simp [intOf]; omega
            · subst h2 h3
              have HE := Lib.hid (HV.out.symm.trans (pair_gn HX.out HY.out h1 (by decide) (by decide)))
              have k1 : ((i : Int) == (k : Int)) = false := by simp; omega
              have k2 : ((i : Int) != (k : Int)) = true := by simp; omega
              go_wp2
              try rw [Exit.noGoto_ret]
              go_ret
              exact ⟨ret_bool HE.out.symm, rfl⟩
            · subst h2 h3
              have HE := Lib.hid (HV.out.symm.trans (pair_gn HX.out HY.out h1 (by decide) (by decide)))
              have k1 : ((i : Int) == (k : Int)) = false := by simp; omega
              have k2 : ((i : Int) != (k : Int)) = true := by simp; omega
              go_wp2
              try rw [Exit.noGoto_ret]
              go_ret
              exact ⟨ret_bool HE.out.symm, rfl⟩
            · subst h2 h3
              have HE := Lib.hid (HV.out.symm.trans (pair_gn HX.out HY.out h1 (by decide) (by decide)))
              have k1 : ((i : Int) == (k : Int)) = false := by simp; omega
              have k2 : ((i : Int) != (k : Int)) = true := by simp; omega
              go_wp2
              try rw [Exit.noGoto_ret]
              go_ret
              exact ⟨ret_bool HE.out.symm, rfl⟩
            · subst h2 h3
              have HE := Lib.hid (HV.out.symm.trans (pair_gn HX.out HY.out h1 (by decide) (by decide)))
              have k1 : ((i : Int) == (k : Int)) = false := by simp; omega
              have k2 : ((i : Int) != (k : Int)) = true := by simp; omega
              go_wp2
              try rw [Exit.noGoto_ret]
              go_ret
              exact ⟨ret_bool HE.out.symm, rfl⟩
            · subst h2
              have k1 : ((i : Int) == (k : Int)) = false := by simp; omega
              have k2 : ((i : Int) != (k : Int)) = true := by simp; omega
              have k3 : (y == 2) = false := by simpa using h3
              have k4 : (y == 4) = false := by simpa using h4
              have hg : gn y = false := by unfold gn; rw [k3, k4]; rfl
              have HG := Lib.hid hg
              clear hg h3 h4
              go_wp2
              go_round
              case rel => exact ⟨k + 1, rfl, by omega, Lib.hid (hW.out.next HY.out (fun _ _ h => by rw [HG.out] at h; cases h) (fun h => by cases h))⟩
              case measure => simp [intOf]; omega
            · subst h2
              have k1 : ((i : Int) == (k : Int)) = false := by simp; omega
              have k2 : ((i : Int) != (k : Int)) = true := by simp; omega
              have k3 : (y == 2) = false := by simpa using h3
              have k4 : (y == 4) = false := by simpa using h4
              have hg : gn y = false := by unfold gn; rw [k3, k4]; rfl
              have HG := Lib.hid hg
              clear hg h3 h4
              go_wp2
              go_round
              case rel => exact ⟨k + 1, rfl, by omega, Lib.hid (hW.out.next HY.out (fun _ _ h => by rw [HG.out] at h; cases h) (fun h => by cases h))⟩
              case measure => simp [intOf]; omega
            · subst h2 h3
              have k1 : ((i : Int) == (k : Int)) = false := by simp; omega
              have k2 : ((i : Int) != (k : Int)) = true := by simp; omega
              go_wp2
              go_round
              case rel => exact ⟨k + 1, rfl, by omega, Lib.hid (hW.out.next HY.out (fun _ h => by cases h) (fun _ => by decide))⟩
              case measure => simp [intOf]; omega
            · subst h2 h3
              have k1 : ((i : Int) == (k : Int)) = false := by simp; omega
              have k2 : ((i : Int) != (k : Int)) = true := by simp; omega
              go_wp2
              go_round
              case rel => exact ⟨k + 1, rfl, by omega, Lib.hid (hW.out.next HY.out (fun _ h => by cases h) (fun _ => by decide))⟩
              case measure => simp [intOf]; omega
            · subst h2
              have k1 : ((i : Int) == (k : Int)) = false := by simp; omega
              have k2 : ((i : Int) != (k : Int)) = true := by simp; omega
              have k3 : (y == 0) = false := by simpa using h3
              have k4 : (y == 5) = false := by simpa using h4
              have k5 : (y != 0) = true := by simpa using h3
              have k6 : (y != 5) = true := by simpa using h4
              have HE := Lib.hid (HV.out.symm.trans (pair_qt HX.out HY.out (by unfold qt; rw [k3, k4]; rfl)))
              clear h3 h4
              go_wp2
              try rw [Exit.noGoto_ret]
              go_ret
              exact ⟨ret_bool HE.out.symm, rfl⟩
            · have k1 : ((i : Int) == (k : Int)) = false := by simp; omega
              have k2 : ((i : Int) != (k : Int)) = true := by simp; omega
              have k3 : (x == 2) = false := by simpa using h2
              have k4 : (x == 4) = false := by simpa using h3
              have k5 : (x == 0) = false := by simpa using h4
              have hg : gn x = false := by unfold gn; rw [k3, k4]; rfl
              have HG := Lib.hid (And.intro hg h4)
              clear hg h2 h3 h4
              go_wp2
              go_round
              case rel => exact ⟨k + 1, rfl, by omega, Lib.hid (hW.out.next HY.out (fun _ h => by rw [HG.out.1] at h; cases h) (fun h => absurd h HG.out.2))⟩
              case measure => simp [intOf]; omega
          · obtain rfl : k = n := by omega
            go_wp2
            go_round
            case rel => exact ⟨i + 1, rfl, by omega, Lib.hid fun j z hj hz => by
              by_cases e : j = i
              · subst e
                obtain rfl : x = z := Option.some.inj (HX.out.symm.trans hz)
                exact ⟨HK.out, hW.out⟩
              · exact hM.out j z (by omega) hz⟩
            case measure => simp [intOf]; omega
    · obtain rfl : i = n := by omega
      have HE : Hid (ft l = true) := Lib.hid (by
        have hin : ∀ (j : Nat) (x : Int), l[j]? = some x → j < i := fun j x h => by have := (List.getElem?_eq_some_iff.1 h).1; have := HL.out; omega
        exact ft_pairs (fun j x h => (hM.out j x (hin j x h) h).1) (fun j k x y hx hy hne h1 h2 => ((hM.out j x (hin j x hx) hx).2 k y (hin k y hy) hy).1 hne h1 h2)
          (fun j k x y hx hy h0 => ((hM.out j x (hin j x hx) hx).2 k y (hin k y hy) hy).2 h0))
      have HF := Lib.hid (HV.out.symm.trans HE.out)
      go_wp2
      go_ret
      exact ⟨ret_bool HF.out.symm, rfl⟩
end Go.Proofs.YthgfjikhbgippaaDoor.Pha
