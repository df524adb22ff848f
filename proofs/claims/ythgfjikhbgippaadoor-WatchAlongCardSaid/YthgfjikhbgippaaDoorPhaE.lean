/- The contract of Accept. -/
import Derived.Test.YthgfjikhbgippaaDoorPhaC
import Derived.Test.YthgfjikhbgippaaDoorOpenN
import Derived.WalkMore
namespace Go.Proofs.YthgfjikhbgippaaDoor.Pha
open Go.RowKit Go.Proofs.YthgfjikhbgippaaDoor.Plain Go.Proofs.YthgfjikhbgippaaDoor.PhaP Go.Proofs.YthgfjikhbgippaaDoor.Sees Go.Proofs.YthgfjikhbgippaaDoor.Open Go.Proofs.YthgfjikhbgippaaDoor.Box Go.Proofs.YthgfjikhbgippaaDoor.Held
set_option linter.unusedVariables false
set_option maxRecDepth 100000

/-- a row of phases as it lies -/
structure Rok (w : World) (r : RowN) : Prop where
  see : Sees w w.heap.size r.A (nums .i64 r.zs)
  len : r.zs.length ≤ maxLen
theorem Rok.bw {w W : World} {r : RowN} (h : Rok w r) (hW : Bw w W) : Rok W r := ⟨sees_bw h.see hW, h.len⟩
/-- what the rows show -/
def zz (rs : List RowN) : List (List Int) := rs.map RowN.zs
theorem zz_at {rs : List RowN} {j : Nat} {r : RowN} (h : rs[j]? = some r) : (zz rs)[j]?.getD [] = r.zs := by unfold zz; rw [List.getElem?_map, h]; rfl
theorem gd_zero {rs : List RowN} {r : RowN} (h : rs[0]? = some r) : gd (zz rs) 0 = ft r.zs := by unfold gd; rw [if_pos rfl, zz_at h]
theorem gd_succ {rs : List RowN} {j : Nat} {r s : RowN} (h : rs[j]? = some r) (h' : rs[j + 1]? = some s) : gd (zz rs) (j + 1) = fo r.zs s.zs := by
  unfold gd; rw [if_neg (by omega), Nat.add_sub_cancel, zz_at h, zz_at h']

set_option maxHeartbeats 3200000 in
theorem Accept_any (rs : List RowN) (A : Option Addr) (n c k : Nat) (w : World) (hL : Lay w) (hl : rs.length = n) (hn : n ≤ maxLen)
    (hs : Sees w w.heap.size A (rs.map RowN.val)) (hr : ∀ r ∈ rs, Rok w r) (hk : Ac (zz rs) k) : Calls Tryd.prog 25 #[.slice A n c] w (Says w (.int .i64 k)) := by
  have HF : Hid (∀ r W, r ∈ rs → Hid (Bw w W) → Calls Tryd.prog 36 #[r.val] W (On w (.bool (ft r.zs)))) := Lib.hid fun r W h hW => on_says hW (Fits_any r.zs r.A _ r.c W rfl (hr r h).len ((hr r h).bw hW.out).see)
  have HG : Hid (∀ r s W, r ∈ rs → s ∈ rs → Hid (Bw w W) → Calls Tryd.prog 37 #[r.val, s.val] W (On w (.bool (fo r.zs s.zs)))) := Lib.hid fun r s W h h' hW =>
    on_says hW (Follows_any r.zs s.zs r.A s.A _ r.c _ s.c W (hL.bw hW.out) rfl rfl (hr r h).len (hr s h').len ((hr r h).bw hW.out).see ((hr s h').bw hW.out).see)
  have K0 : Hid (Bw w w) := Lib.hid (Bw.refl w)
  have HS := Lib.hid hs
  have HN := Lib.hid hn
  have HL := Lib.hid hl
  have HK := Lib.hid hk
  clear hL hl hs hr hn hk
  go_enter Tryd.func25, Tryd.ntmps25
  go_wp2
  go_step3
  go_wp2
  go_step3
  go_wp2
  go_loopw [3, 8] (fun b a wr => ∃ j : Nat, a = .int .i64 j ∧ b = .int .i64 j ∧ j ≤ n ∧ Hid (Bw w wr) ∧ Hid (∀ t, t < j → gd (zz rs) t = true)) (fun _ a _ => n - (intOf a).toNat)
  case atStart => exact ⟨0, rfl, rfl, Nat.zero_le _, K0, Lib.hid fun t ht => by omega⟩
  case round =>
    clear K0
    obtain ⟨j, rfl, rfl, hj, K, hM⟩ := hrel
    by_cases hlt : j < n
    · obtain ⟨r, hr⟩ : ∃ r, rs[j]? = some r := ⟨_, List.getElem?_eq_getElem (by rw [HL.out]; omega)⟩
      obtain ⟨b, o, rfl, hb, hc⟩ := (sees_bw HS.out K.out).at_ (k := j) (u := r.val) (by simp [hr])
      have HC := Lib.hid hc
      have HRm := Lib.hid (List.mem_of_getElem? hr)
      have i1 : (j : Int) < (n : Int) := by omega
      have e3 : IntKind.i64.wrap ((j : Int) + 1) = ((j + 1 : Nat) : Int) := by rw [IntWalk.i64_in _ (by have := HN.out; unfold maxLen at this; omega)]; rfl
      have HLz : Hid ((zz rs).length = n) := Lib.hid (by unfold zz; rw [List.length_map]; exact HL.out)
      by_cases hj0 : j = 0
      · subst hj0
        rw [Nat.add_zero] at hc
        have HD := Lib.hid (gd_zero hr)
        have HA := Lib.hid (fun W hW => HF.out r W HRm.out hW)
        clear hr
        cases hg : ft r.zs
        · rw [hg] at HD HA
          have HE := Lib.hid (ac_one HK.out ⟨by omega, hM.out, fun _ => HD.out⟩)
          clear hg
          unfold RowN.val at HA hc
          go_wp2_with (go_at_call 36; ((with_reducible refine (HA.out _ K).mono ?_); rintro e w1 ⟨rfl, K1⟩))
          try rw [Exit.noGoto_ret]
          go_ret
          exact ⟨ret_int (by rw [HE.out]; rfl), K1.out⟩
        · rw [hg] at HD HA
          have HM2 : Hid (∀ t, t < 0 + 1 → gd (zz rs) t = true) := Lib.hid fun t ht => by
            obtain rfl : t = 0 := by omega
            exact HD.out
          clear hg
          unfold RowN.val at HA hc
          go_wp2_with (go_at_call 36; ((with_reducible refine (HA.out _ K).mono ?_); rintro e w1 ⟨rfl, K1⟩))
          go_roundw
          case rel => exact ⟨0 + 1, rfl, rfl, by omega, K1, HM2⟩
          case measure => simp [intOf]; omega
      · obtain ⟨i, hij⟩ : ∃ i, i + 1 = j := ⟨j - 1, by omega⟩
        obtain ⟨s, hs⟩ : ∃ s, rs[i]? = some s := ⟨_, List.getElem?_eq_getElem (by rw [HL.out]; omega)⟩
        obtain ⟨b2, o2, hab, hb2, hc2⟩ := (sees_bw HS.out K.out).at_ (k := i) (u := s.val) (by simp [hs])
        have hab' := Option.some.inj hab
        injection hab' with hb' ho'
        subst hb' ho'
        have HD : Hid (gd (zz rs) j = fo s.zs r.zs) := Lib.hid (by subst hij; exact gd_succ hs hr)
        have HA := Lib.hid (fun W hW => HG.out s r W (List.mem_of_getElem? hs) HRm.out hW)
        have e4 : IntKind.i64.wrap ((j : Int) - 1) = (i : Int) := by rw [IntWalk.i64_in _ (by have := HN.out; unfold maxLen at this; omega)]; omega
        have i2 : (0 : Int) < (j : Int) := by omega
        have i3 : (i : Int) < (n : Int) := by omega
        have i4 : i < n := by omega
        have k0 : ((j : Int) == 0) = false := by simp; omega
        clear hr hs hab hij hj0
        cases hg : fo s.zs r.zs
        · rw [hg] at HD HA
          have HE := Lib.hid (ac_one HK.out ⟨by have := HLz.out; omega, hM.out, fun _ => HD.out⟩)
          clear hg
          unfold RowN.val at HA hc hc2
          go_wp2_with (go_at_call 37; ((with_reducible refine (HA.out _ K).mono ?_); rintro e w1 ⟨rfl, K1⟩))
          try rw [Exit.noGoto_ret]
          go_ret
          exact ⟨ret_int (by rw [HE.out]), K1.out⟩
        · rw [hg] at HD HA
          have HM2 : Hid (∀ t, t < j + 1 → gd (zz rs) t = true) := Lib.hid fun t ht => by
            by_cases e : t = j
            · subst e; exact HD.out
            · exact hM.out t (by omega)
          clear hg
          unfold RowN.val at HA hc hc2
          go_wp2_with (go_at_call 37; ((with_reducible refine (HA.out _ K).mono ?_); rintro e w1 ⟨rfl, K1⟩))
          go_roundw
          case rel => exact ⟨j + 1, rfl, rfl, by omega, K1, HM2⟩
          case measure => simp [intOf]; omega
    · obtain rfl : j = n := by omega
      have HE := Lib.hid (ac_one HK.out ⟨by unfold zz; rw [List.length_map, HL.out]; exact Nat.le_refl _, hM.out, fun h => by unfold zz at h; rw [List.length_map, HL.out] at h; omega⟩)
      go_wp2
      go_ret
      exact ⟨ret_int (by rw [HE.out]), K.out⟩
end Go.Proofs.YthgfjikhbgippaaDoor.Pha
