/- The contract of Fits. -/
import Derived.Test.YthgfjikhbgippaaDoorPhaA0
import Derived.LoopN
namespace Go.Proofs.YthgfjikhbgippaaDoor.Pha
open Go.RowKit Go.Proofs.YthgfjikhbgippaaDoor.Plain Go.Proofs.YthgfjikhbgippaaDoor.PhaP Go.Proofs.YthgfjikhbgippaaDoor.Sees Go.Proofs.YthgfjikhbgippaaDoor.Box
set_option linter.unusedVariables false
set_option maxRecDepth 100000

/-- the cells that count -/
def cn (l : List Int) : Array Value := #[.int .i64 (ct 0 l : Nat), .int .i64 (ct 1 l : Nat), .int .i64 (ct 2 l : Nat), .int .i64 (ct 3 l : Nat), .int .i64 (ct 4 l : Nat), .int .i64 (ct 5 l : Nat)]
theorem cn_at (l : List Int) (q : Nat) (hq : q < 6) : (cn l)[q]? = some (.int .i64 (ct q l : Nat)) := by
  match q, hq with
  | 0, _ | 1, _ | 2, _ | 3, _ | 4, _ | 5, _ => rfl
theorem cn_set (l : List Int) (q : Nat) (hq : q < 6) : (cn l).setIfInBounds q (.int .i64 ((ct q l + 1 : Nat))) = cn (l ++ [(q : Int)]) := by
  unfold cn
  simp only [ct_snoc]
  match q, hq with
  | 0, _ | 1, _ | 2, _ | 3, _ | 4, _ | 5, _ => simp

set_option maxHeartbeats 3200000 in
theorem Fits_any (l : List Int) (A : Option Addr) (n c : Nat) (w : World) (hl : l.length = n) (hn : n ≤ maxLen) (hs : Sees w w.heap.size A (nums .i64 l)) : Calls Tryd.prog 36 #[.slice A n c] w (Says w (.bool (ft l))) := by
  unfold maxLen at hn
  have HK := Lib.hid fun p W => known_any p W
  have HL := Lib.hid hl
  have HS := Lib.hid hs
  have HN := Lib.hid hn
  have hb0 := Lib.hid (Bx.new w (cn []) 78)
  have hB0 : Below w.heap.size w (w.alloc (.cells (cn []) 78)) := below_box
  have HB0 := Lib.hid hB0
  clear hs hl hB0
  go_enter Tryd.func36, Tryd.ntmps36
  go_wp2
  go_loopw [5, 8] (fun p i wr => ∃ k : Nat, i = .int .i64 k ∧ k ≤ n ∧ Hid (Bx wr w.heap.size (cn (l.take k)) ∧ Below w.heap.size w wr) ∧ Hid (∀ q ∈ l.take k, kn q = true)) (fun _ i _ => n - (intOf i).toNat)
  case atStart => exact ⟨0, rfl, by omega, Lib.hid ⟨hb0.out, HB0.out⟩, Lib.hid (by simp)⟩
  case round =>
    clear hb0 HB0
    obtain ⟨k, rfl, hk, hM, hQ⟩ := hrel
    by_cases hlt : k < n
    · obtain ⟨q, hq⟩ : ∃ q, l[k]? = some q := ⟨_, List.getElem?_eq_getElem (by rw [HL.out]; omega)⟩
      obtain ⟨b, o, rfl, hb, hc⟩ := (HS.out.below hM.out.2 (Nat.le_refl _)).at_ (k := k) (u := .int .i64 q) (by simp [nums, hq])
      have ht : l.take (k + 1) = l.take k ++ [q] := by rw [List.take_add_one, hq]; rfl
      have HT := Lib.hid ht
      have HQ := Lib.hid (HK.out q)
      have i1 : (k : Int) < (n : Int) := by omega
      have e3 : IntKind.i64.wrap ((k : Int) + 1) = ((k + 1 : Nat) : Int) := by rw [IntWalk.i64_in _ (by have := HN.out; omega)]; rfl
      obtain ⟨kk, hkk⟩ : ∃ kk, ((k + 1 : Nat) : Int) = kk := ⟨_, rfl⟩
      rw [hkk] at e3
      have HKK := Lib.hid hkk
      have HMem := Lib.hid (List.mem_of_getElem? hq)
      cases hkq : kn q
      · rw [hkq] at HQ
        rw [ft_unknown HMem.out hkq]
        clear hq ht hkk hn HK hkq
        go_wp2_with (go_at_call 41; refine (HQ.out _).mono ?_; rintro e w' ⟨rfl, rfl⟩)
        try rw [Exit.noGoto_ret]
        go_ret
        exact ⟨rfl, hM.out.2⟩
      · rw [hkq] at HQ
        have hk6 := kn_iff.1 hkq
        obtain ⟨x, rfl⟩ : ∃ x : Nat, q = x := ⟨q.toNat, by omega⟩
        have hx : x < 6 := by omega
        have hu1 := hM.out.1.cell (cn_at (l.take k) x hx)
        have hf1 := hM.out.1.fr x
        have hle := ct_le x (l.take k)
        rw [List.length_take] at hle
        have e4 : IntKind.i64.wrap (((ct x (l.take k) : Nat) : Int) + 1) = ((ct x (l.take k) + 1 : Nat) : Int) := by rw [IntWalk.i64_in _ (by have := HN.out; omega)]; rfl
        have hn1 := hM.out.1.set (j := x) (.int .i64 (ct x (l.take k) + 1 : Nat))
        rw [cn_set (l.take k) x hx, ← HT.out] at hn1
        have hn2 : Below w.heap.size w (wr.setCell ⟨w.heap.size, x, none⟩ (.int .i64 (ct x (l.take k) + 1 : Nat))) := below_set (Nat.le_refl _) hM.out.2
        have HM2 := Lib.hid (And.intro hn1 hn2)
        have HQ2 : Hid (∀ p ∈ l.take (k + 1), kn p = true) := Lib.hid fun p hp => by
          rw [HT.out] at hp
          rcases List.mem_append.1 hp with hp | hp
          · exact hQ.out p hp
          · have : p = (x : Int) := by simpa using hp
            rw [this]; exact hkq
        generalize ct x (l.take k) + 1 = y at *
        generalize ct x (l.take k) = z at *
        clear hq ht hkk hn HK hkq hn1 hn2 hle hk6 hM hQ
        go_wp2_with (go_at_call 41; refine (HQ.out _).mono ?_; rintro e w' ⟨rfl, rfl⟩)
        go_roundw
        case rel => exact ⟨k + 1, by rw [HKK.out], by omega, HM2, HQ2⟩
        case measure => rw [← HKK.out]; simp [intOf]; omega
    · obtain rfl : k = n := by omega
      have hT : l.take k = l := List.take_of_length_le (by rw [HL.out]; exact Nat.le_refl _)
      rw [hT] at hM hQ
      have a1 : ct 0 l + ct 5 l ≤ k := by rw [← qt_ct, ← HL.out]; exact List.countP_le_length
      have a2 : ct 2 l + ct 4 l ≤ k := by rw [← gn_ct, ← HL.out]; exact List.countP_le_length
      have c0 := hM.out.1.cell (cn_at l 0 (by decide))
      have c2 := hM.out.1.cell (cn_at l 2 (by decide))
      have c4 := hM.out.1.cell (cn_at l 4 (by decide))
      have c5 := hM.out.1.cell (cn_at l 5 (by decide))
      have e1 : IntKind.i64.wrap (((ct 0 l : Nat) : Int) + ((ct 5 l : Nat) : Int)) = ((ct 0 l + ct 5 l : Nat) : Int) := by rw [IntWalk.i64_in _ (by omega)]; rfl
      have e2 : IntKind.i64.wrap (((ct 2 l : Nat) : Int) + ((ct 4 l : Nat) : Int)) = ((ct 2 l + ct 4 l : Nat) : Int) := by rw [IntWalk.i64_in _ (by omega)]; rfl
      by_cases h0 : 0 < ct 0 l
      · have HE := Lib.hid (ft_some hQ.out h0)
        have i0 : (0 : Int) < ((ct 0 l : Nat) : Int) := by omega
        rw [HL.out] at HE
        generalize ct 0 l + ct 5 l = s at *
        generalize ct 0 l = x0 at *
        generalize ct 5 l = x5 at *
        clear hn a1 a2 h0 e2 c2 c4 hT hQ
        go_wp2
        go_ret
        exact ⟨ret_bool (by rw [HE.out, Bool.eq_iff_iff]; simp; omega), hM.out.2⟩
      · have h0' : ct 0 l = 0 := by omega
        have HE := Lib.hid (ft_none hQ.out h0')
        rw [h0'] at c0
        generalize ct 2 l + ct 4 l = s at *
        generalize ct 2 l = x0 at *
        generalize ct 4 l = x5 at *
        clear hn a1 a2 h0 h0' e1 c5 hT hQ
        go_wp2
        go_ret
        exact ⟨ret_bool (by rw [HE.out, Bool.eq_iff_iff]; simp; omega), hM.out.2⟩
end Go.Proofs.YthgfjikhbgippaaDoor.Pha
