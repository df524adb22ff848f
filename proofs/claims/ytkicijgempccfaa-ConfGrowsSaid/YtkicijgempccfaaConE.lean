/- The contract of conf.eachOnce: a map of the cars that were seen. -/
import Derived.Test.YtkicijgempccfaaConD
import Derived.Maps.OwnOps
import Derived.Maps.OwnSet
namespace Go.Proofs.Ytkicijgempccfaa.Con
open Go.RowKit Go.Maps Go.Proofs.Ytkicijgempccfaa.RatP Go.Proofs.Ytkicijgempccfaa.SatP Go.Proofs.Ytkicijgempccfaa.ConP Go.Proofs.Ytkicijgempccfaa.Rat
set_option linter.unusedVariables false

theorem lawInt : Keyed Try.prog 3 := int_keyed Try.underlying3
theorem zeroInt (w : World) : (zeroValue 3).run Try.prog w = .ok (.int .i64 0) w := by kernel_rfl

/-- the map tells how often each number stands in a row -/
def Tells (D : DataW Unit) (l : List Int) : Prop := IsMap D ∧ ∀ y : Int, D.atKey (.int .i64 y) (.lit (.int .i64 0)) = .lit (.int .i64 (l.count y : Nat))
theorem Tells.start : Tells (.map []) [] := ⟨isMap_empty, fun y => rfl⟩
theorem Tells.put {D : DataW Unit} {l : List Int} (h : Tells D l) (x : Int) {c : Int} (hc : c = ((l.count x + 1 : Nat) : Int)) : Tells (D.put (.int .i64 x) (.lit (.int .i64 c))) (l ++ [x]) := by
  subst hc
  refine ⟨h.1.put _ _, fun y => ?_⟩
  by_cases e : y = x
  · subst e
    rw [atKey_put_same h.1 (by trivial)]
    simp [List.count_append]
  · rw [atKey_put_other (by intro h; injection h with _ h; exact e h), h.2 y]
    have : List.count y [x] = 0 := List.count_eq_zero_of_not_mem (by rw [List.mem_singleton]; exact e)
    simp [List.count_append, this]
theorem once_take {l : List Int} {n : Int} (h : once l n) {k : Nat} {x : Int} (hk : l[k]? = some x) : (0 ≤ x ∧ x < n) ∧ x ∉ l.take k := by
  refine ⟨h.2.1 x (List.mem_of_getElem? hk), ?_⟩
  have h1 : (l.take (k + 1)).Nodup := h.2.2.sublist (List.take_sublist _ _)
  rw [List.take_add_one, hk] at h1
  exact ((nodup_snoc _ _).1 h1).2
theorem not_once_len {l : List Int} {n : Int} (h : ¬ (l.length : Int) = n) : decide (once l n) = false := by
  rw [decide_eq_false_iff_not]; exact fun h' => h h'.1

set_option maxRecDepth 100000 in
set_option maxHeartbeats 3200000 in
theorem eachOnce_any (l : List Int) (A : Option Addr) (nl cl : Nat) (hl : l.length = nl) (h1000 : nl ≤ 1000) (n : Int) (hn0 : 0 ≤ n) (hn1 : n ≤ 1000) (w : World) (hin : Sees.Sees w w.heap.size A (Sees.nums .i64 l)) :
    Calls Try.prog 45 #[.slice A nl cl, .int .i64 n] w (Says w (.bool (decide (once l n)))) := by
  have hmm := @run_makeMap Try.prog
  by_cases hlen : (nl : Int) = n
  · have t0 : ((nl : Int) != n) = false := by simpa using hlen
    have HL := Lib.hid hl
    have HLN := Lib.hid hlen
    have HS := Lib.hid hin
    clear hl hin hlen
    go_enter Try.func45, Try.ntmps45
    go_wp2
    go_loopw [15] (fun i wr => ∃ (k : Nat) (D : DataW Unit), k ≤ nl ∧ i = .int .i64 k ∧ (∀ x ∈ l.take k, 0 ≤ x ∧ x < n) ∧ (l.take k).Nodup ∧ wr.ownsMap Try.prog 3 (plainElem Try.prog 3) w.heap.size k D ∧ Tells D (l.take k) ∧ Below w.heap.size w wr) (fun i _ => nl - (intOf i).toNat)
    case atStart => exact ⟨0, .map [], Nat.zero_le _, rfl, by simp, by simp, World.ownsMap_made _ _ _ _, Tells.start, says_box⟩
    case round =>
      obtain ⟨k, D, hk, rfl, hin, hnd, hown, htl, hbl⟩ := hrel
      have HIN := Lib.hid hin
      have HND := Lib.hid hnd
      have HTL := Lib.hid htl
      clear hin hnd htl
      by_cases hlt : k < nl
      · obtain ⟨b, o, rfl, hbB, hcell⟩ := HS.out.at_ (Sees.nums_at .i64 l k (by rw [HL.out]; exact hlt))
        have hx : l[k]? = some (l[k]?.getD 0) := by simp [show k < l.length by rw [HL.out]; exact hlt]
        have hc' := (hbl.cell (p := ⟨b, o + k, none⟩) hbB).trans hcell
        have HT : Hid (l.take (k + 1) = l.take k ++ [l[k]?.getD 0]) := Lib.hid (Plain.take_snoc l k (by rw [HL.out]; exact hlt) 0)
        generalize l[k]?.getD 0 = x at *
        have HX := Lib.hid hx
        have HW := Lib.hid (fun W => within_any x 0 (n - 1) W)
        have HBL := Lib.hid hbl
        clear hx hcell hbl
        by_cases hr : 0 ≤ x ∧ x ≤ n - 1
        · rw [wi_iff.2 hr] at HW
          obtain ⟨hr0, hr1⟩ := hr
          have hwf : (Lit.int .i64 x).wf = true := WalkArith.wf_i64 (by omega)
          obtain ⟨c, hrun, hat, hwc⟩ := hown.lookup_int lawInt Try.underlying89 Try.underlying3 (zeroInt _) (keyOf_int_mk Try.underlying3 hwf)
          have hcc : c = ((l.take k).count x : Nat) := by
            have := HTL.out.2 x
            rw [this] at hat
            injection hat with hat
            injection hat with _ hat
            exact hat.symm
          have HAT := Lib.hid hat
          clear hat hwc
          by_cases hmem : x ∈ l.take k
          · have hpos : 0 < c := by rw [hcc]; have := List.count_pos_iff.2 hmem; omega
            have E : Hid (decide (once l n) = false) := Lib.hid (by rw [decide_eq_false_iff_not]; exact fun h => (once_take h HX.out).2 hmem)
            clear hcc hmem
            go_wp2_with (go_at_call 39; refine (HW.out _).mono ?_; rintro e w' ⟨rfl, rfl⟩)
            go_ret
            exact ⟨by rw [E.out]; rfl, HBL.out⟩
          · have hc0 : c = 0 := by rw [hcc, List.count_eq_zero_of_not_mem hmem]; rfl
            have HTN : Hid (Tells (D.put (.int .i64 x) (.lit (.int .i64 1))) (l.take (k + 1))) := Lib.hid (by rw [HT.out]; exact HTL.out.put x (by rw [List.count_eq_zero_of_not_mem hmem]; rfl))
            have HNN : Hid ((l.take (k + 1)).Nodup) := Lib.hid (by rw [HT.out]; exact (nodup_snoc _ _).2 ⟨HND.out, hmem⟩)
            have HII : Hid (∀ y ∈ l.take (k + 1), 0 ≤ y ∧ y < n) := Lib.hid (by
              rw [HT.out]
              intro y hy
              rcases List.mem_append.1 hy with h | h
              · exact HIN.out y h
              · rw [List.mem_singleton] at h; subst h; omega)
            subst hc0
            clear hcc hmem
            go_wp2_with (first
              | (go_at_call 39; refine (HW.out _).mono ?_; rintro e w' ⟨rfl, rfl⟩)
              | (at_mapUpdate; refine wpList_mapUpdate_own _ rfl _ _ _ 89 rfl 3 3 lawInt Try.underlying89 _ w.heap.size k _ rfl hown (by unfold maxLen; omega) _ _ _ rfl rfl (keyOf_int_mk Try.underlying3 hwf) _ [] (plainElem_int Try.underlying3 (WalkArith.wf_i64 (by omega))) ?_; intro w1 hown1 hgrow1))
            go_roundw
            case rel => exact ⟨k + 1, _, by omega, by go_num, HII.out, HNN.out, hown1, HTN.out, HBL.out.grown hgrow1 HBL.out.size (fun j hj => by cases hj; exact Nat.le_refl _)⟩
            case measure => simp [intOf]; omega
        · have E : Hid (decide (once l n) = false) := Lib.hid (by rw [decide_eq_false_iff_not]; exact fun h => by have := (once_take h HX.out).1; omega)
          rw [wi_no.2 (by omega)] at HW
          clear hr
          go_wp2_with (go_at_call 39; refine (HW.out _).mono ?_; rintro e w' ⟨rfl, rfl⟩)
          go_ret
          exact ⟨by rw [E.out]; rfl, HBL.out⟩
      · obtain rfl : k = nl := by omega
        have E : Hid (decide (once l n) = true) := Lib.hid (by
          have hT : l.take k = l := List.take_of_length_le (by rw [HL.out]; exact Nat.le_refl _)
          have h1 := HIN.out
          have h2 := HND.out
          rw [hT] at h1 h2
          exact decide_eq_true ⟨by rw [HL.out]; exact HLN.out, h1, h2⟩)
        go_wp2
        go_ret
        exact ⟨by rw [E.out]; rfl, hbl⟩
  · have t0 : ((nl : Int) != n) = true := by simpa using hlen
    have E : Hid (decide (once l n) = false) := Lib.hid (not_once_len (by rw [hl]; exact hlen))
    clear hlen hin
    go_enter Try.func45, Try.ntmps45
    go_wp2
    go_ret
    exact ⟨by rw [E.out]; rfl, Below.refl _ _⟩

end Go.Proofs.Ytkicijgempccfaa.Con
