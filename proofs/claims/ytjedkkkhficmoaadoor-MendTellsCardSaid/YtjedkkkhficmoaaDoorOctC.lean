/- The contract of octet.Join. -/
import Derived.Test.YtjedkkkhficmoaaDoorOctA
namespace Go.Proofs.YtjedkkkhficmoaaDoor.Oct
open Go.RowKit Go.Proofs.YtjedkkkhficmoaaDoor.Plain Go.Proofs.YtjedkkkhficmoaaDoor.Sees
set_option linter.unusedVariables false

theorem put_two (v : Value) (n L : Nat) (xs : List Int) (base : Nat) (w : World) (hL : L ≤ 65535) (_h : n ≤ 100000000)
    (hown : w.ownsRow base 5 1 v n (nums .u8 xs)) (hbase : base ≤ w.heap.size) (hn : n ≤ 100000000) :
    Calls Tryd.prog 54 #[v, .int .i64 2, .int .u64 L] w (PutPost base w v (n + 2) (xs ++ lowB 2 L)) :=
  put_any v n 2 L xs base w (by omega) (by omega) (by omega) hown hbase hn

set_option maxHeartbeats 800000 in
theorem Join_any (m c : Nat) (a : Option Addr) (rs : List RowV) (w : World) (hlen : rs.length = m) (hm : m ≤ 1000) (hrow : ∀ r ∈ rs, r.bs.length ≤ 60000)
    (hsee : Sees w w.heap.size a (rs.map RowV.val)) (hok : ∀ r ∈ rs, r.Ok w w.heap.size) :
    Calls Tryd.prog 52 #[.slice a m c] w (OwnPost w (joinB (rs.map RowV.bs)).length (joinB (rs.map RowV.bs))) := by
  obtain ⟨i0, hi, hz0, hz1, hz2⟩ := info_parts info_u8
  have hpart : ∀ k, k ≤ m → (joinB ((rs.take k).map RowV.bs)).length ≤ k * 60002 := by
    intro k
    induction k with
    | zero => intro _; simp [joinB]
    | succ k ih =>
      intro hk
      have h1 := hrow (rs[k]) (List.getElem_mem (by omega))
      rw [List.take_succ_eq_append_getElem (by omega), List.map_append, joinB_append, List.length_append]
      have h2 := ih (by omega)
      have h3 : (joinB (List.map RowV.bs [rs[k]])).length = rs[k].bs.length + 2 := by simp [joinB, lowB_length]; omega
      omega
  have HP := Lib.hid hpart
  clear hpart
  go_enter Tryd.func52, Tryd.ntmps52
  go_wp2
  go_loopw [3, 8] (fun b i wr => ∃ k : Nat, k ≤ m ∧ i = .int .i64 k ∧ wr.ownsRow w.heap.size 5 1 b (joinB ((rs.take k).map RowV.bs)).length (nums .u8 (joinB ((rs.take k).map RowV.bs))) ∧ Below w.heap.size w wr)
    (fun _ i _ => m - (intOf i).toNat)
  case atStart => exact ⟨0, Nat.zero_le _, rfl, by simpa [joinB, nums] using World.ownsRow_nil w _ _ _, Below.refl _ _⟩
  case round =>
    obtain ⟨k, hk, rfl, hown, hbel⟩ := hrel
    have hsz := hbel.size
    by_cases hlt : k < m
    · have hk' : k < rs.length := by omega
      have hel : (rs.map RowV.val)[k]? = some (rs[k].val) := by simp [hk']
      obtain ⟨b, o, rfl, hbB, hc⟩ := hsee.at_ hel
      have hc' := (bcell hbel b (o + k) hbB).trans hc
      have hokr := hok rs[k] (List.getElem_mem hk')
      have hr6 := hrow rs[k] (List.getElem_mem hk')
      have hpk := HP.out k (by omega)
      have hsn : joinB ((rs.take (k + 1)).map RowV.bs) = joinB ((rs.take k).map RowV.bs) ++ (lowB 2 rs[k].bs.length ++ rs[k].bs) := by
        rw [List.take_succ_eq_append_getElem hk', List.map_append, List.map_cons, List.map_nil, joinB_snoc]
      generalize joinB ((rs.take k).map RowV.bs) = done at *
      generalize hrk : rs[k] = r at *
      obtain ⟨A, C, bs⟩ := r
      have hcap : bs.length ≤ C := hokr.cap
      have hsr : Sees w w.heap.size A (nums .u8 bs) := hokr.see
      simp only [RowV.val] at hc' hr6 hsn
      generalize hL : bs.length = L at *
      have HL := Lib.hid hL
      have HS := Lib.hid hsn
      have HC := Lib.hid hc
      clear hL hsn hc hel hokr hrk
      go_wp2_with (first
        | (go_at_call 54; ((with_reducible refine (put_two u3 done.length L done w.heap.size _ (by omega) (by omega) hown (by omega) (by omega)).mono ?_); rintro e w1 ⟨v1, rfl, hown1, hg1⟩))
        | (at_builtin; go_loud (refine wpList_append_sees _ rfl (.tmp 22) (.tmp 23) 22 rfl w.heap.size 5 i0 (.int .u8 0) 1 Tryd.underlying22 hi hz0 hz1 hz2 rfl v1 (done.length + 2) _ rfl hown1 w.heap.size A L C (nums .u8 bs) rfl (by rw [nums_length]; exact HL.out) (hsr.below (hbel.trans (hg1.below (by omega) (fun g hg => (hown.lt g hg).1))) (Nat.le_refl _)) (nums_one _ _) (by unfold maxLen; omega) (by omega) (by have := hg1.by_.size; omega) ?_); intro v2 w2 hown2 hg2))
      go_roundw
      case rel =>
        refine ⟨k + 1, by omega, by go_num, ?_, (hbel.trans (hg1.below (by omega) (fun g hg => (hown.lt g hg).1))).trans (hg2.below (by have := hg1.by_.size; omega) (fun g hg => (hown1.lt g hg).1))⟩
        have hl := HL.out
        rw [HS.out, ← List.append_assoc, nums_append, List.length_append, List.length_append, lowB_length, hl]
        exact hown2
      case measure => simp [intOf]; omega
    · go_wp2
      go_ret
      obtain rfl : k = m := by omega
      rw [List.take_of_length_le (by omega)] at hown
      exact ⟨_, rfl, hown, hbel⟩

end Go.Proofs.YtjedkkkhficmoaaDoor.Oct
