/- The reference's reading of numbers. -/
import Derived.Test.YthpbcbbiampamaaGreatDoorScrB
namespace Go.Proofs.YthpbcbbiampamaaGreatDoor.Scr
open Go.RowKit Go.Proofs.YthpbcbbiampamaaGreatDoor.ScrP Go.Proofs.YthpbcbbiampamaaGreatDoor.Box Go.Proofs.YthpbcbbiampamaaGreatDoor.Held
set_option linter.unusedVariables false

theorem run_idx (W : World) (l : By) (i : Nat) (c : UInt8) (h : l[i]? = some c) : (Instr.index 9 (.string (S l)) (.int .i64 (i : Int))).run Tryz.prog W = .ok (.int .u8 (c.toNat : Int)) W := by
  obtain ⟨hi, hc⟩ := List.getElem?_eq_some_iff.1 h
  have hsz : (S l).size = l.length := s_size l
  rw [run_index_string W 9 _ _ _ Tryz.underlying9, dif_pos (by rw [hsz]; omega)]
  congr 2
  have e : (S l)[(i : Int).toNat]'(by rw [hsz]; omega) = c := by
    show (S l).data[(i : Int).toNat]'_ = _
    subst hc
    simp [S]
  rw [e]
theorem s_empty : (S []).toList = [] := by rw [ByteArray.toList_eq, s_data]
theorem s_list (l : By) : (S l).toList = l := by rw [ByteArray.toList_eq, s_data]
theorem run_from (W : World) (l : By) (n : Nat) (h : n ≤ l.length) : (Instr.slice 9 (.string (S l)) (some (.int .i64 (n : Int))) none none).run Tryz.prog W = .ok (.string (S (l.drop n))) W := by
  have hsz : (S l).size = l.length := s_size l
  rw [run_slice_string_from_if W 9 _ _ _ Tryz.underlying9, if_pos (by rw [hsz]; omega), Int.toNat_natCast, hsz]
  congr 2
  unfold S
  rw [ByteArray.extract_mk]
  congr 1
  rw [List.take_of_length_le (by rw [List.length_drop]; exact Nat.le_refl _)]
theorem run_mid (W : World) (l : By) (n m : Nat) (h : n ≤ m) (hm : m ≤ l.length) : (Instr.slice 9 (.string (S l)) (some (.int .i64 (n : Int))) (some (.int .i64 (m : Int))) none).run Tryz.prog W = .ok (.string (S ((l.drop n).take (m - n)))) W := by
  have hsz : (S l).size = l.length := s_size l
  rw [run_slice_string W 9 _ _ _ _ _ Tryz.underlying9 (by omega) (by omega) (by rw [hsz]; omega), Int.toNat_natCast, Int.toNat_natCast]
  congr 2
  unfold S
  rw [ByteArray.extract_mk]

set_option maxHeartbeats 3200000 in
theorem rdig_any (most : Nat) (l : By) (w : World) (h9 : 9 ≤ most) (hm : most < 18446744073709551616) (hl : l.length ≤ 1000000000) :
    Calls Tryz.prog 31 #[.string (S l), .int .u64 most] w fun e w' => e = .returned (.tuple #[.int .u64 (dgs most l).1, .bool (dgs most l).2]) ∧ w = w' := by
  have hsz : (S l).size = l.length := s_size l
  cases hll : l with
  | nil =>
    subst hll
    have e1 := s_empty
    go_enter Tryz.func31, Tryz.ntmps31
    go_wp2
    go_ret2
    exact ⟨rfl, rfl⟩
  | cons c r =>
    have hl0 : ¬ (S l).toList = [] := by rw [s_list, hll]; simp
    have hl1 : (S l).toList.isEmpty = false := by rw [s_list, hll]; rfl
    have k0 := fun W => run_idx W l 0 c (by rw [hll]; rfl)
    have hn0 : ((0 : Nat) : Int) = 0 := rfl
    rw [hn0] at k0
    have hlen : l.length = r.length + 1 := by rw [hll]; rfl
    rw [← hll]
    have HLL := Lib.hid hll
    clear hlen hll
    by_cases h20 : 20 < l.length
    · have e : dgs most l = (0, false) := by unfold dgs; rw [if_pos (.inr (.inl h20))]
      rw [e]
      have b1 : decide ((20 : Int) < (l.length : Int)) = true := by simp; omega
      generalize hN : l.length = N at *
      generalize S l = s at *
      go_enter Tryz.func31, Tryz.ntmps31
      go_wp2
      go_ret2
      exact ⟨rfl, rfl⟩
    · have b1 : decide ((20 : Int) < (l.length : Int)) = false := by simp; omega
      by_cases h48 : c = 48 ∧ 1 < l.length
      · have e : dgs most l = (0, false) := by unfold dgs; rw [if_pos (.inr (.inr ⟨by rw [HLL.out, h48.1]; rfl, h48.2⟩))]
        rw [e]
        have b2 : decide ((1 : Int) < (l.length : Int)) = true := by simp; omega
        have b3 : (c.toNat : Int) = 48 := by rw [h48.1]; rfl
        rw [b3] at k0
        clear h48
        generalize hN : l.length = N at *
        generalize S l = s at *
        go_enter Tryz.func31, Tryz.ntmps31
        go_wp2
        go_ret2
        exact ⟨rfl, rfl⟩
      · have e : dgs most l = dgf most 0 l := by
          unfold dgs
          rw [if_neg]
          rintro (h | h | ⟨h, h'⟩)
          · rw [HLL.out] at h; cases h
          · exact h20 h
          · rw [HLL.out] at h
            exact h48 ⟨Option.some.inj h, h'⟩
        rw [e]
        have hor : Hid ((c.toNat : Int) = 48 → ¬ (1 : Int) < (l.length : Int)) := Lib.hid fun h => by
          have : c = 48 := UInt8.toNat_inj.1 (by show c.toNat = 48; omega)
          have h3 : ¬ 1 < l.length := fun h4 => h48 ⟨this, h4⟩
          omega
        clear h48 e
        have hgo : ∀ (a : Act) (Q : Exit → Act → World → Prop), True := fun _ _ => trivial
        clear hgo
        have hx : ∃ x : Int, (c.toNat : Int) = x := ⟨_, rfl⟩
        obtain ⟨x, hx⟩ := hx
        rw [hx] at k0 hor
        clear hx
        have KI := Lib.hid (fun (i : Nat) (d : UInt8) (h : l[i]? = some d) W => run_idx W l i d h)
        have HD := Lib.hid (rfl : dgf most 0 l = dgf most 0 l)
        generalize hR : dgf most 0 l = R at *
        have HR := Lib.hid hR
        clear hR HD
        have HLN := Lib.hid (rfl : l.length = l.length)
        generalize hN : l.length = N at *
        have HN := Lib.hid hN
        clear hN
        generalize hs : S l = s at *
        clear hs
        have h48' := Classical.em (x = 48)
        rcases h48' with h48' | h48'
        · have b2 := hor.out h48'
          have b2' : decide ((1 : Int) < (N : Int)) = false := by simp; omega
          subst h48'
          clear hor
          go_enter Tryz.func31, Tryz.ntmps31
          go_wp2
          go_loopw [6, 7] (fun n i wr => ∃ (j k : Nat), n = .int .u64 k ∧ i = .int .i64 j ∧ j ≤ N ∧ k ≤ most ∧ wr = w ∧ Hid (dgf most k (l.drop j) = R)) (fun _ i _ => N - (intOf i).toNat)
          case atStart => exact ⟨0, 0, rfl, rfl, Nat.zero_le _, Nat.zero_le _, rfl, Lib.hid (by rw [List.drop_zero]; exact HR.out)⟩
          case round =>
            clear k0
            obtain ⟨j, k, rfl, rfl, hj, hk, rfl, HQ⟩ := hrel
            by_cases hjN : j < N
            · obtain ⟨d, hd⟩ : ∃ d, l[j]? = some d := ⟨l[j]'(by have := HN.out; omega), List.getElem?_eq_getElem _⟩
              have hdr : l.drop j = d :: l.drop (j + 1) := by
                obtain ⟨h1, h2⟩ := List.getElem?_eq_some_iff.1 hd
                rw [List.drop_eq_getElem_cons h1, h2]
              have kj := KI.out j d hd
              have hq := HQ.out
              rw [hdr] at hq
              unfold dgf at hq
              have hy0 : d.toNat ≤ 255 := by have := d.toNat_lt; omega
              have hdd : dig d = decide (48 ≤ d.toNat ∧ d.toNat ≤ 57) := rfl
              rw [hdd] at hq
              have HQ2 := Lib.hid hq
              clear hq hdr hd hdd HQ
              generalize d.toNat = y at *
              have i1 : (j : Int) < (N : Int) := by omega
              by_cases y48 : y < 48
              · have j1 : (y : Int) < 48 := by omega
                have j1' : decide ((y : Int) < 48) = true := by simpa using j1
                go_wp2
                go_ret2
                have hq := HQ2.out
                rw [if_neg (by simp; omega)] at hq
                rw [← hq]
                exact ⟨rfl, rfl⟩
              · have j1 : ¬ (y : Int) < 48 := by omega
                have j1' : decide ((y : Int) < 48) = false := by simpa using j1
                by_cases y57 : 57 < y
                · have j2 : (57 : Int) < (y : Int) := by omega
                  have j2' : decide ((57 : Int) < (y : Int)) = true := by simpa using j2
                  go_wp2
                  go_ret2
                  have hq := HQ2.out
                  rw [if_neg (by simp; omega)] at hq
                  rw [← hq]
                  exact ⟨rfl, rfl⟩
                · have j2 : ¬ (57 : Int) < (y : Int) := by omega
                  have j2' : decide ((57 : Int) < (y : Int)) = false := by simpa using j2
                  have hq := HQ2.out
                  rw [if_pos (by simp; omega)] at hq
                  have HQ3 := Lib.hid hq
                  clear hq HQ2
                  have u1 : IntKind.u8.wrap ((y : Int) - 48) = (y : Int) - 48 := by rw [IntKind.wrap_u8]; omega
                  have u2 : IntKind.u64.wrap ((y : Int) - 48) = (y : Int) - 48 := by rw [IntKind.wrap_u64]; omega
                  have u3 : IntKind.u64.wrap ((most : Int) - ((y : Int) - 48)) = (most : Int) - ((y : Int) - 48) := by rw [IntKind.wrap_u64]; omega
                  have u4 : Int.tdiv ((most : Int) - ((y : Int) - 48)) 10 = ((most : Int) - ((y : Int) - 48)) / 10 := Int.tdiv_eq_ediv_of_nonneg (by omega)
                  by_cases hov : (most - (y - 48)) / 10 < k
                  · have j3 : ((most : Int) - ((y : Int) - 48)) / 10 < (k : Int) := by omega
                    have j3' : decide (((most : Int) - ((y : Int) - 48)) / 10 < (k : Int)) = true := by simpa using j3
                    go_wp2
                    go_ret2
                    have hq := HQ3.out
                    rw [if_pos hov] at hq
                    rw [← hq]
                    exact ⟨rfl, rfl⟩
                  · have j3 : ¬ ((most : Int) - ((y : Int) - 48)) / 10 < (k : Int) := by omega
                    have j3' : decide (((most : Int) - ((y : Int) - 48)) / 10 < (k : Int)) = false := by simpa using j3
                    have hq := HQ3.out
                    rw [if_neg hov] at hq
                    have HQ4 := Lib.hid hq
                    clear hq HQ3
                    have hb : 10 * k + (y - 48) ≤ most := by omega
                    have u5 : IntKind.u64.wrap (10 * (k : Int)) = 10 * (k : Int) := by rw [IntKind.wrap_u64]; omega
                    have u6 : IntKind.u64.wrap (10 * (k : Int) + ((y : Int) - 48)) = ((10 * k + (y - 48) : Nat) : Int) := by rw [IntKind.wrap_u64]; omega
                    have u7 : IntKind.i64.wrap ((j : Int) + 1) = ((j + 1 : Nat) : Int) := by rw [IntWalk.i64_in _ (by have := HN.out; omega)]; omega
                    generalize 10 * k + (y - 48) = k2 at *
                    go_wp2
                    go_roundw
                    case rel => exact ⟨j + 1, k2, rfl, rfl, by omega, hb, trivial, HQ4⟩
                    case measure => simp [intOf]; omega
            · have i1 : ¬ (j : Int) < (N : Int) := by omega
              have hq := HQ.out
              rw [List.drop_of_length_le (by have := HN.out; omega)] at hq
              go_wp2
              go_ret2
              rw [← hq]
              exact ⟨rfl, rfl⟩
        · have b3 : ¬ x = 48 := h48'
          clear hor
          go_enter Tryz.func31, Tryz.ntmps31
          go_wp2
          go_loopw [6, 7] (fun n i wr => ∃ (j k : Nat), n = .int .u64 k ∧ i = .int .i64 j ∧ j ≤ N ∧ k ≤ most ∧ wr = w ∧ Hid (dgf most k (l.drop j) = R)) (fun _ i _ => N - (intOf i).toNat)
          case atStart => exact ⟨0, 0, rfl, rfl, Nat.zero_le _, Nat.zero_le _, rfl, Lib.hid (by rw [List.drop_zero]; exact HR.out)⟩
          case round =>
            clear k0
            obtain ⟨j, k, rfl, rfl, hj, hk, rfl, HQ⟩ := hrel
            by_cases hjN : j < N
            · obtain ⟨d, hd⟩ : ∃ d, l[j]? = some d := ⟨l[j]'(by have := HN.out; omega), List.getElem?_eq_getElem _⟩
              have hdr : l.drop j = d :: l.drop (j + 1) := by
                obtain ⟨h1, h2⟩ := List.getElem?_eq_some_iff.1 hd
                rw [List.drop_eq_getElem_cons h1, h2]
              have kj := KI.out j d hd
              have hq := HQ.out
              rw [hdr] at hq
              unfold dgf at hq
              have hy0 : d.toNat ≤ 255 := by have := d.toNat_lt; omega
              have hdd : dig d = decide (48 ≤ d.toNat ∧ d.toNat ≤ 57) := rfl
              rw [hdd] at hq
              have HQ2 := Lib.hid hq
              clear hq hdr hd hdd HQ
              generalize d.toNat = y at *
              have i1 : (j : Int) < (N : Int) := by omega
              by_cases y48 : y < 48
              · have j1 : (y : Int) < 48 := by omega
                have j1' : decide ((y : Int) < 48) = true := by simpa using j1
                go_wp2
                go_ret2
                have hq := HQ2.out
                rw [if_neg (by simp; omega)] at hq
                rw [← hq]
                exact ⟨rfl, rfl⟩
              · have j1 : ¬ (y : Int) < 48 := by omega
                have j1' : decide ((y : Int) < 48) = false := by simpa using j1
                by_cases y57 : 57 < y
                · have j2 : (57 : Int) < (y : Int) := by omega
                  have j2' : decide ((57 : Int) < (y : Int)) = true := by simpa using j2
                  go_wp2
                  go_ret2
                  have hq := HQ2.out
                  rw [if_neg (by simp; omega)] at hq
                  rw [← hq]
                  exact ⟨rfl, rfl⟩
                · have j2 : ¬ (57 : Int) < (y : Int) := by omega
                  have j2' : decide ((57 : Int) < (y : Int)) = false := by simpa using j2
                  have hq := HQ2.out
                  rw [if_pos (by simp; omega)] at hq
                  have HQ3 := Lib.hid hq
                  clear hq HQ2
                  have u1 : IntKind.u8.wrap ((y : Int) - 48) = (y : Int) - 48 := by rw [IntKind.wrap_u8]; omega
                  have u2 : IntKind.u64.wrap ((y : Int) - 48) = (y : Int) - 48 := by rw [IntKind.wrap_u64]; omega
                  have u3 : IntKind.u64.wrap ((most : Int) - ((y : Int) - 48)) = (most : Int) - ((y : Int) - 48) := by rw [IntKind.wrap_u64]; omega
                  have u4 : Int.tdiv ((most : Int) - ((y : Int) - 48)) 10 = ((most : Int) - ((y : Int) - 48)) / 10 := Int.tdiv_eq_ediv_of_nonneg (by omega)
                  by_cases hov : (most - (y - 48)) / 10 < k
                  · have j3 : ((most : Int) - ((y : Int) - 48)) / 10 < (k : Int) := by omega
                    have j3' : decide (((most : Int) - ((y : Int) - 48)) / 10 < (k : Int)) = true := by simpa using j3
                    go_wp2
                    go_ret2
                    have hq := HQ3.out
                    rw [if_pos hov] at hq
                    rw [← hq]
                    exact ⟨rfl, rfl⟩
                  · have j3 : ¬ ((most : Int) - ((y : Int) - 48)) / 10 < (k : Int) := by omega
                    have j3' : decide (((most : Int) - ((y : Int) - 48)) / 10 < (k : Int)) = false := by simpa using j3
                    have hq := HQ3.out
                    rw [if_neg hov] at hq
                    have HQ4 := Lib.hid hq
                    clear hq HQ3
                    have hb : 10 * k + (y - 48) ≤ most := by omega
                    have u5 : IntKind.u64.wrap (10 * (k : Int)) = 10 * (k : Int) := by rw [IntKind.wrap_u64]; omega
                    have u6 : IntKind.u64.wrap (10 * (k : Int) + ((y : Int) - 48)) = ((10 * k + (y - 48) : Nat) : Int) := by rw [IntKind.wrap_u64]; omega
                    have u7 : IntKind.i64.wrap ((j : Int) + 1) = ((j + 1 : Nat) : Int) := by rw [IntWalk.i64_in _ (by have := HN.out; omega)]; omega
                    generalize 10 * k + (y - 48) = k2 at *
                    go_wp2
                    go_roundw
                    case rel => exact ⟨j + 1, k2, rfl, rfl, by omega, hb, trivial, HQ4⟩
                    case measure => simp [intOf]; omega
            · have i1 : ¬ (j : Int) < (N : Int) := by omega
              have hq := HQ.out
              rw [List.drop_of_length_le (by have := HN.out; omega)] at hq
              go_wp2
              go_ret2
              rw [← hq]
              exact ⟨rfl, rfl⟩

/-- an int that a word is, as the reference tells it -/
def rn (l : By) : Int × Bool := match num l with
  | some n => (n, true)
  | none => (0, false)
def rb (l : By) : Nat × Bool := match bit l with
  | some n => (n, true)
  | none => (0, false)
theorem rn_minus {r : By} : ((dgs 9223372036854775808 r).1 = 0 ∧ rn (45 :: r) = (0, false)) ∨ (0 < (dgs 9223372036854775808 r).1 ∧ (dgs 9223372036854775808 r).1 ≤ 9223372036854775808 ∧ rn (45 :: r) = (-((dgs 9223372036854775808 r).1 : Int), (dgs 9223372036854775808 r).2)) := by
  rw [dgs_eq (by decide) (by decide)]
  unfold rn num
  simp only [if_true]
  cases h : un 9223372036854775808 r with
  | none => left; exact ⟨rfl, rfl⟩
  | some u =>
    have hl := (un_iff.1 h).2
    simp only
    by_cases h0 : u = 0
    · left; rw [if_pos h0]; exact ⟨h0, rfl⟩
    · right; rw [if_neg h0]; exact ⟨by omega, hl, rfl⟩
theorem rn_plain {c : UInt8} {r : By} (hc : c ≠ 45) : rn (c :: r) = (((dgs 9223372036854775807 (c :: r)).1 : Int), (dgs 9223372036854775807 (c :: r)).2) ∧ (dgs 9223372036854775807 (c :: r)).1 ≤ 9223372036854775807 := by
  rw [dgs_eq (by decide) (by decide)]
  unfold rn num
  simp only
  rw [if_neg hc]
  cases h : un 9223372036854775807 (c :: r) with
  | none => exact ⟨rfl, by decide⟩
  | some u => exact ⟨rfl, (un_iff.1 h).2⟩
theorem rb_eq (l : By) : rb l = dgs 18446744073709551615 l := by
  rw [dgs_eq (by decide) (by decide)]
  rfl
set_option maxHeartbeats 1600000 in
theorem rnum_any (l : By) (w : World) (hl : l.length ≤ 1000000000) : Calls Tryz.prog 30 #[.string (S l)] w fun e w' => e = .returned (.tuple #[.int .i64 (rn l).1, .bool (rn l).2]) ∧ w = w' := by
  cases l with
  | nil =>
    have H := Lib.hid (fun W => rdig_any 9223372036854775807 [] W (by decide) (by decide) (by decide))
    have e : dgs 9223372036854775807 [] = (0, false) := rfl
    have e2 : rn [] = (0, false) := rfl
    have e1 := s_empty
    rw [e] at H
    rw [e2]
    clear e e2
    generalize S [] = s at *
    go_enter Tryz.func30, Tryz.ntmps30
    go_wp2_with (go_at_call 31; refine (H.out _).mono ?_; rintro e w' ⟨rfl, rfl⟩)
    go_ret2
    exact ⟨rfl, rfl⟩
  | cons c r =>
    have hl0 : ¬ (S (c :: r)).toList = [] := by rw [s_list]; simp
    have hl1 : (S (c :: r)).toList.isEmpty = false := by rw [s_list]; rfl
    have k0 := fun W => run_idx W (c :: r) 0 c rfl
    have hn0 : ((0 : Nat) : Int) = 0 := rfl
    rw [hn0] at k0
    clear hn0
    by_cases hc : c = 45
    · subst hc
      have e45 : (((45 : UInt8).toNat : Nat) : Int) = 45 := rfl
      rw [e45] at k0
      have kf := fun W => run_from W (45 :: r) 1 (by simp)
      have hn1 : ((1 : Nat) : Int) = 1 := rfl
      rw [hn1] at kf
      simp only [List.drop_succ_cons, List.drop_zero] at kf
      have H := Lib.hid (fun W => rdig_any 9223372036854775808 r W (by decide) (by decide) (by simp at hl; omega))
      have hm := @rn_minus r
      generalize rn (45 :: r) = R at *
      generalize dgs 9223372036854775808 r = D at *
      obtain ⟨d, b⟩ := D
      simp only at hm H
      clear hl e45 hn1
      generalize S (45 :: r) = s at *
      generalize S r = t at *
      rcases hm with ⟨h1, h2⟩ | ⟨h1, h3, h2⟩
      · subst h1
        subst h2
        have z0 : (((0 : Nat) : Int)) = 0 := rfl
        rw [z0] at H
        go_enter Tryz.func30, Tryz.ntmps30
        go_wp2_with (go_at_call 31; refine (H.out _).mono ?_; rintro e w' ⟨rfl, rfl⟩)
        go_ret2
        exact ⟨rfl, rfl⟩
      · subst h2
        have n0 : ¬ (d : Int) = 0 := by omega
        have u1 : IntKind.u64.wrap ((d : Int) - 1) = (d : Int) - 1 := by rw [IntKind.wrap_u64]; omega
        have u2 : IntKind.i64.wrap ((d : Int) - 1) = (d : Int) - 1 := IntWalk.i64_in _ (by omega)
        have u3 : IntKind.i64.wrap (-((d : Int) - 1)) = 1 - (d : Int) := by rw [IntWalk.i64_in _ (by omega)]; omega
        have u4 : IntKind.i64.wrap (1 - (d : Int) - 1) = -(d : Int) := by rw [IntWalk.i64_in _ (by omega)]; omega
        go_enter Tryz.func30, Tryz.ntmps30
        go_wp2_with (go_at_call 31; refine (H.out _).mono ?_; rintro e w' ⟨rfl, rfl⟩)
        go_ret2
        exact ⟨rfl, rfl⟩
    · have hc2 : ¬ (c.toNat : Int) = 45 := fun h => hc (UInt8.toNat_inj.1 (by show c.toNat = 45; omega))
      obtain ⟨hp, hp2⟩ := @rn_plain c r hc
      have H := Lib.hid (fun W => rdig_any 9223372036854775807 (c :: r) W (by decide) (by decide) hl)
      rw [hp]
      clear hp
      generalize dgs 9223372036854775807 (c :: r) = D at *
      obtain ⟨d, b⟩ := D
      simp only at H hp2
      have u2 : IntKind.i64.wrap (d : Int) = (d : Int) := IntWalk.i64_in _ (by omega)
      clear hl hc
      generalize (c.toNat : Int) = x at *
      generalize S (c :: r) = s at *
      go_enter Tryz.func30, Tryz.ntmps30
      go_wp2_with (go_at_call 31; refine (H.out _).mono ?_; rintro e w' ⟨rfl, rfl⟩)
      go_ret2
      exact ⟨rfl, rfl⟩
end Go.Proofs.YthpbcbbiampamaaGreatDoor.Scr
