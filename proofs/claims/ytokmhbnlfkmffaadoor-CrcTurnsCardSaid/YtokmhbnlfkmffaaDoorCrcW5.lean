/- The walk of CrcTurns. -/
import Derived.Test.YtokmhbnlfkmffaaDoorCrcW1
import Derived.Laws.OwnMore
import Derived.Deep.AppendLies
namespace Go.Proofs.YtokmhbnlfkmffaaDoor.Walk
open Go.RowKit Go.ChangeShapes Go.Proofs.YtokmhbnlfkmffaaDoor.Plain Go.Proofs.YtokmhbnlfkmffaaDoor.Sees Go.Proofs.YtokmhbnlfkmffaaDoor.Oct Go.Proofs.YtokmhbnlfkmffaaDoor.Crc
set_option linter.unusedVariables false

/-- What a sealed row's bytes sum to, before it is turned. -/
def K : Nat := 3736805603

theorem open_no (A : Option Addr) (N C : Nat) (xs : List Int) (n : Nat) (w : World) (hl : xs.length = n + 4) (hn : n ≤ 900000) (hN : n + 4 = N) (hc : n + 4 ≤ C) (ht : Tab w) (hs : Sees w w.heap.size A (nums .u8 xs)) (hb : ∀ x ∈ xs, 0 ≤ x ∧ x ≤ 255)
    (hne : upd 4294967295 xs ≠ K) : Calls Tryd.prog 12 #[.slice A N C] w fun e w' => e = .returned (.tuple #[.slice none 0 0, .bool false]) ∧ Below w.heap.size w w' := by
  subst hN
  have hz : xs = xs.take n ++ xs.drop n := (List.take_append_drop n xs).symm
  have hpl : (xs.take n).length = n := by rw [List.length_take]; omega
  have hql : (xs.drop n).length = 4 := by rw [List.length_drop]; omega
  refine Open_no A n C (xs.take n) (xs.drop n) w hpl hql hn hc ht (hz ▸ hs) (hz ▸ hb) (fun h => hne ?_)
  rw [hz, h]
  exact upd_sealed _ (fun b h => hb b (List.mem_of_mem_take h))

/-- one bit that is turned, in a row -/
theorem upd_set (xs : List Int) (q k : Nat) (hq : q < xs.length) (hk : k < 8) (b' : Int) (hb' : b'.toNat = (xs[q]).toNat ^^^ 2 ^ k) (s : Nat) :
    upd s (xs.set q b') = upd s xs ^^^ zn (8 * xs.length - (8 * q + k)) 1 := by
  have h1 : xs = xs.take q ++ xs[q] :: xs.drop (q + 1) := by
    rw [← List.drop_eq_getElem_cons hq, List.take_append_drop]
  have h2 : xs.set q b' = xs.take q ++ b' :: xs.drop (q + 1) := by
    rw [List.set_eq_take_append_cons_drop, if_pos hq]
  have h3 := upd_turn (xs.take q) (xs.drop (q + 1)) xs[q] b' k s hk hb'
  rw [h2, h3, ← h1, List.length_drop]
  congr 2
  omega

/-- what i rounds leave of a number of 32 bits -/
theorem low_step (t i : Nat) : t % 2 ^ (i + 1) = if t / 2 ^ i % 2 = 1 then t % 2 ^ i ^^^ 2 ^ i else t % 2 ^ i := by
  have h1 : t % 2 ^ (i + 1) = t % 2 ^ i + 2 ^ i * (t / 2 ^ i % 2) := by rw [Nat.pow_succ, Nat.mod_mul]
  rw [h1]
  rcases Nat.mod_two_eq_zero_or_one (t / 2 ^ i) with h | h
  · rw [if_neg (by omega), h]; simp
  · rw [if_pos h, h, Nat.mul_one]
    have := Nat.two_pow_add_eq_or_of_lt (b := t % 2 ^ i) (i := i) (Nat.mod_lt _ (Nat.two_pow_pos i)) 1
    have hx : t % 2 ^ i &&& 2 ^ i = 0 := by
      apply Nat.eq_of_testBit_eq
      intro j
      rw [Nat.testBit_and, Nat.testBit_two_pow, Nat.zero_testBit, Nat.testBit_mod_two_pow]
      by_cases hj : i = j
      · subst hj; simp
      · simp [hj]
    have h5 : t % 2 ^ i + 2 ^ i = (t % 2 ^ i ||| 2 ^ i) := by
      rw [Nat.mul_one] at this
      rw [Nat.or_comm, ← this, Nat.add_comm]
    rw [h5]
    apply Nat.eq_of_testBit_eq
    intro j
    have h6 := congrArg (fun n => n.testBit j) hx
    simp only [Nat.testBit_and, Nat.zero_testBit] at h6
    rw [Nat.testBit_or, Nat.testBit_xor]
    cases hA : (t % 2 ^ i).testBit j <;> cases hB : (2 ^ i).testBit j <;> simp [hA, hB] at h6 ⊢

/-- the invariant of the rounds: bytes of which the bits from bit on are turned as the lower i bits of t say -/
structure Turned (S : Nat) (bit t i : Nat) (xs : List Int) : Prop where
  len : xs.length = S
  byte : ∀ x ∈ xs, 0 ≤ x ∧ x ≤ 255
  sum : upd 4294967295 xs = K ^^^ zn (8 * S - bit) (t % 2 ^ i)

theorem Turned.skip {S bit t i : Nat} {xs : List Int} (h : Turned S bit t i xs) (ho : t / 2 ^ i % 2 = 0) : Turned S bit t (i + 1) xs :=
  ⟨h.len, h.byte, by rw [low_step, if_neg (by omega)]; exact h.sum⟩
theorem Turned.turn {S bit t i : Nat} {xs : List Int} (h : Turned S bit t i xs) (ho : t / 2 ^ i % 2 = 1) (hi : i < 32) (hb : bit + 32 ≤ 8 * S) (b' : Int) (q k : Nat) (hq : q = (bit + i) / 8) (hk : k = (bit + i) % 8)
    (hb0 : 0 ≤ b' ∧ b' ≤ 255) (hb' : b'.toNat = (xs[q]?.getD 0).toNat ^^^ 2 ^ k) : Turned S bit t (i + 1) (xs.set q b') := by
  have hql : q < xs.length := by rw [h.len]; omega
  refine ⟨by rw [List.length_set]; exact h.len, fun x hx => ?_, ?_⟩
  · rcases List.mem_or_eq_of_mem_set hx with h1 | h1
    · exact h.byte x h1
    · subst h1; exact hb0
  · rw [upd_set xs q k hql (by omega) b' (by simpa [hql] using hb'), h.sum, h.len, low_step, if_pos ho, zn_xor, ← Nat.xor_assoc]
    congr 1
    have e : 8 * S - bit = i + (8 * S - (8 * q + k)) := by omega
    have h7 := zn_pow i 1
    rw [Nat.mul_one] at h7
    rw [e, zn_add, h7]
theorem Turned.end_ {S bit t : Nat} {xs : List Int} (h : Turned S bit t 32 xs) (ht : t < 4294967296) (h0 : t ≠ 0) : upd 4294967295 xs ≠ K := by
  rw [h.sum, show (2 : Nat) ^ 32 = 4294967296 from rfl, Nat.mod_eq_of_lt ht]
  intro e
  have : zn (8 * S - bit) t = 0 := by
    have h1 : K ^^^ (K ^^^ zn (8 * S - bit) t) = K ^^^ K := by rw [e]
    rw [← Nat.xor_assoc, Nat.xor_self, Nat.zero_xor] at h1
    exact h1
  exact h0 (zn_inj _ t ht this)

theorem xor_u8 (a b : Nat) (ha : a < 256) (hb : b < 256) : bits .xor .u8 (a : Int) (b : Int) = ((a ^^^ b : Nat) : Int) := u8_xor_nat a b ha hb

set_option maxRecDepth 100000 in
set_option maxHeartbeats 3200000 in
theorem crcTurns_walk (w : World) (ht : Tab w) (a0 : Option Addr) (len0 cap0 : Nat) (z0 : List Int) (a1 a2 : Int)
    (hl0 : z0.length = len0) (hc0 : len0 ≤ cap0) (hx0 : cap0 ≤ maxLen) (hs0 : Sees w w.heap.size a0 (nums .u8 z0)) (hw0 : ∀ n ∈ z0, (Lit.int .u8 n).wf = true)
    (w1 : (Lit.int .u16 a1).wf = true) (w2 : (Lit.int .u32 a2).wf = true) :
    Calls Tryd.prog 5 #[.slice a0 len0 cap0, .int .u16 a1, .int .u32 a2] w fun e w' => e = .returned (.bool true) ∧ Below w.heap.size w w' := by
  unfold maxLen at hx0
  have hz0 : ∀ x ∈ z0, 0 ≤ x ∧ x ≤ 255 := fun x hx => bounds_u8 (hw0 x hx)
  have hp := bounds_u16 w1
  have hq := bounds_u32 w2
  obtain ⟨p, rfl⟩ := Int.eq_ofNat_of_zero_le hp.1
  obtain ⟨t, rfl⟩ := Int.eq_ofNat_of_zero_le hq.1
  have HL0 := Lib.hid hl0
  have HZ0 := Lib.hid hz0
  have HT := Lib.hid ht
  clear hl0 hw0 hz0 ht w1 w2
  by_cases hbig : 1000 < len0 ∨ t = 0
  · rcases (show 1000 < len0 ∨ ¬ 1000 < len0 ∧ t = 0 by omega) with h | ⟨h, rfl⟩
    all_goals
      go_enter Tryd.func5, Tryd.ntmps5
      go_wp2_with (go_at_call 9; refine (awake_any _ HT.out).mono ?_; rintro e w1 ⟨rfl, hd1⟩)
      go_ret
      exact ⟨rfl, hd1⟩
  · have h1 : len0 ≤ 1000 := by omega
    have h2 : ¬ t = 0 := by omega
    have h2' : ((t : Int) == 0) = false := by rw [beq_eq_false_iff_ne]; omega
    have H2 := Lib.hid h2
    have ht4 : t < 4294967296 := by omega
    clear hbig h2
    have hsl : (z0 ++ lowB 4 (crc z0 : Nat)).length = len0 + 4 := by rw [List.length_append, HL0.out, lowB_length]
    have hT0 : ∀ bit, Turned (len0 + 4) bit t 0 (z0 ++ lowB 4 (crc z0 : Nat)) := fun bit =>
      ⟨hsl, fun b h => (List.mem_append.1 h).elim (HZ0.out b) (lowB_mem 4 _ b), by rw [upd_sealed z0 HZ0.out, Nat.pow_zero, Nat.mod_one, zn_zero, Nat.xor_zero]; rfl⟩
    have hbit := Nat.mod_lt p (show 0 < 8 * (len0 + 4) - 31 by omega)
    have e1 : (p : Int) % (8 * ((len0 + 4 : Nat) : Int) - 31) = ((p % (8 * (len0 + 4) - 31) : Nat) : Int) := by
      rw [Int.natCast_emod]
      congr 1
      omega
    generalize p % (8 * (len0 + 4) - 31) = bit at *
    have hT := hT0 bit
    have HT0 := Lib.hid hT
    clear hsl hT0 hT
    obtain ⟨S, hS⟩ : ∃ S, len0 + 4 = S := ⟨_, rfl⟩
    rw [hS] at e1 hbit HT0
    have hseal : ∀ W, Below w.heap.size w W → Calls Tryd.prog 14 #[.slice a0 len0 cap0] W fun e w' => ∃ A C, e = .returned (.slice A S C) ∧ S ≤ C ∧ w'.ownsRow W.heap.size 5 1 (.slice A S C) S (nums .u8 (z0 ++ lowB 4 (crc z0 : Nat))) ∧ Below W.heap.size W w' := fun W hW => by
      refine (Seal_any a0 len0 cap0 z0 W HL0.out (by omega) hc0 (HT.out.next hW) ((hs0.below hW (Nat.le_refl _)).more hW.size) HZ0.out).mono ?_
      rintro e w2 ⟨v2, rfl, ho2, hd2⟩
      rw [hS] at ho2
      obtain ⟨A2, C2, rfl, hC2, hs2, hlt2⟩ := own_form ho2
      exact ⟨A2, C2, rfl, hC2, ho2, hd2⟩
    have hopen : ∀ (W : World) (A : Option Addr) (C : Nat), Tab W → S ≤ C → Sees W W.heap.size A (nums .u8 (z0 ++ lowB 4 (crc z0 : Nat))) → Calls Tryd.prog 12 #[.slice A S C] W fun e w' => ∃ A' C', e = .returned (.tuple #[.slice A' len0 C', .bool true]) ∧ Sees w' w'.heap.size A' (nums .u8 z0) ∧ Below W.heap.size W w' := fun W A C hW hC hs => by
      subst hS
      refine (Open_yes A len0 C z0 W HL0.out (by omega) hC hW hs HZ0.out).mono ?_
      rintro e w' ⟨v, rfl, ho, hd⟩
      obtain ⟨A', c', rfl, _, hs', _⟩ := own_form ho
      exact ⟨A', c', rfl, hs', hd⟩
    have e2 : ((len0 : Int) + 4) = (S : Int) := by omega
    have hS1 : S ≤ 1004 := by omega
    have hS0 : 4 ≤ S := by omega
    have HS := Lib.hid hseal
    have HO := Lib.hid hopen
    have HSS := Lib.hid hS
    clear hseal hopen hS
    go_enter Tryd.func5, Tryd.ntmps5
    go_wp2_with (first
      | (go_at_call 9; refine (awake_any _ HT.out).mono ?_; rintro e w1 ⟨rfl, hd1⟩)
      | (go_at_call 14
         refine (HS.out _ hd1).mono ?_
         rintro e w2 ⟨A2, C2, rfl, hC2, ho2, hd2⟩
         have hd3 := hd1.trans (hd2.mono hd1.size)
         have hs2 := Sees.own ho2)
      | (go_at_call 12
         refine (HO.out _ A2 C2 (HT.out.next hd3) hC2 hs2).mono ?_
         rintro e w4 ⟨A4, C4, rfl, hs4, hd4⟩
         have hd5 := hd3.trans (hd4.mono hd3.size)
         have k4 := conv_sees (c := C4) hs4 HL0.out
         have k0 := conv_sees (c := cap0) (hs0.below hd5 (Nat.le_refl _)) HL0.out))
    clear k4 k0
    rw [e1]
    have ho5 := own_below ho2 hd4 (fun k hk => (ho2.lt k hk).2)
    obtain ⟨g, c, hg, hgb, _⟩ := World.ownsRow.form ho5 (by omega)
    injection hg with hA hS' hc'
    subst hA
    subst hc'
    clear hS'
    have hb5 : Below w1.heap.size w1 w4 := hd2.trans (hd4.mono hd2.size)
    have HB := Lib.hid e1
    clear e1
    go_loopw [2, 12] (fun x i wr => ∃ (k : Nat) (xs : List Int), k ≤ 32 ∧ i = .int .i64 k ∧ x = .int .u32 ((t / 2 ^ k : Nat) : Int) ∧ wr.ownsRow w1.heap.size 5 1 (.slice (some ⟨g, 0, none⟩) S C2) S (nums .u8 xs) ∧ Turned S bit t k xs ∧ Below w1.heap.size w1 wr) (fun _ i _ => 32 - (intOf i).toNat)
    case atStart => exact ⟨0, _, Nat.zero_le _, rfl, by simp, ho5, HT0.out, hb5⟩
    case round =>
      obtain ⟨k, xs, hk, rfl, rfl, hown, htr, hbel⟩ := hrel
      have hsz := hbel.size
      have HTR := Lib.hid htr
      clear htr
      by_cases hlt : k < 32
      · have hy4 : t / 2 ^ k < 4294967296 := Nat.lt_of_le_of_lt (Nat.div_le_self _ _) ht4
        have hyn : t / 2 ^ k / 2 = t / 2 ^ (k + 1) := by rw [Nat.pow_succ, Nat.div_div_eq_div_mul]
        have HYN := Lib.hid hyn
        clear hyn
        generalize hy : t / 2 ^ k = y at *
        have HY := Lib.hid hy
        clear hy
        rcases Nat.mod_two_eq_zero_or_one y with ho | ho
        · have o1 : ((y : Int) % 2 == 1) = false := by rw [beq_eq_false_iff_ne]; omega
          have HO2 := Lib.hid ho
          clear ho
          go_wp2
          go_roundw
          case rel => exact ⟨k + 1, xs, by omega, by go_num, by rw [← HYN.out]; go_num, hown, HTR.out.skip (by rw [HY.out]; exact HO2.out), hbel⟩
          case measure => simp [intOf]; omega
        · have o1 : ((y : Int) % 2 == 1) = true := by rw [beq_iff_eq]; omega
          have HO2 := Lib.hid ho
          clear ho
          have e5 : ((bit : Int) + (k : Int)) % 8 = (((bit + k) % 8 : Nat) : Int) := by omega
          have e6 : ((bit : Int) + (k : Int)) / 8 = (((bit + k) / 8 : Nat) : Int) := by omega
          have hm8 : (bit + k) % 8 < 8 := Nat.mod_lt _ (by decide)
          have hqS : (bit + k) / 8 < S := by omega
          generalize hm : (bit + k) % 8 = m at *
          generalize hq0 : (bit + k) / 8 = q at *
          have HM := Lib.hid hm
          have HQ := Lib.hid hq0
          clear hm hq0
          go_wp2
          go_loop [13, 14] (fun o j => ∃ r : Nat, r ≤ m ∧ j = .int .i64 r ∧ o = .int .u8 ((2 ^ r : Nat) : Int)) (fun _ j => m - (intOf j).toNat)
          case atStart => exact ⟨0, Nat.zero_le _, rfl, rfl⟩
          case round =>
            obtain ⟨r, hr, rfl, rfl⟩ := hrel
            by_cases hrm : r < m
            · have hr2 : (2 : Nat) ^ r ≤ 64 := show (2 : Nat) ^ r ≤ 2 ^ 6 from Nat.pow_le_pow_right (by decide) (by omega)
              have hrs : 2 ^ r * 2 = 2 ^ (r + 1) := (Nat.pow_succ 2 r).symm
              have HRS := Lib.hid hrs
              clear hrs
              generalize (2 : Nat) ^ r = R at *
              go_wp2
              go_round
              case rel => exact ⟨r + 1, by omega, by go_num, by rw [← HRS.out]; go_num⟩
              case measure => simp [intOf]; omega
            · obtain rfl : r = m := by omega
              have hr2 : (2 : Nat) ^ r ≤ 128 := show (2 : Nat) ^ r ≤ 2 ^ 7 from Nat.pow_le_pow_right (by decide) (by omega)
              have hc1 := hown.cellAt q (by omega)
              rw [nums_at .u8 xs q (by rw [HTR.out.len]; exact hqS)] at hc1
              have hf1 := hown.frozenAt q
              have hxb := HTR.out.byte _ (get_mem xs q (by rw [HTR.out.len]; exact hqS) 0)
              generalize hx : xs[q]?.getD 0 = x at *
              obtain ⟨z, rfl⟩ := Int.eq_ofNat_of_zero_le hxb.1
              have E1 := xor_u8 z (2 ^ r) (by omega) (by omega)
              have hzl : z ^^^ 2 ^ r < 2 ^ 8 := Nat.xor_lt_two_pow (by omega) (by omega)
              obtain ⟨b', hb'⟩ : ∃ b', z ^^^ 2 ^ r = b' := ⟨_, rfl⟩
              rw [hb'] at E1 hzl
              have HX := Lib.hid hx
              have HB' := Lib.hid hb'
              generalize hR : (2 : Nat) ^ r = R at *
              have HR := Lib.hid hR
              clear hx hb' hR
              go_wp2
              go_roundw
              case rel =>
                refine ⟨k + 1, xs.set q (b' : Int), by omega, by go_num, by rw [← HYN.out]; go_num, ?_, ?_, hbel.setCell hgb _⟩
                · have h5 := (hown.stored q (.int .u8 (b' : Int))).1
                  rw [nums, List.map_set]
                  exact h5
                · exact HTR.out.turn (by rw [HY.out]; exact HO2.out) hlt (by omega) b' q r HQ.out.symm HM.out.symm (by omega) (by rw [HX.out, Int.toNat_natCast, Int.toNat_natCast, ← HB'.out, HR.out])
              case measure => simp [intOf]; omega
      · obtain rfl : k = 32 := by omega
        have hne := HTR.out.end_ ht4 H2.out
        have HNE := Lib.hid hne
        have hbf : Below w.heap.size w wr := hd1.trans (hbel.mono hd1.size)
        clear hne
        go_wp2_with (go_at_call 12
                     refine (open_no _ S C2 xs len0 _ (by rw [HTR.out.len]; exact HSS.out.symm) (by omega) HSS.out (by have := HSS.out; omega) (HT.out.next hbf) (Sees.own hown) HTR.out.byte HNE.out).mono ?_
                     rintro e w6 ⟨rfl, hd6⟩)
        go_ret
        exact ⟨rfl, hbf.trans (hd6.mono hbf.size)⟩

end Go.Proofs.YtokmhbnlfkmffaaDoor.Walk
