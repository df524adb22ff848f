/- Numbers that are read. -/
import Derived.Test.YthpbcbbiampamaaGreatDoorScrI
namespace Go.Proofs.YthpbcbbiampamaaGreatDoor.Scr
open Go.RowKit Go.Maps Go.Proofs.YthpbcbbiampamaaGreatDoor.ScrP Go.Proofs.YthpbcbbiampamaaGreatDoor.Box Go.Proofs.YthpbcbbiampamaaGreatDoor.Held Go.Proofs.YthpbcbbiampamaaGreatDoor.Sees Go.Proofs.YthpbcbbiampamaaGreatDoor.Jrn
set_option linter.unusedVariables false
set_option linter.unusedSimpArgs false
set_option maxRecDepth 100000

theorem Rd.below {w W W' : World} {X R : Nat} {ls : List By} {b : Bool} (h : Rd W X R ls b W') (hB : Below w.heap.size w W) (hX : w.heap.size ≤ X) : Below w.heap.size w W' :=
  hB.grown h.gr hB.size (fun g hg => by injection hg with hg; omega)
theorem atoi_yes {x : By} {v : Int} {w : World} {e : Ending} {w' : World} (ha : Lib.atoiAll x = .ok v) (h : AtoiPost x w e w') : ∃ v' : Int, v' = v ∧ e = .returned (.tuple #[.int .i64 v, .nilIface]) ∧ Below w.heap.size w w' := by
  rcases h with ⟨v2, h1, h2, h3⟩ | ⟨h1, _⟩
  · rw [ha] at h1
    cases h1
    exact ⟨v, rfl, h2, h3⟩
  · exact absurd ha (h1 v)
/-- behind a number -/
def NumPost (W : World) (X R : Nat) (ls : List By) (b : Bool) (e : Ending) (W' : World) : Prop :=
  ∃ z : Int, e = .returned (.int .i64 z) ∧ Hid ((∀ m, num (hd ls) = some m → z = m) ∧ Rd W X R ls.tail (b || (num (hd ls)).isNone) W')

theorem atoi_no {x : By} {w : World} {e : Ending} {w' : World} (ha : ∀ v, Lib.atoiAll x ≠ .ok v) (h : AtoiPost x w e w') : ∃ z N, e = .returned (.tuple #[.int .i64 z, .iface 169 (.pointer (some ⟨N, 0, none⟩))]) ∧ Below w.heap.size w w' := by
  rcases h with ⟨v2, h1, h2, h3⟩ | ⟨_, h⟩
  · exact absurd h1 (ha v2)
  · exact h
theorem uint_yes {x : By} {v : Nat} {w : World} {e : Ending} {w' : World} (ha : Lib.parseUintB 64 x = .ok v) (h : UintPost x w e w') : e = .returned (.tuple #[.int .u64 v, .nilIface]) ∧ Below w.heap.size w w' := by
  rcases h with ⟨v2, h1, h2, h3⟩ | ⟨h1, _⟩
  · rw [ha] at h1
    cases h1
    exact ⟨h2, h3⟩
  · exact absurd ha (h1 v)
theorem uint_no {x : By} {w : World} {e : Ending} {w' : World} (ha : ∀ v, Lib.parseUintB 64 x ≠ .ok v) (h : UintPost x w e w') : ∃ z : Nat, ∃ N, z < 18446744073709551616 ∧ e = .returned (.tuple #[.int .u64 z, .iface 169 (.pointer (some ⟨N, 0, none⟩))]) ∧ Below w.heap.size w w' := by
  rcases h with ⟨v2, h1, h2, h3⟩ | ⟨_, h⟩
  · exact absurd h1 (ha v2)
  · exact h
set_option maxHeartbeats 3200000 in
theorem Number_any (w : World) (hE : Env w) (X R : Nat) (ls : List By) (b : Bool) (W : World) (hB : Below w.heap.size w W) (hX : w.heap.size ≤ X) (h : Us W X R ls b) : Calls Tryz.prog 26 #[.pointer (some ⟨X, 0, none⟩)] W (NumPost W X R ls b) := by
  have HN := Lib.hid (Next_any X R ls b W h)
  have hl := hd_len h.len
  have HEn : Hid (∀ {W'} {ls'} {b'}, Rd W X R ls' b' W' → Env W') := Lib.hid fun k => hE.next (k.below hB hX)
  unfold NumPost
  clear h
  generalize ls.tail = ls' at *
  generalize hd ls = x at *
  have HA := Lib.hid (fun W' (k : Env W') => Atoi_any x hl W' k)
  by_cases hok : ∃ v : Int, Lib.atoiAll x = .ok v
  · obtain ⟨v, ha⟩ := hok
    have hv := Lib.atoiAll_bounds ha
    have HVB := Lib.hid hv
    have HI := Lib.hid (fun W' (k : Env W') => Itoa_any v hv W' k)
    have hn := num_ok ha
    by_cases hx : Lib.itoa v = x
    · rw [if_pos hx] at hn
      have hb : (b || (num x).isNone) = b := by rw [hn]; simp
      rw [hb]
      have HQ : Hid (∀ m, num x = some m → v = m) := Lib.hid fun m hm => by rw [hn] at hm; exact Option.some.inj hm
      rw [hx] at HI
      have HV := Lib.hid ha
      clear hb hn hx ha hv
      generalize S x = s at *
      go_enter Tryz.func26, Tryz.ntmps26
      go_wp2_with (first
        | (go_at_call 44; refine HN.out.mono ?_; rintro e w1 ⟨rfl, K1⟩)
        | (go_at_call 45; refine (HA.out _ (HEn.out K1.out)).mono ?_; rintro e w2 h2; obtain ⟨v', hv', rfl, hb2⟩ := atoi_yes HV.out h2; have K2 := Lib.hid (K1.out.next hb2))
        | (go_at_call 17; refine (HI.out _ (HEn.out K2.out)).mono ?_; rintro e w3 ⟨rfl, hb3⟩; have K3 := Lib.hid (K2.out.next hb3); obtain ⟨c1, f1⟩ := K3.out.cells))
      go_ret
      exact ⟨v, rfl, Lib.hid ⟨HQ.out, K3.out⟩⟩
    · rw [if_neg hx] at hn
      have hb : (b || (num x).isNone) = true := by rw [hn]; simp
      rw [hb]
      have HQ : Hid (∀ m, num x = some m → v = m) := Lib.hid fun m hm => by rw [hn] at hm; cases hm
      have HV := Lib.hid ha
      have e1 := s_neq hx
      have e1n : (S (Lib.itoa v) != S x) = true := by unfold bne; rw [e1]; rfl
      have e1l := s_nel hx
      have e1b := s_nbl hx
      clear hb hn hx ha hv
      generalize S (Lib.itoa v) = t at *
      generalize S x = s at *
      go_enter Tryz.func26, Tryz.ntmps26
      go_wp2_with (first
        | (go_at_call 44; refine HN.out.mono ?_; rintro e w1 ⟨rfl, K1⟩)
        | (go_at_call 45; refine (HA.out _ (HEn.out K1.out)).mono ?_; rintro e w2 h2; obtain ⟨v', hv', rfl, hb2⟩ := atoi_yes HV.out h2; have K2 := Lib.hid (K1.out.next hb2))
        | (go_at_call 17; refine (HI.out _ (HEn.out K2.out)).mono ?_; rintro e w3 ⟨rfl, hb3⟩; have K3 := Lib.hid (K2.out.next hb3); obtain ⟨c1, f1⟩ := K3.out.cells))
      go_ret
      exact ⟨v, rfl, Lib.hid ⟨HQ.out, K3.out.bad true⟩⟩
  · have ha : ∀ v, Lib.atoiAll x ≠ .ok v := fun v e => hok ⟨v, e⟩
    have hn := num_no ha
    have hb : (b || (num x).isNone) = true := by rw [hn]; simp
    rw [hb]
    have HQ : Hid (∀ z : Int, ∀ m, num x = some m → z = m) := Lib.hid fun z m hm => by rw [hn] at hm; cases hm
    have HV := Lib.hid ha
    clear hb hn ha hok
    generalize S x = s at *
    go_enter Tryz.func26, Tryz.ntmps26
    go_wp2_with (first
      | (go_at_call 44; refine HN.out.mono ?_; rintro e w1 ⟨rfl, K1⟩)
      | (go_at_call 45; refine (HA.out _ (HEn.out K1.out)).mono ?_; rintro e w2 h2; obtain ⟨z, N, rfl, hb2⟩ := atoi_no HV.out h2; have K2 := Lib.hid (K1.out.next hb2); obtain ⟨c1, f1⟩ := K2.out.cells))
    go_ret
    exact ⟨z, rfl, Lib.hid ⟨HQ.out z, K2.out.bad true⟩⟩
/-- behind a number without a sign -/
def BitPost (W : World) (X R : Nat) (ls : List By) (b : Bool) (e : Ending) (W' : World) : Prop :=
  ∃ z : Nat, z < 18446744073709551616 ∧ e = .returned (.int .u64 z) ∧ Hid ((∀ m, bit (hd ls) = some m → z = m) ∧ Rd W X R ls.tail (b || (bit (hd ls)).isNone) W')
set_option maxHeartbeats 3200000 in
theorem Bits_any (w : World) (hE : Env w) (X R : Nat) (ls : List By) (b : Bool) (W : World) (hB : Below w.heap.size w W) (hX : w.heap.size ≤ X) (h : Us W X R ls b) : Calls Tryz.prog 27 #[.pointer (some ⟨X, 0, none⟩)] W (BitPost W X R ls b) := by
  have HN := Lib.hid (Next_any X R ls b W h)
  have hl := hd_len h.len
  have HEn : Hid (∀ {W'} {ls'} {b'}, Rd W X R ls' b' W' → Env W') := Lib.hid fun k => hE.next (k.below hB hX)
  unfold BitPost
  clear h
  generalize ls.tail = ls' at *
  generalize hd ls = x at *
  have HA := Lib.hid (fun W' (k : Env W') => Uint_any x hl W' k)
  by_cases hok : ∃ v : Nat, Lib.parseUintB 64 x = .ok v
  · obtain ⟨v, ha⟩ := hok
    have hv := Lib.parseMag_lt (by rw [← Lib.parseUintB_64]; exact ha)
    have HVB := Lib.hid hv
    have HI := Lib.hid (fun W' (k : Env W') => FUint_any v hv W' k)
    have hn := bit_ok ha
    by_cases hx : Lib.decDigits v = x
    · rw [if_pos hx] at hn
      have hb : (b || (bit x).isNone) = b := by rw [hn]; simp
      rw [hb]
      have HQ : Hid (∀ m, bit x = some m → v = m) := Lib.hid fun m hm => by rw [hn] at hm; exact Option.some.inj hm
      rw [hx] at HI
      have HV := Lib.hid ha
      clear hb hn hx ha hv
      generalize S x = s at *
      go_enter Tryz.func27, Tryz.ntmps27
      go_wp2_with (first
        | (go_at_call 44; refine HN.out.mono ?_; rintro e w1 ⟨rfl, K1⟩)
        | (go_at_call 46; refine (HA.out _ (HEn.out K1.out)).mono ?_; rintro e w2 h2; obtain ⟨rfl, hb2⟩ := uint_yes HV.out h2; have K2 := Lib.hid (K1.out.next hb2))
        | (go_at_call 18; refine (HI.out _ (HEn.out K2.out)).mono ?_; rintro e w3 ⟨rfl, hb3⟩; have K3 := Lib.hid (K2.out.next hb3); obtain ⟨c1, f1⟩ := K3.out.cells))
      go_ret
      exact ⟨v, HVB.out, rfl, Lib.hid ⟨HQ.out, K3.out⟩⟩
    · rw [if_neg hx] at hn
      have hb : (b || (bit x).isNone) = true := by rw [hn]; simp
      rw [hb]
      have HQ : Hid (∀ m, bit x = some m → v = m) := Lib.hid fun m hm => by rw [hn] at hm; cases hm
      have HV := Lib.hid ha
      have e1 := s_neq hx
      have e1n : (S (Lib.decDigits v) != S x) = true := by unfold bne; rw [e1]; rfl
      have e1l := s_nel hx
      have e1b := s_nbl hx
      clear hb hn hx ha hv
      generalize S (Lib.decDigits v) = t at *
      generalize S x = s at *
      go_enter Tryz.func27, Tryz.ntmps27
      go_wp2_with (first
        | (go_at_call 44; refine HN.out.mono ?_; rintro e w1 ⟨rfl, K1⟩)
        | (go_at_call 46; refine (HA.out _ (HEn.out K1.out)).mono ?_; rintro e w2 h2; obtain ⟨rfl, hb2⟩ := uint_yes HV.out h2; have K2 := Lib.hid (K1.out.next hb2))
        | (go_at_call 18; refine (HI.out _ (HEn.out K2.out)).mono ?_; rintro e w3 ⟨rfl, hb3⟩; have K3 := Lib.hid (K2.out.next hb3); obtain ⟨c1, f1⟩ := K3.out.cells))
      go_ret
      exact ⟨v, HVB.out, rfl, Lib.hid ⟨HQ.out, K3.out.bad true⟩⟩
  · have ha : ∀ v, Lib.parseUintB 64 x ≠ .ok v := fun v e => hok ⟨v, e⟩
    have hn := bit_no ha
    have hb : (b || (bit x).isNone) = true := by rw [hn]; simp
    rw [hb]
    have HQ : Hid (∀ z : Nat, ∀ m, bit x = some m → z = m) := Lib.hid fun z m hm => by rw [hn] at hm; cases hm
    have HV := Lib.hid ha
    clear hb hn ha hok
    generalize S x = s at *
    go_enter Tryz.func27, Tryz.ntmps27
    go_wp2_with (first
      | (go_at_call 44; refine HN.out.mono ?_; rintro e w1 ⟨rfl, K1⟩)
      | (go_at_call 46; refine (HA.out _ (HEn.out K1.out)).mono ?_; rintro e w2 h2; obtain ⟨z, N, hz, rfl, hb2⟩ := uint_no HV.out h2; have K2 := Lib.hid (K1.out.next hb2); obtain ⟨c1, f1⟩ := K2.out.cells))
    go_ret
    exact ⟨z, hz, rfl, Lib.hid ⟨HQ.out z, K2.out.bad true⟩⟩
end Go.Proofs.YthpbcbbiampamaaGreatDoor.Scr
