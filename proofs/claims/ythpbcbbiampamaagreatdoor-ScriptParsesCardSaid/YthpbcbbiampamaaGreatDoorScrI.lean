/- Words of a line that are still to be read. -/
import Derived.Test.YthpbcbbiampamaaGreatDoorScrH
namespace Go.Proofs.YthpbcbbiampamaaGreatDoor.Scr
open Go.RowKit Go.Maps Go.Proofs.YthpbcbbiampamaaGreatDoor.ScrP Go.Proofs.YthpbcbbiampamaaGreatDoor.Box Go.Proofs.YthpbcbbiampamaaGreatDoor.Held Go.Proofs.YthpbcbbiampamaaGreatDoor.Sees Go.Proofs.YthpbcbbiampamaaGreatDoor.Jrn
set_option linter.unusedVariables false
set_option linter.unusedSimpArgs false
set_option maxRecDepth 100000

/-- block X holds what is left of a line, and whether something was bad -/
structure Us (W : World) (X R : Nat) (ls : List By) (b : Bool) : Prop where
  ex : ∃ o n c, Bx W X #[.slice (some ⟨R, o, none⟩) n c, .bool b] ∧ ls.length = n ∧ n ≤ c ∧ c ≤ 100000 ∧ R ≠ X ∧ R < W.heap.size ∧ ∀ (j : Nat) x, ls[j]? = some x → W.cell? ⟨R, o + j, none⟩ = some (.string (S x))
  len : ∀ x ∈ ls, x.length ≤ 5000
theorem cell_grown {W W' : World} {row : Option Nat} {a : Addr} (hg : W.grownBy W' row) (ha : a.block < W.heap.size) (hr : row ≠ some a.block) : W'.cell? a = W.cell? a := by
  have h := hg.block a.block ha (fun e => hr e.symm)
  unfold World.cell?
  rw [h]
theorem Us.next {W W' : World} {X R : Nat} {ls : List By} {b : Bool} (h : Us W X R ls b) (hb : Below W.heap.size W W') : Us W' X R ls b := by
  obtain ⟨o, n, c, h1, h2, h3, h4, h5, h6, h7⟩ := h.ex
  exact ⟨⟨o, n, c, h1.next hb, h2, h3, h4, h5, Nat.lt_of_lt_of_le h6 hb.size, fun j x hx => (hb.cell (p := ⟨R, _, none⟩) h6).trans (h7 j x hx)⟩, h.len⟩
theorem grown_below {W W' : World} {X : Nat} (hb : Below W.heap.size W W') : W.grownBy W' (some X) := ⟨hb.os, hb.tape, hb.output, hb.size, fun i hi _ => hb.block i hi⟩
theorem grown_cell (W : World) (X j : Nat) (u : Value) : W.grownBy (W.setCell ⟨X, j, none⟩ u) (some X) :=
  ⟨rfl, rfl, rfl, by simp [World.setCell], fun i hi hne => Below.heap_setCell W ⟨X, j, none⟩ u i (fun e => hne (by rw [e]))⟩
/-- behind a call that reads words -/
structure Rd (W : World) (X R : Nat) (ls : List By) (b : Bool) (W' : World) : Prop where
  us : Us W' X R ls b
  gr : W.grownBy W' (some X)
theorem Rd.refl {W : World} {X R : Nat} {ls : List By} {b : Bool} (h : Us W X R ls b) : Rd W X R ls b W := ⟨h, World.grownBy.refl _ _⟩
theorem Rd.trans {W W' W'' : World} {X R : Nat} {ls ls' : List By} {b b' : Bool} (h : Rd W X R ls b W') (k : Rd W' X R ls' b' W'') : Rd W X R ls' b' W'' := ⟨k.us, grown_trans h.gr k.gr⟩
theorem Rd.next {W W' W'' : World} {X R : Nat} {ls : List By} {b : Bool} (h : Rd W X R ls b W') (hb : Below W'.heap.size W' W'') : Rd W X R ls b W'' := ⟨h.us.next hb, grown_trans h.gr (grown_below hb)⟩
theorem Us.bad {W : World} {X R : Nat} {ls : List By} {b : Bool} (h : Us W X R ls b) (b' : Bool) : Us (W.setCell ⟨X, 1, none⟩ (.bool b')) X R ls b' := by
  obtain ⟨o, n, c, h1, h2, h3, h4, h5, h6, h7⟩ := h.ex
  refine ⟨⟨o, n, c, ?_, h2, h3, h4, h5, by simpa [World.setCell] using h6, fun j x hx => ?_⟩, h.len⟩
  · have := h1.set (j := 1) (.bool b')
    simpa using this
  · rw [← h7 j x hx]
    exact World.cell?_setCell_other _ _ _ _ (fun e => absurd (congrArg Addr.block e) (by simpa using h5.symm))
def hd (ls : List By) : By := ls.headD []
theorem hd_len {ls : List By} (h : ∀ x ∈ ls, x.length ≤ 5000) : (hd ls).length ≤ 5000 := by
  cases ls with
  | nil => exact Nat.zero_le _
  | cons x l => exact h x List.mem_cons_self

set_option maxHeartbeats 1600000 in
theorem Next_any (X R : Nat) (ls : List By) (b : Bool) (W : World) (h : Us W X R ls b) : Calls Tryz.prog 44 #[.pointer (some ⟨X, 0, none⟩)] W fun e W' => e = .returned (.string (S (hd ls))) ∧ Hid (Rd W X R ls.tail b W') := by
  obtain ⟨o, n, c, h1, h2, h3, h4, h5, h6, h7⟩ := h.ex
  obtain ⟨c0, c1⟩ := h1.c2
  obtain ⟨f0, f1⟩ := h1.f2
  cases ls with
  | nil =>
    obtain rfl : n = 0 := by simpa using h2.symm
    have HE := Lib.hid (Rd.refl h)
    clear h h1 h7
    go_enter Tryz.func44, Tryz.ntmps44
    go_wp2
    go_ret
    exact ⟨rfl, HE⟩
  | cons x l =>
    have k0 := h7 0 x rfl
    rw [Nat.add_zero] at k0
    obtain ⟨m, rfl⟩ : ∃ m, n = m + 1 := ⟨l.length, by rw [← h2]; rfl⟩
    obtain ⟨d, rfl⟩ : ∃ d, c = d + 1 := ⟨c - 1, by omega⟩
    have hml : l.length = m := by simpa using h2
    have n0 : ¬ ((m : Int) + 1 = 0) := by omega
    have hs : ∀ q, (q = o + 1 ∨ m = 0) → Rd W X R l b (W.setCell ⟨X, 0, none⟩ (.slice (some ⟨R, q, none⟩) m d)) := fun q hq => by
      refine ⟨⟨⟨q, m, d, ?_, hml, by omega, by omega, h5, by simpa [World.setCell] using h6, fun j y hy => ?_⟩, fun y hy => h.len y (List.mem_cons_of_mem _ hy)⟩, grown_cell _ _ _ _⟩
      · have := h1.set (j := 0) (.slice (some ⟨R, q, none⟩) m d)
        simpa using this
      · rw [World.cell?_setCell_other _ _ _ _ (fun e => absurd (congrArg Addr.block e) (by simpa using h5.symm))]
        have h8 := h7 (j + 1) y (by simpa using hy)
        have h9 := (List.getElem?_eq_some_iff.1 hy).1
        rcases hq with rfl | hq
        · rwa [show o + (j + 1) = o + 1 + j by omega] at h8
        · omega
    have HS := Lib.hid hs
    clear hs h h1 h7
    show Calls _ _ _ _ fun e W' => e = .returned (.string (S x)) ∧ Hid (Rd W X R l b W')
    generalize S x = s at *
    rcases Nat.eq_zero_or_pos d with hd | hd
    · subst hd
      obtain rfl : m = 0 := by omega
      have HS' := Lib.hid (HS.out o (.inr rfl))
      clear HS
      go_enter Tryz.func44, Tryz.ntmps44
      go_wp2
      all_goals first
        | (exfalso; omega)
        | (go_ret; exact ⟨rfl, HS'⟩)
    · have HS' := Lib.hid (HS.out (o + 1) (.inl rfl))
      clear HS
      have d0 : ¬ d = 0 := by omega
      go_enter Tryz.func44, Tryz.ntmps44
      go_wp2
      all_goals first
        | (exfalso; omega)
        | (go_ret; exact ⟨rfl, HS'⟩)

theorem s_neq {a b : By} (h : a ≠ b) : (S a == S b) = false := by rw [s_beq]; exact decide_eq_false h
theorem s_nbl {a b : By} (h : a ≠ b) : ((S a).toList == (S b).toList) = false := by rw [s_beql]; exact decide_eq_false h
theorem s_nel {a b : By} (h : a ≠ b) : ¬ (S a).toList = (S b).toList := by rw [s_list, s_list]; exact h
theorem Rd.bad {W W' : World} {X R : Nat} {ls : List By} {b : Bool} (h : Rd W X R ls b W') (b' : Bool) : Rd W X R ls b' (W'.setCell ⟨X, 1, none⟩ (.bool b')) := ⟨h.us.bad b', grown_trans h.gr (grown_cell _ _ _ _)⟩
theorem Rd.cells {W W' : World} {X R : Nat} {ls : List By} {b : Bool} (h : Rd W X R ls b W') : W'.cell? ⟨X, 1, none⟩ = some (.bool b) ∧ W'.frozen? ⟨X, 1, none⟩ = false := by
  obtain ⟨o, n, c, h1, _⟩ := h.us.ex
  exact ⟨h1.c2.2, h1.f2.2⟩
/-- a word that is one of two -/
def okw (x wd : By) : Bool := decide (x = wd) || decide (x = wNone)

set_option maxHeartbeats 1600000 in
theorem Given_any (X R : Nat) (ls : List By) (b : Bool) (wd : By) (W : World) (h : Us W X R ls b) : Calls Tryz.prog 25 #[.pointer (some ⟨X, 0, none⟩), .string (S wd)] W fun e W' => e = .returned (.bool (decide (hd ls = wd))) ∧ Hid (Rd W X R ls.tail (b || !okw (hd ls) wd) W') := by
  have HN := Lib.hid (Next_any X R ls b W h)
  generalize ls.tail = ls' at *
  generalize hd ls = x at *
  unfold okw
  by_cases h1 : x = wd
  · subst h1
    have hb : (b || !(decide (x = x) || decide (x = wNone))) = b := by simp
    have hd1 : decide (x = x) = true := by simp
    rw [hb, hd1]
    clear hb hd1 h
    generalize S x = s at *
    go_enter Tryz.func25, Tryz.ntmps25
    go_wp2_with (go_at_call 44; refine HN.out.mono ?_; rintro e w1 ⟨rfl, K1⟩)
    go_ret
    exact ⟨rfl, K1⟩
  · have e1 := s_neq h1
    have hd1 : decide (x = wd) = false := by simpa using h1
    have e1n : (S x != S wd) = true := by unfold bne; rw [e1]; rfl
    have e1l := s_nel h1
    rw [hd1]
    by_cases h2 : x = wNone
    · subst h2
      have hb : (b || !(false || decide (wNone = wNone))) = b := by simp
      rw [hb]
      have en : S wNone = ⟨#[110, 111, 110, 101]⟩ := rfl
      have e1m : ¬ [110, 111, 110, 101] = (S wd).toList := by rw [s_list]; exact h1
      have e1m' : ¬ (S wd).toList = [110, 111, 110, 101] := fun e => e1m e.symm
      rw [en] at HN e1 e1n
      clear hb hd1 h h1 en e1l
      generalize S wd = s at *
      go_enter Tryz.func25, Tryz.ntmps25
      go_wp2_with (go_at_call 44; refine HN.out.mono ?_; rintro e w1 ⟨rfl, K1⟩)
      go_ret
      exact ⟨by simp [e1m], K1⟩
    · have e2 : (S x == ⟨#[110, 111, 110, 101]⟩) = false := s_neq h2
      have e2n : (S x != ⟨#[110, 111, 110, 101]⟩) = true := by unfold bne; rw [e2]; rfl
      have e2l : ¬ (S x).toList = [110, 111, 110, 101] := by rw [s_list]; exact h2
      have e2b : ((S x).toList == [110, 111, 110, 101]) = false := by rw [s_list]; exact beq_eq_false_iff_ne.2 h2
      have e1b := s_nbl h1
      have hb : (b || !(false || decide (x = wNone))) = true := by simp [h2]
      rw [hb]
      clear hb hd1 h h1 h2
      generalize S wd = s at *
      generalize S x = sx at *
      go_enter Tryz.func25, Tryz.ntmps25
      go_wp2_with (go_at_call 44; refine HN.out.mono ?_; rintro e w1 ⟨rfl, K1⟩; obtain ⟨c1, f1⟩ := K1.out.cells)
      go_ret
      exact ⟨by simp [e1l], Lib.hid (K1.out.bad true)⟩

/-- how Atoi ends -/
def AtoiPost (l : By) (w : World) (e : Ending) (w' : World) : Prop :=
  (∃ v, Lib.atoiAll l = .ok v ∧ e = .returned (.tuple #[.int .i64 v, .nilIface]) ∧ Below w.heap.size w w') ∨
  ((∀ v, Lib.atoiAll l ≠ .ok v) ∧ ∃ z N, e = .returned (.tuple #[.int .i64 z, .iface 169 (.pointer (some ⟨N, 0, none⟩))]) ∧ Below w.heap.size w w')
theorem Atoi_any (l : By) (hl : l.length ≤ 5000) (w : World) (hE : Env w) : Calls Tryz.prog 45 #[.string (S l)] w (AtoiPost l w) := by
  have hd := s_data l
  have hsz := s_size l
  cases h : Lib.atoiAll l
  · rename_i v
    refine (Shf.strconv_Atoi_ok (S l) (by omega) v (by rw [hd]; exact h) w).mono ?_
    rintro e w' ⟨rfl, h2⟩
    refine .inl ⟨v, h, rfl, ?_⟩
    rcases h2 with rfl | ⟨t, rfl⟩
    · exact Below.refl _ _
    · exact Lib.bytesWorld_below _ _ _
  · obtain ⟨tp, p, hv⟩ := hE.syn
    refine (Shf.strconv_Atoi_syntax_var (S l) (by omega) (by rw [hd]; exact h) tp p w hv).mono ?_
    rintro e w' ⟨N, rfl, _, _, h4⟩
    exact .inr ⟨fun v => by rw [h]; simp, 0, N, rfl, h4⟩
  · obtain ⟨tp, p, hv⟩ := hE.rng
    refine (Shf.strconv_Atoi_range_var (S l) (by omega) (by rw [hd]; exact h) tp p w hv).mono ?_
    rintro e w' ⟨N, rfl, _, _, h4⟩
    exact .inr ⟨fun v => by rw [h]; simp, _, N, rfl, h4⟩
/-- how ParseUint ends -/
def UintPost (l : By) (w : World) (e : Ending) (w' : World) : Prop :=
  (∃ v, Lib.parseUintB 64 l = .ok v ∧ e = .returned (.tuple #[.int .u64 v, .nilIface]) ∧ Below w.heap.size w w') ∨
  ((∀ v, Lib.parseUintB 64 l ≠ .ok v) ∧ ∃ z : Nat, ∃ N, z < 18446744073709551616 ∧ e = .returned (.tuple #[.int .u64 z, .iface 169 (.pointer (some ⟨N, 0, none⟩))]) ∧ Below w.heap.size w w')
theorem Uint_any (l : By) (hl : l.length ≤ 5000) (w : World) (hE : Env w) : Calls Tryz.prog 46 #[.string (S l), .int .i64 10, .int .i64 64] w (UintPost l w) := by
  have hd := s_data l
  have hsz := s_size l
  cases h : Lib.parseUintB 64 l
  · rename_i v
    refine (Shf.strconv_ParseUint_10_at64_ok (S l) (by omega) v (by rw [hd]; exact h) w).mono ?_
    rintro e w' ⟨rfl, h2⟩
    refine .inl ⟨v, h, rfl, ?_⟩
    first
      | exact h2 ▸ Lib.bytesWorld_below _ _ _
      | (rcases h2 with rfl | ⟨t, rfl⟩ <;> first | exact Below.refl _ _ | exact Lib.bytesWorld_below _ _ _)
  · obtain ⟨tp, p, hv⟩ := hE.syn
    refine (Shf.strconv_ParseUint_10_at64_syntax_var (S l) (by omega) (by rw [hd]; exact h) tp p w hv).mono ?_
    rintro e w' ⟨N, rfl, _, _, h4⟩
    exact .inr ⟨fun v => by rw [h]; simp, 0, N, by decide, rfl, h4⟩
  · obtain ⟨tp, p, hv⟩ := hE.rng
    refine (Shf.strconv_ParseUint_10_at64_range_var (S l) (by omega) (by rw [hd]; exact h) tp p w hv).mono ?_
    rintro e w' ⟨N, rfl, _, _, h4⟩
    exact .inr ⟨fun v => by rw [h]; simp, 18446744073709551615, N, by decide, rfl, h4⟩
end Go.Proofs.YthpbcbbiampamaaGreatDoor.Scr
