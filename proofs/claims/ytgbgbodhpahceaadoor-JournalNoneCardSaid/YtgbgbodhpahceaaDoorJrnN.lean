/- The law's example. -/
import Derived.Test.YtgbgbodhpahceaaDoorJrnJ
import Derived.Test.YtgbgbodhpahceaaDoorJrnK
import Derived.Test.YtgbgbodhpahceaaDoorJrnL
import Derived.Test.YtgbgbodhpahceaaDoorJrnQ
namespace Go.Proofs.YtgbgbodhpahceaaDoor.Jrn
open Go.RowKit Go.Proofs.YtgbgbodhpahceaaDoor.Plain Go.Proofs.YtgbgbodhpahceaaDoor.Sees Go.Proofs.YtgbgbodhpahceaaDoor.Oct Go.Proofs.YtgbgbodhpahceaaDoor.Crc Go.Proofs.YtgbgbodhpahceaaDoor.Box Go.Proofs.YtgbgbodhpahceaaDoor.Held Go.Proofs.YtgbgbodhpahceaaDoor.JrnP Go.Proofs.YtgbgbodhpahceaaDoor.Open Go.Proofs.YtgbgbodhpahceaaDoor.LgrP
set_option linter.unusedVariables false
set_option maxRecDepth 100000

/-- a journal, by its places -/
def JV (v : Value) (W : World) (z0 z1 y0 y1 : List Int) : Prop := ∃ j : Jr, v = j.val ∧ j.In W ∧ (j.n0.bs = z0 ∧ j.n1.bs = z1 ∧ j.a0.bs = y0 ∧ j.a1.bs = y1)
theorem JV.next {v : Value} {W W' : World} {z0 z1 y0 y1 : List Int} (h : JV v W z0 z1 y0 y1) (hb : Below W.heap.size W W') : JV v W' z0 z1 y0 y1 := by
  obtain ⟨j, h1, h2, h3⟩ := h
  exact ⟨j, h1, h2.next hb, h3⟩
/-- a new place of four rows -/
def AV (v : Value) (W : World) (N : Nat) : Prop := ∃ B, v = .pointer (some ⟨B, 0, none⟩) ∧ BxT W B #[.slice none 0 0, .slice none 0 0, .slice none 0 0, .slice none 0 0] 45 ∧ N ≤ B
theorem AV.next {v : Value} {W W' : World} {N : Nat} (h : AV v W N) (hb : Below W.heap.size W W') : AV v W' N := by
  obtain ⟨B, h1, h2, h3⟩ := h
  exact ⟨B, h1, h2.next hb, h3⟩
theorem from_nil (w : World) : Calls Tryd.prog 17 #[.slice none 0 0, .slice none 0 0] w (JP w [] [] [] []) := jFrom_any [] [] none none 0 0 0 0 w rfl rfl (by omega) (by omega) (.inl rfl) (.inl rfl) By.nil By.nil
theorem write_at (z0 z1 y0 y1 : List Int) (j : Jr) (x : Lg) (w : World) (ht : Tab w) (hj : j.In w) (he : j.n0.bs = z0 ∧ j.n1.bs = z1 ∧ j.a0.bs = y0 ∧ j.a1.bs = y1) (hx : x.In w) (hl : x.l.length ≤ 100) :
    Calls Tryd.prog 23 #[j.val, x.val] w (JP w (wr0 z0 z1 x.b x.m x.l) (wr1 z0 z1 x.b x.m x.l) z0 z1) := by
  have := jWrite_any j x w ht hj hx hl
  rwa [he.1, he.2.1] at this
theorem load_at (z0 z1 y0 y1 : List Int) (j : Jr) (w : World) (ht : Tab w) (hj : j.In w) (he : j.n0.bs = z0 ∧ j.n1.bs = z1 ∧ j.a0.bs = y0 ∧ j.a1.bs = y1) :
    Calls Tryd.prog 18 #[j.val] w (LP w (JrnP.load z0 z1)) := by
  have := jLoad_any j w ht hj
  rwa [he.1, he.2.1] at this
theorem tear_at (z0 z1 y0 y1 : List Int) (n : Int) (j : Jr) (w : World) (hn : n ≤ 9223372036854775807) (hj : j.In w) (he : j.n0.bs = z0 ∧ j.n1.bs = z1 ∧ j.a0.bs = y0 ∧ j.a1.bs = y1) :
    Calls Tryd.prog 21 #[j.val, .int .i64 n] w (JP w (torn z0 y0 n.toNat) (torn z1 y1 n.toNat) y0 y1) := by
  have := jTear_any j n w hn hj
  rwa [he.1, he.2.1, he.2.2.1, he.2.2.2] at this
theorem slots_at (z0 z1 y0 y1 : List Int) (j : Jr) (w : World) (hj : j.In w) (he : j.n0.bs = z0 ∧ j.n1.bs = z1 ∧ j.a0.bs = y0 ∧ j.a1.bs = y1) :
    Calls Tryd.prog 20 #[j.val] w (SP w z0 z1) := by
  have := jSlots_any j w hj
  rwa [he.1, he.2.1] at this
/-- a journal in a box -/
structure AQ (w W : World) (B : Nat) (j : Jr) : Prop where
  box : BxT W B j.arr 45
  in_ : j.In W
  bel : Below w.heap.size w W
theorem AQ.next {w W W' : World} {B : Nat} {j : Jr} (h : AQ w W B j) (hb : Below W.heap.size W W') : AQ w W' B j := ⟨h.box.next hb, h.in_.next hb, h.bel.trans (hb.mono h.bel.size)⟩
theorem ts_peak {W : World} {g o : Nat} (h : TS W 69 (some ⟨g, o, none⟩) (pms [⟨3, 4⟩])) : W.cell? ⟨g, o + 1, none⟩ = some (.int .i64 4) := by
  rcases h with h | ⟨g', o', cur, hA, hg, hc⟩
  · simp [pms, Pm.cells] at h
  · injection hA with hA
    injection hA with h1 h2
    subst h1 h2
    simp [World.cell?, hg, hc 1 _ rfl]
/-- what the example's Load answers -/
def L1 (w : World) (e : Ending) (w' : World) : Prop :=
  ∃ g o c, e = .returned (.tuple #[.agg #[.int .i64 9, .int .i64 0, .int .i64 0, .slice (some ⟨g, o, none⟩) 1 c], .int .u64 1, .bool true]) ∧ TS w' 69 (some ⟨g, o, none⟩) (pms [⟨3, 4⟩]) ∧ Below w.heap.size w w'
def L0 (w : World) (e : Ending) (w' : World) : Prop :=
  ∃ A c, e = .returned (.tuple #[.agg #[.int .i64 0, .int .i64 0, .int .i64 0, .slice A 0 c], .int .u64 0, .bool false]) ∧ Below w.heap.size w w'
theorem may_ex : may 9 0 [⟨3, 4⟩] = true := by decide
theorem ex_load : JrnP.load (wr0 [] [] 9 0 [⟨3, 4⟩]) (wr1 [] [] 9 0 [⟨3, 4⟩]) = ⟨0, 9, 0, [⟨3, 4⟩], 1⟩ := by
  have e0 : JrnP.load [] [] = bad 0 := load_none (get_short By.nil (by decide)) (get_short By.nil (by decide))
  have := wr_load (z0 := []) (z1 := []) By.nil By.nil (by rw [e0]; decide) may_ex (by decide)
  rw [this, e0]
  rfl
theorem torn_short {z : List Int} {n : Nat} (h : By z) (hn : n < 26) (hz : n < z.length) : (JrnP.get (torn z [] n)).e ≠ 0 := by
  refine get_short (torn_in h By.nil) ?_
  unfold torn
  rw [if_neg (by omega), List.drop_nil, List.append_nil, List.length_take]
  omega
theorem ex_torn : JrnP.load (torn (wr0 [] [] 9 0 [⟨3, 4⟩]) [] 5) (torn (wr1 [] [] 9 0 [⟨3, 4⟩]) [] 5) = bad 0 := by
  have e0 : JrnP.load [] [] = bad 0 := load_none (get_short By.nil (by decide)) (get_short By.nil (by decide))
  have en : nxt [] [] = 1 := by rw [nxt_eq By.nil By.nil (by rw [e0]; decide), e0]; rfl
  have w0 : wr0 [] [] 9 0 [⟨3, 4⟩] = [] := by unfold wr0; rw [en, if_neg (by decide)]
  have w1 : wr1 [] [] 9 0 [⟨3, 4⟩] = put 9 0 [⟨3, 4⟩] 1 := by unfold wr1; rw [en, if_neg (by decide)]
  refine load_none ?_ ?_
  · rw [w0, torn_self]
    exact get_short By.nil (by decide)
  · rw [w1]
    exact torn_short (put_in _ _ _ _) (by decide) (by rw [put_len]; simp)
def AwkF (X : Nat) (o0 o1 : List Int) : Nat → Value → World → Prop
  | 0, vv, w' => JV vv w' [] [] [] []
  | 1, vv, _ => vv = .agg #[.int .i64 9, .int .i64 0, .int .i64 0, .slice (some ⟨X, 0, none⟩) 1 1]
  | 2, vv, w' => JV vv w' o0 o1 [] []
  | 3, vv, w' => AV vv w' X
  | _, _, _ => True

set_option maxHeartbeats 12800000 in
theorem awake_any (w : World) (ht : Tab w) : Calls Tryd.prog 9 #[] w fun e w' => e = .returned (.bool true) ∧ Below w.heap.size w w' := by
  have HW : Hid (∀ j x W, Tab W → Jr.In W j → (j.n0.bs = [] ∧ j.n1.bs = [] ∧ j.a0.bs = [] ∧ j.a1.bs = []) → Lg.In W x → x.b = 9 → x.m = 0 → x.l = [⟨3, 4⟩] → Calls Tryd.prog 23 #[j.val, x.val] W (JP W (wr0 [] [] 9 0 [⟨3, 4⟩]) (wr1 [] [] 9 0 [⟨3, 4⟩]) [] [])) := Lib.hid fun j x W h1 h2 h3 h4 h5 h6 h7 => by
    have := write_at [] [] [] [] j x W h1 h2 h3 h4 (by rw [h7]; decide)
    rwa [h5, h6, h7] at this
  have HL : Hid (∀ j W, Tab W → Jr.In W j → (j.n0.bs = wr0 [] [] 9 0 [⟨3, 4⟩] ∧ j.n1.bs = wr1 [] [] 9 0 [⟨3, 4⟩] ∧ j.a0.bs = [] ∧ j.a1.bs = []) → Calls Tryd.prog 18 #[j.val] W (L1 W)) := Lib.hid fun j W h1 h2 h3 => by
    have := load_at _ _ _ _ j W h1 h2 h3
    rw [ex_load] at this
    exact this.mono fun e w' ⟨A, c, h1, h2, h3, h4, h5⟩ => by
      rcases h4 with h | ⟨g, o, cur, rfl, h6⟩
      · simp [pms, Pm.cells] at h
      · exact ⟨g, o, c, h1, .inr ⟨g, o, cur, rfl, h6⟩, h5⟩
  have HT : Hid (∀ j W, Tab W → Jr.In W j → (j.n0.bs = wr0 [] [] 9 0 [⟨3, 4⟩] ∧ j.n1.bs = wr1 [] [] 9 0 [⟨3, 4⟩] ∧ j.a0.bs = [] ∧ j.a1.bs = []) → Calls Tryd.prog 21 #[j.val, .int .i64 5] W (JP W (torn (wr0 [] [] 9 0 [⟨3, 4⟩]) [] 5) (torn (wr1 [] [] 9 0 [⟨3, 4⟩]) [] 5) [] [])) := Lib.hid fun j W h1 h2 h3 => tear_at _ _ _ _ 5 j W (by decide) h2 h3
  have HL2 : Hid (∀ j W, Tab W → Jr.In W j → (j.n0.bs = torn (wr0 [] [] 9 0 [⟨3, 4⟩]) [] 5 ∧ j.n1.bs = torn (wr1 [] [] 9 0 [⟨3, 4⟩]) [] 5 ∧ j.a0.bs = [] ∧ j.a1.bs = []) → Calls Tryd.prog 18 #[j.val] W (L0 W)) := Lib.hid fun j W h1 h2 h3 => by
    have := load_at _ _ _ _ j W h1 h2 h3
    rw [ex_torn] at this
    exact this.mono fun e w' ⟨A, c, h1, h2, h3, h4, h5⟩ => ⟨A, c, h1, h5⟩
  generalize torn (wr0 [] [] 9 0 [⟨3, 4⟩]) [] 5 = t0 at *
  generalize torn (wr1 [] [] 9 0 [⟨3, 4⟩]) [] 5 = t1 at *
  generalize wr0 [] [] 9 0 [⟨3, 4⟩] = o0 at *
  generalize wr1 [] [] 9 0 [⟨3, 4⟩] = o1 at *
  have HTb := Lib.hid ht
  have hj0 := (J.one w #[.int .i64 3, .int .i64 4] 69).push #[.int .i64 0, .int .i64 0, .int .i64 0, .slice none 0 0] 24
  have hj := Lib.hid ((J.one w #[.int .i64 3, .int .i64 4] 69).push #[.int .i64 9, .int .i64 0, .int .i64 0, .slice (some ⟨w.heap.size, 0, none⟩) 1 1] 24)
  rw [World.size_alloc] at hj0 hj
  obtain ⟨z0, z1, z2, z3⟩ := (hj0.bx 0 rfl).c4
  obtain ⟨f0, f1, f2, f3⟩ := (hj0.bx 0 rfl).f4
  clear hj0 ht
  go_enter Tryd.func9, Tryd.ntmps9
  go_wp2
  have HA : Hid (∀ W, Below (w.heap.size + 1 + 1) ((w.alloc (.cells #[.int .i64 3, .int .i64 4] 69)).alloc (.cells #[.int .i64 9, .int .i64 0, .int .i64 0, .slice (some ⟨w.heap.size, 0, none⟩) 1 1] 24)) W → Bx W (w.heap.size + 1) #[.int .i64 9, .int .i64 0, .int .i64 0, .slice (some ⟨w.heap.size, 0, none⟩) 1 1] ∧ Tab W ∧ Lg.In W ⟨9, 0, 0, some ⟨w.heap.size, 0, none⟩, 1, [⟨3, 4⟩]⟩ ∧ w.heap.size ≤ W.heap.size) := Lib.hid fun W hW => by
    have hj1 := hj.out.next (W' := W) (by simpa using hW)
    refine ⟨hj1.bx 0 rfl, HTb.out.next hj1.below, ⟨Nat.le_refl 1, show 1 ≤ maxLen by decide, .inr ⟨w.heap.size, 0, rfl, (hj1.bx 1 rfl).lt, fun k u hu => by rw [Nat.zero_add]; exact (hj1.bx 1 rfl).cell (by simpa [pms, Pm.cells] using hu)⟩⟩, hj1.below.size⟩
  have hsz : ((w.alloc (.cells #[.int .i64 3, .int .i64 4] 69)).alloc (.cells #[.int .i64 9, .int .i64 0, .int .i64 0, .slice (some ⟨w.heap.size, 0, none⟩) 1 1] 24)).heap.size = w.heap.size + 1 + 1 := by simp
  rw [← hsz] at HA
  have HB0 := Lib.hid hj.out.below
  clear z0 z1 z2 z3 f0 f1 f2 f3 hsz
  generalize (w.alloc (.cells #[.int .i64 3, .int .i64 4] 69)).alloc (.cells #[.int .i64 9, .int .i64 0, .int .i64 0, .slice (some ⟨w.heap.size, 0, none⟩) 1 1] 24) = w0 at HA HB0 ⊢
  clear hj
  refine Held.wp_region_invt 4 (AwkF w.heap.size o0 o1) (by kernel_rfl) (by kernel_rfl) ?_ ?_ ?_
  · intro i v W W' h hb
    unfold AwkF at h ⊢
    split at h <;> first | exact h | exact JV.next h hb | exact AV.next h hb 
  · intro i o x W K hi ho hB hd hK
    have HX := Lib.hid (HA.out W hB)
    match i, ho with
    | 0, ho =>
      obtain rfl := Option.some.inj ho
      simp only [Inv.fill, Act.put, List.setIfInBounds_toArray, List.set_cons_zero, List.set_cons_succ, List.take_succ_cons, List.take_zero] at hK ⊢
      clear hd ho
      rw [wpOp]
      refine (if_pos rfl).mpr (.inl ?_)
      have hc := from_nil W
      go_simp
      refine hc.mono ?_
      rintro e w2 ⟨q, rfl, h1, h2, h3⟩
      exact hK _ _ h3 ⟨q, rfl, h1, h2⟩
    | 1, ho =>
      obtain rfl := Option.some.inj ho
      simp only [Inv.fill, Act.put, List.setIfInBounds_toArray, List.set_cons_zero, List.set_cons_succ, List.take_succ_cons, List.take_zero] at hK ⊢
      clear hd ho
      rw [wpOp]
      refine (if_pos rfl).mpr (.inl ?_)
      obtain ⟨k0, k1, k2, k3⟩ := HX.out.1.c4
      go_simp
      exact hK _ _ (Below.refl _ _) rfl
    | 2, ho =>
      obtain rfl := Option.some.inj ho
      obtain ⟨j0, e0, hi0, hb0⟩ := (hd ⟨0, .data⟩ (by simp) rfl : JV (x 0) W [] [] [] [])
      have e1 : x 1 = .agg #[.int .i64 9, .int .i64 0, .int .i64 0, .slice (some ⟨w.heap.size, 0, none⟩) 1 1] := hd ⟨1, .data⟩ (by simp) rfl
      simp only [Inv.fill, Act.put, List.setIfInBounds_toArray, List.set_cons_zero, List.set_cons_succ, List.take_succ_cons, List.take_zero, e0, e1] at hK ⊢
      clear hd ho e0 e1
      rw [wpOp]
      refine (if_pos rfl).mpr (.inl ?_)
      have hc := HW.out j0 ⟨9, 0, 0, some ⟨w.heap.size, 0, none⟩, 1, [⟨3, 4⟩]⟩ W HX.out.2.1 hi0 hb0 HX.out.2.2.1 rfl rfl rfl
      go_simp
      refine hc.mono ?_
      rintro e w2 ⟨q, rfl, h1, h2, h3⟩
      exact hK _ _ h3 ⟨q, rfl, h1, h2⟩
    | 3, ho =>
      obtain rfl := Option.some.inj ho
      simp only [Inv.fill, Act.put, List.setIfInBounds_toArray, List.set_cons_zero, List.set_cons_succ, List.take_succ_cons, List.take_zero] at hK ⊢
      clear hd ho
      rw [wpOp]
      refine (if_pos rfl).mpr (.inl ?_)
      go_simp
      exact hK _ _ below_box ⟨W.heap.size, rfl, BxT.new _ _ _, HX.out.2.2.2⟩
    | n + 4, ho => exact absurd hi (by omega)
  · intro x W hB hx
    obtain ⟨j2, e2, hi2, hb2⟩ := (hx 2 (by simp) : JV (x 2) W o0 o1 [] [])
    obtain ⟨B, e3, hB3, hn3⟩ := (hx 3 (by simp) : AV (x 3) W w.heap.size)
    simp only [Inv.fill, Act.put, List.setIfInBounds_toArray, List.set_cons_zero, List.set_cons_succ, List.take_succ_cons, List.take_zero, List.drop_succ_cons, List.drop_zero, e2, e3]
    clear hx e2 e3
    obtain ⟨⟨A0, c0, q0⟩, ⟨A1, c1, q1⟩, ⟨A2, c2, q2⟩, ⟨A3, c3, q3⟩⟩ := j2
    obtain ⟨k0, k1, k2, k3⟩ := hB3.bx.c4
    obtain ⟨f0, f1, f2, f3⟩ := hB3.bx.f4
    have HQ : Hid (AQ w ((((W.setCell ⟨B, 0, none⟩ (.slice A0 q0.length c0)).setCell ⟨B, 1, none⟩ (.slice A1 q1.length c1)).setCell ⟨B, 2, none⟩ (.slice A2 q2.length c2)).setCell ⟨B, 3, none⟩ (.slice A3 q3.length c3)) B ⟨⟨A0, c0, q0⟩, ⟨A1, c1, q1⟩, ⟨A2, c2, q2⟩, ⟨A3, c3, q3⟩⟩) := Lib.hid ⟨set4 hB3, in4 hi2 hB3 (by decide) _ _ _ _, below4 (HB0.out.trans (hB.mono HB0.out.size)) hn3 _ _ _ _⟩
    have HB2 := Lib.hid hb2
    clear HA HB0 hB hi2 hb2 hB3 hn3
    simp only [Jr.val, Jr.arr, RowV.val]
    change wpList _ _ _ _ _ _
    go_wp2_with (first
      | (go_at_call 18; (refine (HL.out ⟨⟨A0, c0, q0⟩, ⟨A1, c1, q1⟩, ⟨A2, c2, q2⟩, ⟨A3, c3, q3⟩⟩ _ (HTb.out.next HQ.out.bel) HQ.out.in_ HB2.out).mono ?_; clear HL; rintro e w1 ⟨g4, o4, c4, rfl, ht4, h1⟩; have HQ1 := Lib.hid ((HQ.out.next h1).next (below_box (o := .cells #[.int .i64 9, .int .i64 0, .int .i64 0, .slice (some ⟨g4, o4, none⟩) 1 c4] 24))); have HT1 := Lib.hid (ht4.next (below_box (o := .cells #[.int .i64 9, .int .i64 0, .int .i64 0, .slice (some ⟨g4, o4, none⟩) 1 c4] 24))); have HX1 := Lib.hid (BxT.new w1 #[.int .i64 9, .int .i64 0, .int .i64 0, .slice (some ⟨g4, o4, none⟩) 1 c4] 24); clear ht4 h1 HQ k0 k1 k2 k3 f0 f1 f2 f3; obtain ⟨k0, k1, k2, k3⟩ := HQ1.out.box.bx.c4; simp only [RowV.val] at k0 k1 k2 k3))
      | (go_at_call 21; go_must (refine (HT.out ⟨⟨A0, c0, q0⟩, ⟨A1, c1, q1⟩, ⟨A2, c2, q2⟩, ⟨A3, c3, q3⟩⟩ _ (HTb.out.next HQ1.out.bel) HQ1.out.in_ HB2.out).mono ?_; clear HT; rintro e w2 ⟨⟨⟨A5, c5, q5⟩, ⟨A6, c6, q6⟩, ⟨A7, c7, q7⟩, ⟨A8, c8, q8⟩⟩, rfl, hi5, hb5, h2⟩; have HQ2 := Lib.hid (HQ1.out.next h2); have HT2 := Lib.hid (HT1.out.next h2); have HX2 := Lib.hid (HX1.out.next h2); have HB5 := Lib.hid hb5; have HI5 := Lib.hid hi5; clear HQ1 HT1 HX1 hb5 hi5 h2 k0 k1 k2 k3; simp only [Jr.val, Jr.arr, RowV.val]))
      | (go_at_call 18; (refine (HL2.out ⟨⟨A5, c5, q5⟩, ⟨A6, c6, q6⟩, ⟨A7, c7, q7⟩, ⟨A8, c8, q8⟩⟩ _ (HTb.out.next HQ2.out.bel) HI5.out HB5.out).mono ?_; clear HL2; rintro e w3 ⟨A9, c9, rfl, h3⟩; have HQ3 := Lib.hid ((HQ2.out.next h3).next (below_box (o := .cells #[.int .i64 0, .int .i64 0, .int .i64 0, .slice A9 0 c9] 24))); have HT3 := Lib.hid ((HT2.out.next h3).next (below_box (o := .cells #[.int .i64 0, .int .i64 0, .int .i64 0, .slice A9 0 c9] 24))); have HX3 := Lib.hid ((HX2.out.next h3).next (below_box (o := .cells #[.int .i64 0, .int .i64 0, .int .i64 0, .slice A9 0 c9] 24))); clear h3 HQ2 HT2 HX2; obtain ⟨k0, k1, k2, k3⟩ := HQ3.out.box.bx.c4; obtain ⟨l0, l1, l2, l3⟩ := HX3.out.bx.c4; have l4 := ts_peak HT3.out; simp only [RowV.val] at k0 k1 k2 k3))
      | (go_at_call 20; go_must (refine (slots_at _ _ _ _ ⟨⟨A0, c0, q0⟩, ⟨A1, c1, q1⟩, ⟨A2, c2, q2⟩, ⟨A3, c3, q3⟩⟩ _ HQ3.out.in_ HB2.out).mono ?_; rintro e w4 ⟨g9, c10, r9, r10, rfl, _, _, _, _, _, _, _, h4⟩; have HB9 := Lib.hid (HQ3.out.bel.trans (h4.mono HQ3.out.bel.size)); clear h4)))
    go_ret
    exact ⟨rfl, HB9.out⟩

end Go.Proofs.YtgbgbodhpahceaaDoor.Jrn
