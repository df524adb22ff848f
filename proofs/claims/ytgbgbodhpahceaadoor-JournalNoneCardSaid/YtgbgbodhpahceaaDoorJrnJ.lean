/- The contract of Tear. -/
import Derived.Test.YtgbgbodhpahceaaDoorJrnH
namespace Go.Proofs.YtgbgbodhpahceaaDoor.Jrn
open Go.RowKit Go.Proofs.YtgbgbodhpahceaaDoor.Plain Go.Proofs.YtgbgbodhpahceaaDoor.Sees Go.Proofs.YtgbgbodhpahceaaDoor.Oct Go.Proofs.YtgbgbodhpahceaaDoor.Crc Go.Proofs.YtgbgbodhpahceaaDoor.Box Go.Proofs.YtgbgbodhpahceaaDoor.Held Go.Proofs.YtgbgbodhpahceaaDoor.JrnP
set_option linter.unusedVariables false
set_option maxRecDepth 100000

theorem torn_row (r a : RowV) (k : Nat) (w : World) (hk : k ≤ 9223372036854775807) (hr : RT w r) (ha : RT w a) :
    Calls Tryd.prog 42 #[r.val, a.val, .int .i64 k] w fun e w' => ∃ q : RowV, e = .returned q.val ∧ (RT w' q ∧ q.bs = torn r.bs a.bs k) ∧ Below w.heap.size w w' := by
  refine (torn_any r.bs a.bs r.A a.A r.bs.length r.c a.bs.length a.c k w rfl rfl hr.cap hr.max ha.cap (by have := hr.few; omega) (by have := ha.few; omega) hk hr.ty ha.ty.sees hr.byte ha.byte).mono ?_
  rintro e w' ⟨A, c, rfl, h1, h2, h3, h4⟩
  exact ⟨⟨A, c, torn r.bs a.bs k⟩, rfl, ⟨⟨h1, h2, h3, torn_in hr.byte ha.byte, by have := torn_len r.bs a.bs k; have := hr.few; have := ha.few; simp only; omega⟩, rfl⟩, h4⟩
/-- a place, torn -/
def TV (v : Value) (W : World) (r a : RowV) (k : Nat) : Prop := ∃ q : RowV, v = q.val ∧ RT W q ∧ q.bs = torn r.bs a.bs k
theorem TV.next {v : Value} {W W' : World} {r a : RowV} {k : Nat} (h : TV v W r a k) (hb : Below W.heap.size W W') : TV v W' r a k := by
  obtain ⟨q, h1, h2, h3⟩ := h
  exact ⟨q, h1, h2.next hb, h3⟩
/-- while Tear runs -/
structure TQ (w wr : World) (j : Jr) : Prop where
  box : BxT wr w.heap.size j.arr 45
  res : BxT wr (w.heap.size + 1) #[.slice none 0 0, .slice none 0 0, .slice none 0 0, .slice none 0 0] 45
  in_ : j.In wr
  bel : Below w.heap.size w wr
theorem TQ.next {w wr wr' : World} {j : Jr} (h : TQ w wr j) (hb : Below wr.heap.size wr wr') : TQ w wr' j := ⟨h.box.next hb, h.res.next hb, h.in_.next hb, h.bel.trans (hb.mono h.bel.size)⟩
theorem RT.setJ {w wr : World} {j : Jr} (h : TQ w wr j) {r : RowV} (hr : RT wr r) (i : Nat) (u : Value) : RT (wr.setCell ⟨w.heap.size, i, none⟩ u) r := hr.set h.box (by decide) i u
theorem TQ.set {w wr : World} {j j' : Jr} (h : TQ w wr j) (i : Nat) (u : Value) (ha : j.arr.setIfInBounds i u = j'.arr) (hi : j'.In wr) : TQ w (wr.setCell ⟨w.heap.size, i, none⟩ u) j' :=
  ⟨by rw [← ha]; exact h.box.set i u, (Below.heap_setCell wr ⟨w.heap.size, i, none⟩ u (w.heap.size + 1) (by simp only; omega)).trans h.res, hi.set h.box (by decide) i u, h.bel.setCell (p := ⟨w.heap.size, i, none⟩) (Nat.le_refl _) u⟩
def TearF0 (X : Nat) (r a : RowV) (n : Int) (k : Nat) : Nat → Value → World → Prop
  | 0, vv, _ => vv = .int .i64 0
  | 1, vv, _ => vv = .int .i64 0
  | 2, vv, _ => vv = .pointer (some ⟨X, 0, none⟩)
  | 3, vv, _ => vv = .pointer (some ⟨X, 0, none⟩)
  | 4, vv, _ => vv = r.val
  | 5, vv, _ => vv = .int .i64 0
  | 6, vv, _ => vv = .pointer (some ⟨X, 2, none⟩)
  | 7, vv, _ => vv = .pointer (some ⟨X, 2, none⟩)
  | 8, vv, _ => vv = a.val
  | 9, vv, _ => vv = .int .i64 n
  | 10, vv, _ => vv = .int .i64 k
  | 11, vv, w' => TV vv w' r a k
  | 12, vv, _ => vv = .pointer (some ⟨X, 0, none⟩)
  | 13, vv, _ => vv = .pointer (some ⟨X, 0, none⟩)
  | _, _, _ => True
def TearF1 (X : Nat) (r a : RowV) (n : Int) (k : Nat) : Nat → Value → World → Prop
  | 0, vv, _ => vv = .int .i64 1
  | 1, vv, _ => vv = .int .i64 1
  | 2, vv, _ => vv = .pointer (some ⟨X, 0, none⟩)
  | 3, vv, _ => vv = .pointer (some ⟨X, 1, none⟩)
  | 4, vv, _ => vv = r.val
  | 5, vv, _ => vv = .int .i64 1
  | 6, vv, _ => vv = .pointer (some ⟨X, 2, none⟩)
  | 7, vv, _ => vv = .pointer (some ⟨X, 3, none⟩)
  | 8, vv, _ => vv = a.val
  | 9, vv, _ => vv = .int .i64 n
  | 10, vv, _ => vv = .int .i64 k
  | 11, vv, w' => TV vv w' r a k
  | 12, vv, _ => vv = .pointer (some ⟨X, 0, none⟩)
  | 13, vv, _ => vv = .pointer (some ⟨X, 1, none⟩)
  | _, _, _ => True

set_option maxHeartbeats 12800000 in
theorem jTear_any (j : Jr) (n : Int) (w : World) (hn : n ≤ 9223372036854775807) (hj : j.In w) : Calls Tryd.prog 21 #[j.val, .int .i64 n] w (JP w (torn j.n0.bs j.a0.bs n.toNat) (torn j.n1.bs j.a1.bs n.toNat) j.a0.bs j.a1.bs) := by
  have HM : Hid (∀ W, (Builtin.max_ #[3, 3] 3 #[.int .i64 0, .int .i64 n]).run Tryd.prog W = .ok (.int .i64 (n.toNat : Int)) W) := Lib.hid fun W => by
    rw [run_max_int2]; congr 2; split <;> omega
  have hk : n.toNat ≤ 9223372036854775807 := by omega
  generalize n.toNat = k at *
  obtain ⟨r0, r1, a0, a1⟩ := j
  unfold Jr.val Jr.arr
  simp only
  have hQ : Hid (TQ w ((w.alloc (.cells #[r0.val, r1.val, a0.val, a1.val] 45)).alloc (.cells #[.slice none 0 0, .slice none 0 0, .slice none 0 0, .slice none 0 0] 45)) ⟨r0, r1, a0, a1⟩) := Lib.hid
    ⟨(BxT.new w _ _).next below_box, by have := BxT.new (w.alloc (.cells #[r0.val, r1.val, a0.val, a1.val] 45)) #[.slice none 0 0, .slice none 0 0, .slice none 0 0, .slice none 0 0] 45; rwa [World.size_alloc] at this, (hj.next below_box).next below_box, below_two⟩
  clear hj
  go_enter Tryd.func21, Tryd.ntmps21
  go_wp2
  generalize hW0 : (w.alloc (.cells #[r0.val, r1.val, a0.val, a1.val] 45)).alloc (.cells #[.slice none 0 0, .slice none 0 0, .slice none 0 0, .slice none 0 0] 45) = w0 at hQ ⊢
  clear hW0
  refine wp_loop_rounds 3 ?_
  rw [rounds_succ]
  go_wp2
  have HA : Hid (∀ W, Below w0.heap.size w0 W → W.cell? ⟨w.heap.size, 0, none⟩ = some r0.val ∧ W.cell? ⟨w.heap.size, 2, none⟩ = some a0.val ∧ Calls Tryd.prog 42 #[r0.val, a0.val, .int .i64 k] W fun e w' => ∃ q : RowV, e = .returned q.val ∧ (RT w' q ∧ q.bs = torn r0.bs a0.bs k) ∧ Below W.heap.size W w') := Lib.hid fun W hW =>
    ⟨(hQ.out.next hW).box.bx.cell rfl, (hQ.out.next hW).box.bx.cell rfl, torn_row r0 a0 k W hk (hQ.out.in_.n0.next hW) (hQ.out.in_.a0.next hW)⟩
  refine Held.wp_region_invt 14 (TearF0 w.heap.size r0 a0 n k) (by kernel_rfl) (by kernel_rfl) ?_ ?_ ?_
  · intro i v W W' h hb
    unfold TearF0 at h ⊢
    split at h <;> first | exact h | exact TV.next h hb 
  · intro i o x W K hi ho hB hd hK
    have HX := Lib.hid (HA.out W hB)
    match i, ho with
    | 0, ho =>
      obtain rfl := Option.some.inj ho
      simp only [Inv.fill, Act.put, List.setIfInBounds_toArray, List.set_cons_zero, List.set_cons_succ, List.take_succ_cons, List.take_zero] at hK ⊢
      clear hd ho
      rw [wpOp]
      refine (if_pos rfl).mpr (.inl ?_)
      go_simp
      exact hK _ _ (Below.refl _ _) rfl
    | 1, ho =>
      obtain rfl := Option.some.inj ho
      simp only [Inv.fill, Act.put, List.setIfInBounds_toArray, List.set_cons_zero, List.set_cons_succ, List.take_succ_cons, List.take_zero] at hK ⊢
      clear hd ho
      rw [wpOp]
      refine (if_pos rfl).mpr (.inl ?_)
      go_simp
      exact hK _ _ (Below.refl _ _) rfl
    | 2, ho =>
      obtain rfl := Option.some.inj ho
      simp only [Inv.fill, Act.put, List.setIfInBounds_toArray, List.set_cons_zero, List.set_cons_succ, List.take_succ_cons, List.take_zero] at hK ⊢
      clear hd ho
      rw [wpOp]
      refine (if_pos rfl).mpr (.inl ?_)
      go_simp
      exact hK _ _ (Below.refl _ _) rfl
    | 3, ho =>
      obtain rfl := Option.some.inj ho
      have e2 : x 2 = .pointer (some ⟨w.heap.size, 0, none⟩) := hd ⟨2, .data⟩ (by simp) rfl
      have e1 : x 1 = .int .i64 0 := hd ⟨1, .data⟩ (by simp) rfl
      simp only [Inv.fill, Act.put, List.setIfInBounds_toArray, List.set_cons_zero, List.set_cons_succ, List.take_succ_cons, List.take_zero, e2, e1] at hK ⊢
      clear hd ho e2 e1
      rw [wpOp]
      refine (if_pos rfl).mpr (.inl ?_)
      go_simp
      exact hK _ _ (Below.refl _ _) rfl
    | 4, ho =>
      obtain rfl := Option.some.inj ho
      have e3 : x 3 = .pointer (some ⟨w.heap.size, 0, none⟩) := hd ⟨3, .data⟩ (by simp) rfl
      simp only [Inv.fill, Act.put, List.setIfInBounds_toArray, List.set_cons_zero, List.set_cons_succ, List.take_succ_cons, List.take_zero, e3] at hK ⊢
      clear hd ho e3
      rw [wpOp]
      refine (if_pos rfl).mpr (.inl ?_)
      have k0 := HX.out.1
      go_simp
      exact hK _ _ (Below.refl _ _) rfl
    | 5, ho =>
      obtain rfl := Option.some.inj ho
      simp only [Inv.fill, Act.put, List.setIfInBounds_toArray, List.set_cons_zero, List.set_cons_succ, List.take_succ_cons, List.take_zero] at hK ⊢
      clear hd ho
      rw [wpOp]
      refine (if_pos rfl).mpr (.inl ?_)
      go_simp
      exact hK _ _ (Below.refl _ _) rfl
    | 6, ho =>
      obtain rfl := Option.some.inj ho
      simp only [Inv.fill, Act.put, List.setIfInBounds_toArray, List.set_cons_zero, List.set_cons_succ, List.take_succ_cons, List.take_zero] at hK ⊢
      clear hd ho
      rw [wpOp]
      refine (if_pos rfl).mpr (.inl ?_)
      go_simp
      exact hK _ _ (Below.refl _ _) rfl
    | 7, ho =>
      obtain rfl := Option.some.inj ho
      have e6 : x 6 = .pointer (some ⟨w.heap.size, 2, none⟩) := hd ⟨6, .data⟩ (by simp) rfl
      have e5 : x 5 = .int .i64 0 := hd ⟨5, .data⟩ (by simp) rfl
      simp only [Inv.fill, Act.put, List.setIfInBounds_toArray, List.set_cons_zero, List.set_cons_succ, List.take_succ_cons, List.take_zero, e6, e5] at hK ⊢
      clear hd ho e6 e5
      rw [wpOp]
      refine (if_pos rfl).mpr (.inl ?_)
      go_simp
      exact hK _ _ (Below.refl _ _) rfl
    | 8, ho =>
      obtain rfl := Option.some.inj ho
      have e7 : x 7 = .pointer (some ⟨w.heap.size, 2, none⟩) := hd ⟨7, .data⟩ (by simp) rfl
      simp only [Inv.fill, Act.put, List.setIfInBounds_toArray, List.set_cons_zero, List.set_cons_succ, List.take_succ_cons, List.take_zero, e7] at hK ⊢
      clear hd ho e7
      rw [wpOp]
      refine (if_pos rfl).mpr (.inl ?_)
      have k1 := HX.out.2.1
      go_simp
      exact hK _ _ (Below.refl _ _) rfl
    | 9, ho =>
      obtain rfl := Option.some.inj ho
      simp only [Inv.fill, Act.put, List.setIfInBounds_toArray, List.set_cons_zero, List.set_cons_succ, List.take_succ_cons, List.take_zero] at hK ⊢
      clear hd ho
      rw [wpOp]
      refine (if_pos rfl).mpr (.inl ?_)
      go_simp
      exact hK _ _ (Below.refl _ _) rfl
    | 10, ho =>
      obtain rfl := Option.some.inj ho
      have e9 : x 9 = .int .i64 n := hd ⟨9, .data⟩ (by simp) rfl
      simp only [Inv.fill, Act.put, List.setIfInBounds_toArray, List.set_cons_zero, List.set_cons_succ, List.take_succ_cons, List.take_zero, e9] at hK ⊢
      clear hd ho e9
      rw [wpOp]
      refine (if_pos rfl).mpr (.inl ?_)
      have k2 := HM.out W
      go_simp
      exact hK _ _ (Below.refl _ _) rfl
    | 11, ho =>
      obtain rfl := Option.some.inj ho
      have e4 : x 4 = r0.val := hd ⟨4, .data⟩ (by simp) rfl
      have e8 : x 8 = a0.val := hd ⟨8, .data⟩ (by simp) rfl
      have e10 : x 10 = .int .i64 k := hd ⟨10, .data⟩ (by simp) rfl
      simp only [Inv.fill, Act.put, List.setIfInBounds_toArray, List.set_cons_zero, List.set_cons_succ, List.take_succ_cons, List.take_zero, e4, e8, e10] at hK ⊢
      clear hd ho e4 e8 e10
      rw [wpOp]
      refine (if_pos rfl).mpr (.inl ?_)
      have hc := HX.out.2.2
      go_simp
      refine hc.mono ?_
      rintro e w2 ⟨q, rfl, h1, h2⟩
      exact hK _ _ h2 ⟨q, rfl, h1⟩
    | 12, ho =>
      obtain rfl := Option.some.inj ho
      simp only [Inv.fill, Act.put, List.setIfInBounds_toArray, List.set_cons_zero, List.set_cons_succ, List.take_succ_cons, List.take_zero] at hK ⊢
      clear hd ho
      rw [wpOp]
      refine (if_pos rfl).mpr (.inl ?_)
      go_simp
      exact hK _ _ (Below.refl _ _) rfl
    | 13, ho =>
      obtain rfl := Option.some.inj ho
      have e12 : x 12 = .pointer (some ⟨w.heap.size, 0, none⟩) := hd ⟨12, .data⟩ (by simp) rfl
      have e0 : x 0 = .int .i64 0 := hd ⟨0, .data⟩ (by simp) rfl
      simp only [Inv.fill, Act.put, List.setIfInBounds_toArray, List.set_cons_zero, List.set_cons_succ, List.take_succ_cons, List.take_zero, e12, e0] at hK ⊢
      clear hd ho e12 e0
      rw [wpOp]
      refine (if_pos rfl).mpr (.inl ?_)
      go_simp
      exact hK _ _ (Below.refl _ _) rfl
    | n + 14, ho => exact absurd hi (by omega)
  · intro x W hB hx
    obtain ⟨r11, e11, hr11⟩ := (hx 11 (by simp) : TV (x 11) W r0 a0 k)
    have e13 : x 13 = .pointer (some ⟨w.heap.size, 0, none⟩) := hx 13 (by simp)
    simp only [Inv.fill, Act.put, List.setIfInBounds_toArray, List.set_cons_zero, List.set_cons_succ, List.take_succ_cons, List.take_zero, List.drop_succ_cons, List.drop_zero, e11, e13]
    clear hx e11 e13
    have hQ1 := Lib.hid (hQ.out.next hB)
    obtain ⟨A11, c11, z11⟩ := r11
    obtain ⟨k0, k1, k2, k3⟩ := hQ1.out.box.bx.c4
    obtain ⟨f0, f1, f2, f3⟩ := hQ1.out.box.bx.f4
    have hQ2 : Hid (TQ w (W.setCell ⟨w.heap.size, 0, none⟩ (RowV.val ⟨A11, c11, z11⟩)) ⟨⟨A11, c11, z11⟩, r1, a0, a1⟩) := Lib.hid (hQ1.out.set 0 _ rfl ⟨hr11.1, hQ1.out.in_.n1, hQ1.out.in_.a0, hQ1.out.in_.a1⟩)
    have HE := Lib.hid hr11.2
    clear hQ hB hr11 HA hQ1
    change wpList _ _ _ _ _ _
    simp only [RowV.val] at k0 k1 k2 k3 f0 f1 f2 f3 hQ2 ⊢
    go_wp2
    clear k0 k1 k2 k3 f0 f1 f2 f3
    generalize hW1 : W.setCell ⟨w.heap.size, 0, none⟩ (.slice A11 z11.length c11) = w1 at hQ2 ⊢
    clear hW1
    rw [rounds_succ]
    go_wp2
    have HA : Hid (∀ W, Below w1.heap.size w1 W → W.cell? ⟨w.heap.size, 1, none⟩ = some r1.val ∧ W.cell? ⟨w.heap.size, 3, none⟩ = some a1.val ∧ Calls Tryd.prog 42 #[r1.val, a1.val, .int .i64 k] W fun e w' => ∃ q : RowV, e = .returned q.val ∧ (RT w' q ∧ q.bs = torn r1.bs a1.bs k) ∧ Below W.heap.size W w') := Lib.hid fun W hW =>
      ⟨(hQ2.out.next hW).box.bx.cell rfl, (hQ2.out.next hW).box.bx.cell rfl, torn_row r1 a1 k W hk (hQ2.out.in_.n1.next hW) (hQ2.out.in_.a1.next hW)⟩
    refine Held.wp_region_invt 14 (TearF1 w.heap.size r1 a1 n k) (by kernel_rfl) (by kernel_rfl) ?_ ?_ ?_
    · intro i v W W' h hb
      unfold TearF1 at h ⊢
      split at h <;> first | exact h | exact TV.next h hb 
    · intro i o x W K hi ho hB hd hK
      have HX := Lib.hid (HA.out W hB)
      match i, ho with
      | 0, ho =>
        obtain rfl := Option.some.inj ho
        simp only [Inv.fill, Act.put, List.setIfInBounds_toArray, List.set_cons_zero, List.set_cons_succ, List.take_succ_cons, List.take_zero] at hK ⊢
        clear hd ho
        rw [wpOp]
        refine (if_pos rfl).mpr (.inl ?_)
        go_simp
        exact hK _ _ (Below.refl _ _) rfl
      | 1, ho =>
        obtain rfl := Option.some.inj ho
        simp only [Inv.fill, Act.put, List.setIfInBounds_toArray, List.set_cons_zero, List.set_cons_succ, List.take_succ_cons, List.take_zero] at hK ⊢
        clear hd ho
        rw [wpOp]
        refine (if_pos rfl).mpr (.inl ?_)
        go_simp
        exact hK _ _ (Below.refl _ _) rfl
      | 2, ho =>
        obtain rfl := Option.some.inj ho
        simp only [Inv.fill, Act.put, List.setIfInBounds_toArray, List.set_cons_zero, List.set_cons_succ, List.take_succ_cons, List.take_zero] at hK ⊢
        clear hd ho
        rw [wpOp]
        refine (if_pos rfl).mpr (.inl ?_)
        go_simp
        exact hK _ _ (Below.refl _ _) rfl
      | 3, ho =>
        obtain rfl := Option.some.inj ho
        have e2 : x 2 = .pointer (some ⟨w.heap.size, 0, none⟩) := hd ⟨2, .data⟩ (by simp) rfl
        have e1 : x 1 = .int .i64 1 := hd ⟨1, .data⟩ (by simp) rfl
        simp only [Inv.fill, Act.put, List.setIfInBounds_toArray, List.set_cons_zero, List.set_cons_succ, List.take_succ_cons, List.take_zero, e2, e1] at hK ⊢
        clear hd ho e2 e1
        rw [wpOp]
        refine (if_pos rfl).mpr (.inl ?_)
        go_simp
        exact hK _ _ (Below.refl _ _) rfl
      | 4, ho =>
        obtain rfl := Option.some.inj ho
        have e3 : x 3 = .pointer (some ⟨w.heap.size, 1, none⟩) := hd ⟨3, .data⟩ (by simp) rfl
        simp only [Inv.fill, Act.put, List.setIfInBounds_toArray, List.set_cons_zero, List.set_cons_succ, List.take_succ_cons, List.take_zero, e3] at hK ⊢
        clear hd ho e3
        rw [wpOp]
        refine (if_pos rfl).mpr (.inl ?_)
        have k0 := HX.out.1
        go_simp
        exact hK _ _ (Below.refl _ _) rfl
      | 5, ho =>
        obtain rfl := Option.some.inj ho
        simp only [Inv.fill, Act.put, List.setIfInBounds_toArray, List.set_cons_zero, List.set_cons_succ, List.take_succ_cons, List.take_zero] at hK ⊢
        clear hd ho
        rw [wpOp]
        refine (if_pos rfl).mpr (.inl ?_)
        go_simp
        exact hK _ _ (Below.refl _ _) rfl
      | 6, ho =>
        obtain rfl := Option.some.inj ho
        simp only [Inv.fill, Act.put, List.setIfInBounds_toArray, List.set_cons_zero, List.set_cons_succ, List.take_succ_cons, List.take_zero] at hK ⊢
        clear hd ho
        rw [wpOp]
        refine (if_pos rfl).mpr (.inl ?_)
        go_simp
        exact hK _ _ (Below.refl _ _) rfl
      | 7, ho =>
        obtain rfl := Option.some.inj ho
        have e6 : x 6 = .pointer (some ⟨w.heap.size, 2, none⟩) := hd ⟨6, .data⟩ (by simp) rfl
        have e5 : x 5 = .int .i64 1 := hd ⟨5, .data⟩ (by simp) rfl
        simp only [Inv.fill, Act.put, List.setIfInBounds_toArray, List.set_cons_zero, List.set_cons_succ, List.take_succ_cons, List.take_zero, e6, e5] at hK ⊢
        clear hd ho e6 e5
        rw [wpOp]
        refine (if_pos rfl).mpr (.inl ?_)
        go_simp
        exact hK _ _ (Below.refl _ _) rfl
      | 8, ho =>
        obtain rfl := Option.some.inj ho
        have e7 : x 7 = .pointer (some ⟨w.heap.size, 3, none⟩) := hd ⟨7, .data⟩ (by simp) rfl
        simp only [Inv.fill, Act.put, List.setIfInBounds_toArray, List.set_cons_zero, List.set_cons_succ, List.take_succ_cons, List.take_zero, e7] at hK ⊢
        clear hd ho e7
        rw [wpOp]
        refine (if_pos rfl).mpr (.inl ?_)
        have k1 := HX.out.2.1
        go_simp
        exact hK _ _ (Below.refl _ _) rfl
      | 9, ho =>
        obtain rfl := Option.some.inj ho
        simp only [Inv.fill, Act.put, List.setIfInBounds_toArray, List.set_cons_zero, List.set_cons_succ, List.take_succ_cons, List.take_zero] at hK ⊢
        clear hd ho
        rw [wpOp]
        refine (if_pos rfl).mpr (.inl ?_)
        go_simp
        exact hK _ _ (Below.refl _ _) rfl
      | 10, ho =>
        obtain rfl := Option.some.inj ho
        have e9 : x 9 = .int .i64 n := hd ⟨9, .data⟩ (by simp) rfl
        simp only [Inv.fill, Act.put, List.setIfInBounds_toArray, List.set_cons_zero, List.set_cons_succ, List.take_succ_cons, List.take_zero, e9] at hK ⊢
        clear hd ho e9
        rw [wpOp]
        refine (if_pos rfl).mpr (.inl ?_)
        have k2 := HM.out W
        go_simp
        exact hK _ _ (Below.refl _ _) rfl
      | 11, ho =>
        obtain rfl := Option.some.inj ho
        have e4 : x 4 = r1.val := hd ⟨4, .data⟩ (by simp) rfl
        have e8 : x 8 = a1.val := hd ⟨8, .data⟩ (by simp) rfl
        have e10 : x 10 = .int .i64 k := hd ⟨10, .data⟩ (by simp) rfl
        simp only [Inv.fill, Act.put, List.setIfInBounds_toArray, List.set_cons_zero, List.set_cons_succ, List.take_succ_cons, List.take_zero, e4, e8, e10] at hK ⊢
        clear hd ho e4 e8 e10
        rw [wpOp]
        refine (if_pos rfl).mpr (.inl ?_)
        have hc := HX.out.2.2
        go_simp
        refine hc.mono ?_
        rintro e w2 ⟨q, rfl, h1, h2⟩
        exact hK _ _ h2 ⟨q, rfl, h1⟩
      | 12, ho =>
        obtain rfl := Option.some.inj ho
        simp only [Inv.fill, Act.put, List.setIfInBounds_toArray, List.set_cons_zero, List.set_cons_succ, List.take_succ_cons, List.take_zero] at hK ⊢
        clear hd ho
        rw [wpOp]
        refine (if_pos rfl).mpr (.inl ?_)
        go_simp
        exact hK _ _ (Below.refl _ _) rfl
      | 13, ho =>
        obtain rfl := Option.some.inj ho
        have e12 : x 12 = .pointer (some ⟨w.heap.size, 0, none⟩) := hd ⟨12, .data⟩ (by simp) rfl
        have e0 : x 0 = .int .i64 1 := hd ⟨0, .data⟩ (by simp) rfl
        simp only [Inv.fill, Act.put, List.setIfInBounds_toArray, List.set_cons_zero, List.set_cons_succ, List.take_succ_cons, List.take_zero, e12, e0] at hK ⊢
        clear hd ho e12 e0
        rw [wpOp]
        refine (if_pos rfl).mpr (.inl ?_)
        go_simp
        exact hK _ _ (Below.refl _ _) rfl
      | n + 14, ho => exact absurd hi (by omega)
    · intro x W hB hx
      obtain ⟨r12, e11, hr12⟩ := (hx 11 (by simp) : TV (x 11) W r1 a1 k)
      have e13 : x 13 = .pointer (some ⟨w.heap.size, 1, none⟩) := hx 13 (by simp)
      simp only [Inv.fill, Act.put, List.setIfInBounds_toArray, List.set_cons_zero, List.set_cons_succ, List.take_succ_cons, List.take_zero, List.drop_succ_cons, List.drop_zero, e11, e13]
      clear hx e11 e13
      have hQ3 := Lib.hid (hQ2.out.next hB)
      obtain ⟨A12, c12, z12⟩ := r12
      obtain ⟨A20, c20, z20⟩ := a0
      obtain ⟨A21, c21, z21⟩ := a1
      obtain ⟨k0, k1, k2, k3⟩ := hQ3.out.box.bx.c4
      obtain ⟨f0, f1, f2, f3⟩ := hQ3.out.box.bx.f4
      have hQ4 : Hid (TQ w (W.setCell ⟨w.heap.size, 1, none⟩ (RowV.val ⟨A12, c12, z12⟩)) ⟨⟨A11, c11, z11⟩, ⟨A12, c12, z12⟩, ⟨A20, c20, z20⟩, ⟨A21, c21, z21⟩⟩) := Lib.hid (hQ3.out.set 1 _ rfl ⟨hQ3.out.in_.n0, hr12.1, hQ3.out.in_.a0, hQ3.out.in_.a1⟩)
      have HE2 := Lib.hid hr12.2
      clear hQ2 hB hr12 HA hQ3
      change wpList _ _ _ _ _ _
      simp only [RowV.val] at k0 k1 k2 k3 f0 f1 f2 f3 hQ4 ⊢
      go_wp2
      clear k0 k1 k2 k3 f0 f1 f2 f3
      generalize hW2 : W.setCell ⟨w.heap.size, 1, none⟩ (.slice A12 z12.length c12) = w2 at hQ4 ⊢
      clear hW2
      rw [rounds_succ]
      obtain ⟨k0, k1, k2, k3⟩ := hQ4.out.box.bx.c4
      obtain ⟨g0, g1, g2, g3⟩ := hQ4.out.res.bx.c4
      obtain ⟨f0, f1, f2, f3⟩ := hQ4.out.res.bx.f4
      simp only [RowV.val] at k0 k1 k2 k3
      go_wp2
      have hR := set4 (x := .slice A11 z11.length c11) (y := .slice A12 z12.length c12) (z := .slice A20 z20.length c20) (u := .slice A21 z21.length c21) hQ4.out.res
      have hin := in4 hQ4.out.in_ hQ4.out.res (by decide) (.slice A11 z11.length c11) (.slice A12 z12.length c12) (.slice A20 z20.length c20) (.slice A21 z21.length c21)
      obtain ⟨m0, m1, m2, m3⟩ := hR.bx.c4
      refine bodyPost_ret (v := .agg #[.slice A11 z11.length c11, .slice A12 z12.length c12, .slice A20 z20.length c20, .slice A21 z21.length c21]) (by simp [results, Tryd.results21, go_sem, m0, m1, m2, m3]) rfl ⟨_, rfl, hin, ⟨HE.out, HE2.out, rfl, rfl⟩, below4 hQ4.out.bel (by omega) _ _ _ _⟩

end Go.Proofs.YtgbgbodhpahceaaDoor.Jrn
