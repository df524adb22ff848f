/- Contracts of watch's draws, of Over's closure. -/
import Derived.Test.YthgfjikhbgippaaDoorWatC
import Derived.Test.YthgfjikhbgippaaDoorFree
namespace Go.Proofs.YthgfjikhbgippaaDoor.Wat
open Go.RowKit Go.Proofs.YthgfjikhbgippaaDoor.Plain Go.Proofs.YthgfjikhbgippaaDoor.WatP Go.Proofs.YthgfjikhbgippaaDoor.OrdP Go.Proofs.YthgfjikhbgippaaDoor.PhaP Go.Proofs.YthgfjikhbgippaaDoor.FedP Go.Proofs.YthgfjikhbgippaaDoor.Open Go.Proofs.YthgfjikhbgippaaDoor.Sees Go.Proofs.YthgfjikhbgippaaDoor.Box Go.Proofs.YthgfjikhbgippaaDoor.Held Go.Proofs.YthgfjikhbgippaaDoor.Pha
open Go.Proofs.YthgfjikhbgippaaDoor.Inv (wp_region_free)
open Go.Proofs.YthgfjikhbgippaaDoor.Fed (hs an_hs karr kval Tell_any eight jfill9x)
set_option linter.unusedVariables false
set_option linter.unusedSimpArgs false
set_option maxRecDepth 100000

/-- the world while draws' last region runs: what is known, the fact, the result's block -/
def DR (w : World) (T : Nat) (us fc : Array Value) (W : World) : Prop := ∃ z0 z1 z2 z3 z4 z5 z6 z7 z8, J w W [(T, us), (T + 1, fc), (T + 2, #[z0, z1, z2, z3, z4, z5, z6, z7, z8])]
/-- what holds of each operation's value -/
def DF (T : Nat) (us : Array Value) (pw dr y : Int) (g q : Bool) (i : Nat) (v : Value) (W : World) : Prop :=
  match i with
  | 0 => v = .agg us
  | 1 => v = .pointer (some ⟨T + 1, 0, none⟩)
  | 2 => v = .int .i64 pw
  | 3 => v = .bool g
  | 4 => v = .bool g
  | 5 => g = true → v = .pointer (some ⟨T + 1, 1, none⟩)
  | 6 => g = true → v = .int .i64 dr
  | 7 => g = true → v = .int .i64 y
  | 8 => g = true → v = .bool q
  | 9 => v = .bool q
  | 10 => Bx W (T + 2) us
  | 11 => v = .bool q
  | _ => True
theorem DF.step {T : Nat} {us : Array Value} {pw dr y : Int} {g q : Bool} {i : Nat} {v : Value} {W W' : World} (h : DF T us pw dr y g q i v W) (hb : Bx W' (T + 2) us) : DF T us pw dr y g q i v W' := by
  unfold DF at h ⊢
  split at h <;> first | exact hb | exact h
set_option maxHeartbeats 6400000 in
theorem draws_x (n : Nat) (pw dr cp y : Int) (Ar : Option Addr) (qr cr : Nat) (rs : Int) (t0 t1 t2 t3 t4 t5 t6 t7 u0 u1 u2 u3 u4 u5 u6 u7 : Int) (w : World)
    (HT : Hid (∀ W, Calls Tryd.prog 35 #[.agg #[.int .i64 n, .int .i64 t0, .int .i64 t1, .int .i64 t2, .int .i64 t3, .int .i64 t4, .int .i64 t5, .int .i64 t6, .int .i64 t7], .int .i64 cp] W (Says W (.tuple #[.agg #[.int .i64 n, .int .i64 u0, .int .i64 u1, .int .i64 u2, .int .i64 u3, .int .i64 u4, .int .i64 u5, .int .i64 u6, .int .i64 u7], .int .i64 y])))) :
    Calls Tryd.prog 24 #[.agg #[.int .i64 n, .int .i64 t0, .int .i64 t1, .int .i64 t2, .int .i64 t3, .int .i64 t4, .int .i64 t5, .int .i64 t6, .int .i64 t7], .agg #[.int .i64 pw, .int .i64 dr, .int .i64 cp, .slice Ar qr cr, .int .u64 rs]] w (Says w (.tuple #[.agg #[.int .i64 n, .int .i64 u0, .int .i64 u1, .int .i64 u2, .int .i64 u3, .int .i64 u4, .int .i64 u5, .int .i64 u6, .int .i64 u7], .bool (decide (pw = 2) && decide (y < dr))])) := by
  have hj := Lib.hid (J.three w #[.int .i64 n, .int .i64 t0, .int .i64 t1, .int .i64 t2, .int .i64 t3, .int .i64 t4, .int .i64 t5, .int .i64 t6, .int .i64 t7] #[.int .i64 pw, .int .i64 dr, .int .i64 cp, .slice Ar qr cr, .int .u64 rs] #[.int .i64 0, .int .i64 0, .int .i64 0, .int .i64 0, .int .i64 0, .int .i64 0, .int .i64 0, .int .i64 0, .int .i64 0] 50 40 50)
  obtain ⟨a0, a1, a2, a3, a4, a5, a6, a7, a8⟩ := (hj.out.bx 2 rfl).c9
  obtain ⟨b0, b1, b2, b3, b4⟩ := (hj.out.bx 1 rfl).c5
  by_cases h2 : pw = 2
  · have k2 : (pw == 2) = true := by simpa using h2
    obtain ⟨q, hq⟩ : ∃ q, decide (y < dr) = q := ⟨_, rfl⟩
    rw [show (decide (pw = 2) && decide (y < dr)) = q by rw [hq, decide_eq_true h2]; rfl]
    clear h2
    go_enter Tryd.func24, Tryd.ntmps24
    go_wp2_with (go_at_call 35; ((with_reducible refine (HT.out _).mono ?_); rintro e w1 ⟨rfl, k1⟩; have K1 := Lib.hid (hj.out.next k1); obtain ⟨g0, g1, g2, g3, g4, g5, g6, g7, g8⟩ := (K1.out.bx 2 rfl).f9; obtain ⟨l0, l1, l2, l3, l4, l5, l6, l7, l8⟩ := (K1.out.bx 2 rfl).c9))
    have hj2 := Lib.hid (jfill9x (x0 := .int .i64 n) (x1 := .int .i64 u0) (x2 := .int .i64 u1) (x3 := .int .i64 u2) (x4 := .int .i64 u3) (x5 := .int .i64 u4) (x6 := .int .i64 u5) (x7 := .int .i64 u6) (x8 := .int .i64 u7) (J.less K1.out (bs' := [(w.heap.size, #[.int .i64 n, .int .i64 t0, .int .i64 t1, .int .i64 t2, .int .i64 t3, .int .i64 t4, .int .i64 t5, .int .i64 t6, .int .i64 t7]), (w.heap.size + 1, #[.int .i64 pw, .int .i64 dr, .int .i64 cp, .slice Ar qr cr, .int .u64 rs]), (w.heap.size + 2, #[.int .i64 0, .int .i64 0, .int .i64 0, .int .i64 0, .int .i64 0, .int .i64 0, .int .i64 0, .int .i64 0, .int .i64 0])]) (by simp)) (Nat.le_refl _) (by simp))
    clear a0 a1 a2 a3 a4 a5 a6 a7 a8 b0 b1 b2 b3 b4 g0 g1 g2 g3 g4 g5 g6 g7 g8 l0 l1 l2 l3 l4 l5 l6 l7 l8
    have hR0 : DR w w.heap.size #[.int .i64 n, .int .i64 u0, .int .i64 u1, .int .i64 u2, .int .i64 u3, .int .i64 u4, .int .i64 u5, .int .i64 u6, .int .i64 u7] #[.int .i64 pw, .int .i64 dr, .int .i64 cp, .slice Ar qr cr, .int .u64 rs] _ := ⟨_, _, _, _, _, _, _, _, _, hj2.out.drew⟩
    refine wp_region_free (DR w w.heap.size #[.int .i64 n, .int .i64 u0, .int .i64 u1, .int .i64 u2, .int .i64 u3, .int .i64 u4, .int .i64 u5, .int .i64 u6, .int .i64 u7] #[.int .i64 pw, .int .i64 dr, .int .i64 cp, .slice Ar qr cr, .int .u64 rs]) (DF w.heap.size #[.int .i64 n, .int .i64 u0, .int .i64 u1, .int .i64 u2, .int .i64 u3, .int .i64 u4, .int .i64 u5, .int .i64 u6, .int .i64 u7] pw dr y true q) hR0 (by kernel_rfl) (by kernel_rfl) (by kernel_rfl) ?_ ?_
    · intro i o x W K ho hR hd hK
      obtain ⟨z0, z1, z2, z3, z4, z5, z6, z7, z8, hJ⟩ := hR
      have HJ := Lib.hid hJ
      match i, ho with
      | 0, ho =>
        obtain rfl := Option.some.inj ho
        simp only [Inv.fill, Act.put, List.setIfInBounds_toArray, List.set_cons_zero, List.set_cons_succ, List.take_succ_cons, List.take_zero] at hK ⊢
        clear hd ho 
        rw [wpOp]
        refine (if_pos rfl).mpr (.inl ?_)
        obtain ⟨d0, d1, d2, d3, d4, d5, d6, d7, d8⟩ := (HJ.out.bx 0 rfl).c9
        go_simp
        exact hK _ _ ⟨_, _, _, _, _, _, _, _, _, HJ.out⟩ (fun _ _ h => h) rfl
      | 1, ho =>
        obtain rfl := Option.some.inj ho
        simp only [Inv.fill, Act.put, List.setIfInBounds_toArray, List.set_cons_zero, List.set_cons_succ, List.take_succ_cons, List.take_zero] at hK ⊢
        clear hd ho 
        rw [wpOp]
        refine (if_pos rfl).mpr (.inl ?_)
        go_simp
        exact hK _ _ ⟨_, _, _, _, _, _, _, _, _, HJ.out⟩ (fun _ _ h => h) rfl
      | 2, ho =>
        obtain rfl := Option.some.inj ho
        have e1 : x 1 = .pointer (some ⟨w.heap.size + 1, 0, none⟩) := hd ⟨1, .data⟩ (by simp) rfl
        simp only [Inv.fill, Act.put, List.setIfInBounds_toArray, List.set_cons_zero, List.set_cons_succ, List.take_succ_cons, List.take_zero, e1] at hK ⊢
        clear hd ho e1
        rw [wpOp]
        refine (if_pos rfl).mpr (.inl ?_)
        obtain ⟨e0, e1, e2, e3, e4⟩ := (HJ.out.bx 1 rfl).c5
        go_simp
        exact hK _ _ ⟨_, _, _, _, _, _, _, _, _, HJ.out⟩ (fun _ _ h => h) rfl
      | 3, ho =>
        obtain rfl := Option.some.inj ho
        have e2 : x 2 = .int .i64 pw := hd ⟨2, .data⟩ (by simp) rfl
        simp only [Inv.fill, Act.put, List.setIfInBounds_toArray, List.set_cons_zero, List.set_cons_succ, List.take_succ_cons, List.take_zero, e2] at hK ⊢
        clear hd ho e2
        rw [wpOp]
        refine (if_pos rfl).mpr (.inl ?_)
        go_simp
        exact hK _ _ ⟨_, _, _, _, _, _, _, _, _, HJ.out⟩ (fun _ _ h => h) rfl
      | 4, ho =>
        obtain rfl := Option.some.inj ho
        have e3 : x 3 = .bool true := hd ⟨3, .data⟩ (by simp) rfl
        simp only [Inv.fill, Act.put, List.setIfInBounds_toArray, List.set_cons_zero, List.set_cons_succ, List.take_succ_cons, List.take_zero, e3] at hK ⊢
        clear hd ho e3
        rw [wpOp]
        refine (if_pos rfl).mpr (.inl ?_)
        go_simp
        exact hK _ _ ⟨_, _, _, _, _, _, _, _, _, HJ.out⟩ (fun _ _ h => h) rfl
      | 5, ho =>
        obtain rfl := Option.some.inj ho
        have e4 : x 4 = .bool true := hd ⟨4, .guard⟩ (by simp) rfl
        simp only [Inv.fill, Act.put, List.setIfInBounds_toArray, List.set_cons_zero, List.set_cons_succ, List.take_succ_cons, List.take_zero, e4] at hK ⊢
        clear hd ho e4
        rw [wpOp]
        refine (if_pos rfl).mpr (.inl ?_)
        go_simp
        exact hK _ _ ⟨_, _, _, _, _, _, _, _, _, HJ.out⟩ (fun _ _ h => h) (fun _ => rfl)
      | 6, ho =>
        obtain rfl := Option.some.inj ho
        have e5 : x 5 = .pointer (some ⟨w.heap.size + 1, 1, none⟩) := hd ⟨5, .data⟩ (by simp) rfl rfl
        have e4 : x 4 = .bool true := hd ⟨4, .guard⟩ (by simp) rfl
        simp only [Inv.fill, Act.put, List.setIfInBounds_toArray, List.set_cons_zero, List.set_cons_succ, List.take_succ_cons, List.take_zero, e5, e4] at hK ⊢
        clear hd ho e5 e4
        rw [wpOp]
        refine (if_pos rfl).mpr (.inl ?_)
        obtain ⟨e0, e1, e2, e3, e4⟩ := (HJ.out.bx 1 rfl).c5
        go_simp
        exact hK _ _ ⟨_, _, _, _, _, _, _, _, _, HJ.out⟩ (fun _ _ h => h) (fun _ => rfl)
      | 7, ho =>
        obtain rfl := Option.some.inj ho
        have e4 : x 4 = .bool true := hd ⟨4, .guard⟩ (by simp) rfl
        simp only [Inv.fill, Act.put, List.setIfInBounds_toArray, List.set_cons_zero, List.set_cons_succ, List.take_succ_cons, List.take_zero, e4] at hK ⊢
        clear hd ho e4
        rw [wpOp]
        refine (if_pos rfl).mpr (.inl ?_)
        go_simp
        exact hK _ _ ⟨_, _, _, _, _, _, _, _, _, HJ.out⟩ (fun _ _ h => h) (fun _ => rfl)
      | 8, ho =>
        obtain rfl := Option.some.inj ho
        have e6 : x 6 = .int .i64 dr := hd ⟨6, .data⟩ (by simp) rfl rfl
        have e7 : x 7 = .int .i64 y := hd ⟨7, .data⟩ (by simp) rfl rfl
        have e4 : x 4 = .bool true := hd ⟨4, .guard⟩ (by simp) rfl
        simp only [Inv.fill, Act.put, List.setIfInBounds_toArray, List.set_cons_zero, List.set_cons_succ, List.take_succ_cons, List.take_zero, e6, e7, e4] at hK ⊢
        clear hd ho e6 e7 e4
        rw [wpOp]
        refine (if_pos rfl).mpr (.inl ?_)
        go_simp
        exact hK _ _ ⟨_, _, _, _, _, _, _, _, _, HJ.out⟩ (fun _ _ h => h) (fun _ => rfl)
      | 9, ho =>
        obtain rfl := Option.some.inj ho
        have e4 : x 4 = .bool true := hd ⟨4, .data⟩ (by simp) rfl
        have e8 : x 8 = .bool q := hd ⟨8, .data⟩ (by simp) rfl rfl
        simp only [Inv.fill, Act.put, List.setIfInBounds_toArray, List.set_cons_zero, List.set_cons_succ, List.take_succ_cons, List.take_zero, e4, e8] at hK ⊢
        clear hd ho e4 e8
        rw [wpOp]
        refine (if_pos rfl).mpr (.inl ?_)
        go_simp
        exact hK _ _ ⟨_, _, _, _, _, _, _, _, _, HJ.out⟩ (fun _ _ h => h) rfl
      | 10, ho =>
        obtain rfl := Option.some.inj ho
        have e0 : x 0 = .agg #[.int .i64 n, .int .i64 u0, .int .i64 u1, .int .i64 u2, .int .i64 u3, .int .i64 u4, .int .i64 u5, .int .i64 u6, .int .i64 u7] := hd ⟨0, .data⟩ (by simp) rfl
        simp only [Inv.fill, Act.put, List.setIfInBounds_toArray, List.set_cons_zero, List.set_cons_succ, List.take_succ_cons, List.take_zero, e0] at hK ⊢
        clear hd ho e0
        rw [wpOp]
        refine (if_pos rfl).mpr (.inl ?_)
        obtain ⟨f0, f1, f2, f3, f4, f5, f6, f7, f8⟩ := (HJ.out.bx 2 rfl).f9
        obtain ⟨m0, m1, m2, m3, m4, m5, m6, m7, m8⟩ := (HJ.out.bx 2 rfl).c9
        have hj3 := Lib.hid (jfill9x (x0 := .int .i64 n) (x1 := .int .i64 u0) (x2 := .int .i64 u1) (x3 := .int .i64 u2) (x4 := .int .i64 u3) (x5 := .int .i64 u4) (x6 := .int .i64 u5) (x7 := .int .i64 u6) (x8 := .int .i64 u7) (J.less HJ.out (bs' := [(w.heap.size + 2, #[z0, z1, z2, z3, z4, z5, z6, z7, z8]), (w.heap.size, #[.int .i64 n, .int .i64 u0, .int .i64 u1, .int .i64 u2, .int .i64 u3, .int .i64 u4, .int .i64 u5, .int .i64 u6, .int .i64 u7]), (w.heap.size + 1, #[.int .i64 pw, .int .i64 dr, .int .i64 cp, .slice Ar qr cr, .int .u64 rs])]) (by simp)) (by omega) (by simp))
        go_simp
        have hb3 := hj3.out.bx 0 rfl
        refine hK undef _ ⟨.int .i64 n, .int .i64 u0, .int .i64 u1, .int .i64 u2, .int .i64 u3, .int .i64 u4, .int .i64 u5, .int .i64 u6, .int .i64 u7, J.less hj3.out (by simp)⟩ (fun k u h => h.step hb3) hb3
      | 11, ho =>
        obtain rfl := Option.some.inj ho
        have e9 : x 9 = .bool q := hd ⟨9, .data⟩ (by simp) rfl
        simp only [Inv.fill, Act.put, List.setIfInBounds_toArray, List.set_cons_zero, List.set_cons_succ, List.take_succ_cons, List.take_zero, e9] at hK ⊢
        clear hd ho e9
        rw [wpOp]
        refine (if_pos rfl).mpr (.inl ?_)
        go_simp
        exact hK _ _ ⟨_, _, _, _, _, _, _, _, _, HJ.out⟩ (fun _ _ h => h) rfl
    · intro x W hR hF
      obtain ⟨z0, z1, z2, z3, z4, z5, z6, z7, z8, hJ⟩ := hR
      have hb := hF 10 (by decide)
      have e0 : x 0 = .agg #[.int .i64 n, .int .i64 u0, .int .i64 u1, .int .i64 u2, .int .i64 u3, .int .i64 u4, .int .i64 u5, .int .i64 u6, .int .i64 u7] := hF 0 (by decide)
      have e1 : x 1 = .pointer (some ⟨w.heap.size + 1, 0, none⟩) := hF 1 (by decide)
      have e2 : x 2 = .int .i64 pw := hF 2 (by decide)
      have e3 : x 3 = .bool true := hF 3 (by decide)
      have e4 : x 4 = .bool true := hF 4 (by decide)
      have e9 : x 9 = .bool q := hF 9 (by decide)
      have e11 : x 11 = .bool q := hF 11 (by decide)
      have e5 : x 5 = .pointer (some ⟨w.heap.size + 1, 1, none⟩) := hF 5 (by decide) rfl
      have e6 : x 6 = .int .i64 dr := hF 6 (by decide) rfl
      have e7 : x 7 = .int .i64 y := hF 7 (by decide) rfl
      have e8 : x 8 = .bool q := hF 8 (by decide) rfl
      simp only [Inv.fill, Act.put, List.setIfInBounds_toArray, List.set_cons_zero, List.set_cons_succ, e0, e1, e2, e3, e4, e9, e11, e5, e6, e7, e8]
      have hbb : Bx W (w.heap.size + 2) #[.int .i64 n, .int .i64 u0, .int .i64 u1, .int .i64 u2, .int .i64 u3, .int .i64 u4, .int .i64 u5, .int .i64 u6, .int .i64 u7] := hb
      obtain ⟨r0, r1, r2, r3, r4, r5, r6, r7, r8⟩ := hbb.c9
      have hbl := hJ.below
      clear hF hb hJ e0 e1 e2 e3 e4 e9 e11
      go_wp2
      refine bodyPost_ret (v := .tuple #[.agg #[.int .i64 n, .int .i64 u0, .int .i64 u1, .int .i64 u2, .int .i64 u3, .int .i64 u4, .int .i64 u5, .int .i64 u6, .int .i64 u7], .bool q]) (by simp [results, Tryd.results24, go_sem, *]) rfl ⟨rfl, hbl⟩
  · have k2 : (pw == 2) = false := by simpa using h2
    rw [show (decide (pw = 2) && decide (y < dr)) = false by simp [h2]]
    clear h2
    go_enter Tryd.func24, Tryd.ntmps24
    go_wp2_with (go_at_call 35; ((with_reducible refine (HT.out _).mono ?_); rintro e w1 ⟨rfl, k1⟩; have K1 := Lib.hid (hj.out.next k1); obtain ⟨g0, g1, g2, g3, g4, g5, g6, g7, g8⟩ := (K1.out.bx 2 rfl).f9; obtain ⟨l0, l1, l2, l3, l4, l5, l6, l7, l8⟩ := (K1.out.bx 2 rfl).c9))
    have hj2 := Lib.hid (jfill9x (x0 := .int .i64 n) (x1 := .int .i64 u0) (x2 := .int .i64 u1) (x3 := .int .i64 u2) (x4 := .int .i64 u3) (x5 := .int .i64 u4) (x6 := .int .i64 u5) (x7 := .int .i64 u6) (x8 := .int .i64 u7) (J.less K1.out (bs' := [(w.heap.size, #[.int .i64 n, .int .i64 t0, .int .i64 t1, .int .i64 t2, .int .i64 t3, .int .i64 t4, .int .i64 t5, .int .i64 t6, .int .i64 t7]), (w.heap.size + 1, #[.int .i64 pw, .int .i64 dr, .int .i64 cp, .slice Ar qr cr, .int .u64 rs]), (w.heap.size + 2, #[.int .i64 0, .int .i64 0, .int .i64 0, .int .i64 0, .int .i64 0, .int .i64 0, .int .i64 0, .int .i64 0, .int .i64 0])]) (by simp)) (Nat.le_refl _) (by simp))
    clear a0 a1 a2 a3 a4 a5 a6 a7 a8 b0 b1 b2 b3 b4 g0 g1 g2 g3 g4 g5 g6 g7 g8 l0 l1 l2 l3 l4 l5 l6 l7 l8
    have hR0 : DR w w.heap.size #[.int .i64 n, .int .i64 u0, .int .i64 u1, .int .i64 u2, .int .i64 u3, .int .i64 u4, .int .i64 u5, .int .i64 u6, .int .i64 u7] #[.int .i64 pw, .int .i64 dr, .int .i64 cp, .slice Ar qr cr, .int .u64 rs] _ := ⟨_, _, _, _, _, _, _, _, _, hj2.out.drew⟩
    refine wp_region_free (DR w w.heap.size #[.int .i64 n, .int .i64 u0, .int .i64 u1, .int .i64 u2, .int .i64 u3, .int .i64 u4, .int .i64 u5, .int .i64 u6, .int .i64 u7] #[.int .i64 pw, .int .i64 dr, .int .i64 cp, .slice Ar qr cr, .int .u64 rs]) (DF w.heap.size #[.int .i64 n, .int .i64 u0, .int .i64 u1, .int .i64 u2, .int .i64 u3, .int .i64 u4, .int .i64 u5, .int .i64 u6, .int .i64 u7] pw dr y false false) hR0 (by kernel_rfl) (by kernel_rfl) (by kernel_rfl) ?_ ?_
    · intro i o x W K ho hR hd hK
      obtain ⟨z0, z1, z2, z3, z4, z5, z6, z7, z8, hJ⟩ := hR
      have HJ := Lib.hid hJ
      match i, ho with
      | 0, ho =>
        obtain rfl := Option.some.inj ho
        simp only [Inv.fill, Act.put, List.setIfInBounds_toArray, List.set_cons_zero, List.set_cons_succ, List.take_succ_cons, List.take_zero] at hK ⊢
        clear hd ho 
        rw [wpOp]
        refine (if_pos rfl).mpr (.inl ?_)
        obtain ⟨d0, d1, d2, d3, d4, d5, d6, d7, d8⟩ := (HJ.out.bx 0 rfl).c9
        go_simp
        exact hK _ _ ⟨_, _, _, _, _, _, _, _, _, HJ.out⟩ (fun _ _ h => h) rfl
      | 1, ho =>
        obtain rfl := Option.some.inj ho
        simp only [Inv.fill, Act.put, List.setIfInBounds_toArray, List.set_cons_zero, List.set_cons_succ, List.take_succ_cons, List.take_zero] at hK ⊢
        clear hd ho 
        rw [wpOp]
        refine (if_pos rfl).mpr (.inl ?_)
        go_simp
        exact hK _ _ ⟨_, _, _, _, _, _, _, _, _, HJ.out⟩ (fun _ _ h => h) rfl
      | 2, ho =>
        obtain rfl := Option.some.inj ho
        have e1 : x 1 = .pointer (some ⟨w.heap.size + 1, 0, none⟩) := hd ⟨1, .data⟩ (by simp) rfl
        simp only [Inv.fill, Act.put, List.setIfInBounds_toArray, List.set_cons_zero, List.set_cons_succ, List.take_succ_cons, List.take_zero, e1] at hK ⊢
        clear hd ho e1
        rw [wpOp]
        refine (if_pos rfl).mpr (.inl ?_)
        obtain ⟨e0, e1, e2, e3, e4⟩ := (HJ.out.bx 1 rfl).c5
        go_simp
        exact hK _ _ ⟨_, _, _, _, _, _, _, _, _, HJ.out⟩ (fun _ _ h => h) rfl
      | 3, ho =>
        obtain rfl := Option.some.inj ho
        have e2 : x 2 = .int .i64 pw := hd ⟨2, .data⟩ (by simp) rfl
        simp only [Inv.fill, Act.put, List.setIfInBounds_toArray, List.set_cons_zero, List.set_cons_succ, List.take_succ_cons, List.take_zero, e2] at hK ⊢
        clear hd ho e2
        rw [wpOp]
        refine (if_pos rfl).mpr (.inl ?_)
        go_simp
        exact hK _ _ ⟨_, _, _, _, _, _, _, _, _, HJ.out⟩ (fun _ _ h => h) rfl
      | 4, ho =>
        obtain rfl := Option.some.inj ho
        have e3 : x 3 = .bool false := hd ⟨3, .data⟩ (by simp) rfl
        simp only [Inv.fill, Act.put, List.setIfInBounds_toArray, List.set_cons_zero, List.set_cons_succ, List.take_succ_cons, List.take_zero, e3] at hK ⊢
        clear hd ho e3
        rw [wpOp]
        refine (if_pos rfl).mpr (.inl ?_)
        go_simp
        exact hK _ _ ⟨_, _, _, _, _, _, _, _, _, HJ.out⟩ (fun _ _ h => h) rfl
      | 5, ho =>
        obtain rfl := Option.some.inj ho
        have e4 : x 4 = .bool false := hd ⟨4, .guard⟩ (by simp) rfl
        simp only [Inv.fill, Act.put, List.setIfInBounds_toArray, List.set_cons_zero, List.set_cons_succ, List.take_succ_cons, List.take_zero, e4] at hK ⊢
        clear hd ho e4
        rw [wpOp]
        refine (if_neg (by simp [Region.wanted, yielded])).mpr ?_
        exact hK _ _ ⟨_, _, _, _, _, _, _, _, _, HJ.out⟩ (fun _ _ h => h) (fun h => by cases h)
      | 6, ho =>
        obtain rfl := Option.some.inj ho
        have e4 : x 4 = .bool false := hd ⟨4, .guard⟩ (by simp) rfl
        simp only [Inv.fill, Act.put, List.setIfInBounds_toArray, List.set_cons_zero, List.set_cons_succ, List.take_succ_cons, List.take_zero, e4] at hK ⊢
        clear hd ho e4
        rw [wpOp]
        refine (if_neg (by simp [Region.wanted, yielded])).mpr ?_
        exact hK _ _ ⟨_, _, _, _, _, _, _, _, _, HJ.out⟩ (fun _ _ h => h) (fun h => by cases h)
      | 7, ho =>
        obtain rfl := Option.some.inj ho
        have e4 : x 4 = .bool false := hd ⟨4, .guard⟩ (by simp) rfl
        simp only [Inv.fill, Act.put, List.setIfInBounds_toArray, List.set_cons_zero, List.set_cons_succ, List.take_succ_cons, List.take_zero, e4] at hK ⊢
        clear hd ho e4
        rw [wpOp]
        refine (if_neg (by simp [Region.wanted, yielded])).mpr ?_
        exact hK _ _ ⟨_, _, _, _, _, _, _, _, _, HJ.out⟩ (fun _ _ h => h) (fun h => by cases h)
      | 8, ho =>
        obtain rfl := Option.some.inj ho
        have e4 : x 4 = .bool false := hd ⟨4, .guard⟩ (by simp) rfl
        simp only [Inv.fill, Act.put, List.setIfInBounds_toArray, List.set_cons_zero, List.set_cons_succ, List.take_succ_cons, List.take_zero, e4] at hK ⊢
        clear hd ho e4
        rw [wpOp]
        refine (if_neg (by simp [Region.wanted, yielded])).mpr ?_
        exact hK _ _ ⟨_, _, _, _, _, _, _, _, _, HJ.out⟩ (fun _ _ h => h) (fun h => by cases h)
      | 9, ho =>
        obtain rfl := Option.some.inj ho
        have e4 : x 4 = .bool false := hd ⟨4, .data⟩ (by simp) rfl
        simp only [Inv.fill, Act.put, List.setIfInBounds_toArray, List.set_cons_zero, List.set_cons_succ, List.take_succ_cons, List.take_zero, e4] at hK ⊢
        clear hd ho e4
        rw [wpOp]
        refine (if_pos rfl).mpr (.inl ?_)
        go_simp
        exact hK _ _ ⟨_, _, _, _, _, _, _, _, _, HJ.out⟩ (fun _ _ h => h) rfl
      | 10, ho =>
        obtain rfl := Option.some.inj ho
        have e0 : x 0 = .agg #[.int .i64 n, .int .i64 u0, .int .i64 u1, .int .i64 u2, .int .i64 u3, .int .i64 u4, .int .i64 u5, .int .i64 u6, .int .i64 u7] := hd ⟨0, .data⟩ (by simp) rfl
        simp only [Inv.fill, Act.put, List.setIfInBounds_toArray, List.set_cons_zero, List.set_cons_succ, List.take_succ_cons, List.take_zero, e0] at hK ⊢
        clear hd ho e0
        rw [wpOp]
        refine (if_pos rfl).mpr (.inl ?_)
        obtain ⟨f0, f1, f2, f3, f4, f5, f6, f7, f8⟩ := (HJ.out.bx 2 rfl).f9
        obtain ⟨m0, m1, m2, m3, m4, m5, m6, m7, m8⟩ := (HJ.out.bx 2 rfl).c9
        have hj3 := Lib.hid (jfill9x (x0 := .int .i64 n) (x1 := .int .i64 u0) (x2 := .int .i64 u1) (x3 := .int .i64 u2) (x4 := .int .i64 u3) (x5 := .int .i64 u4) (x6 := .int .i64 u5) (x7 := .int .i64 u6) (x8 := .int .i64 u7) (J.less HJ.out (bs' := [(w.heap.size + 2, #[z0, z1, z2, z3, z4, z5, z6, z7, z8]), (w.heap.size, #[.int .i64 n, .int .i64 u0, .int .i64 u1, .int .i64 u2, .int .i64 u3, .int .i64 u4, .int .i64 u5, .int .i64 u6, .int .i64 u7]), (w.heap.size + 1, #[.int .i64 pw, .int .i64 dr, .int .i64 cp, .slice Ar qr cr, .int .u64 rs])]) (by simp)) (by omega) (by simp))
        go_simp
        have hb3 := hj3.out.bx 0 rfl
        refine hK undef _ ⟨.int .i64 n, .int .i64 u0, .int .i64 u1, .int .i64 u2, .int .i64 u3, .int .i64 u4, .int .i64 u5, .int .i64 u6, .int .i64 u7, J.less hj3.out (by simp)⟩ (fun k u h => h.step hb3) hb3
      | 11, ho =>
        obtain rfl := Option.some.inj ho
        have e9 : x 9 = .bool false := hd ⟨9, .data⟩ (by simp) rfl
        simp only [Inv.fill, Act.put, List.setIfInBounds_toArray, List.set_cons_zero, List.set_cons_succ, List.take_succ_cons, List.take_zero, e9] at hK ⊢
        clear hd ho e9
        rw [wpOp]
        refine (if_pos rfl).mpr (.inl ?_)
        go_simp
        exact hK _ _ ⟨_, _, _, _, _, _, _, _, _, HJ.out⟩ (fun _ _ h => h) rfl
    · intro x W hR hF
      obtain ⟨z0, z1, z2, z3, z4, z5, z6, z7, z8, hJ⟩ := hR
      have hb := hF 10 (by decide)
      have e0 : x 0 = .agg #[.int .i64 n, .int .i64 u0, .int .i64 u1, .int .i64 u2, .int .i64 u3, .int .i64 u4, .int .i64 u5, .int .i64 u6, .int .i64 u7] := hF 0 (by decide)
      have e1 : x 1 = .pointer (some ⟨w.heap.size + 1, 0, none⟩) := hF 1 (by decide)
      have e2 : x 2 = .int .i64 pw := hF 2 (by decide)
      have e3 : x 3 = .bool false := hF 3 (by decide)
      have e4 : x 4 = .bool false := hF 4 (by decide)
      have e9 : x 9 = .bool false := hF 9 (by decide)
      have e11 : x 11 = .bool false := hF 11 (by decide)
      simp only [Inv.fill, Act.put, List.setIfInBounds_toArray, List.set_cons_zero, List.set_cons_succ, e0, e1, e2, e3, e4, e9, e11]
      have hbb : Bx W (w.heap.size + 2) #[.int .i64 n, .int .i64 u0, .int .i64 u1, .int .i64 u2, .int .i64 u3, .int .i64 u4, .int .i64 u5, .int .i64 u6, .int .i64 u7] := hb
      obtain ⟨r0, r1, r2, r3, r4, r5, r6, r7, r8⟩ := hbb.c9
      have hbl := hJ.below
      clear hF hb hJ e0 e1 e2 e3 e4 e9 e11
      go_wp2
      refine bodyPost_ret (v := .tuple #[.agg #[.int .i64 n, .int .i64 u0, .int .i64 u1, .int .i64 u2, .int .i64 u3, .int .i64 u4, .int .i64 u5, .int .i64 u6, .int .i64 u7], .bool false]) (by simp [results, Tryd.results24, go_sem, *]) rfl ⟨rfl, hbl⟩
/-- what is known behind a fact, and whether too much is drawn -/
def kx (x : Fc) (h : List Int) : List Int := bo x.cp 0 1048576 :: h
def ox (n : Nat) (x : Fc) (h : List Int) : Bool := decide (x.pw = 2) && decide (an n (kx x h) < x.dr)
theorem draws_any (n : Nat) (hn : n ≤ 8) (h : List Int) (x : Fc) (w : World) : Calls Tryd.prog 24 #[kval n (kt n h), fcv x] w (Says w (.tuple #[kval n (kt n (kx x h)), .bool (ox n x h)])) := by
  have HT := Lib.hid (fun W => Tell_any n hn h x.cp W)
  unfold ox kx
  obtain ⟨t0, t1, t2, t3, t4, t5, t6, t7, ht⟩ := eight (kt_len n h hn)
  obtain ⟨u0, u1, u2, u3, u4, u5, u6, u7, hu⟩ := eight (kt_len n (bo x.cp 0 1048576 :: h) hn)
  rw [ht, hu] at HT ⊢
  obtain ⟨pw, dr, cp, ⟨Ar, cr, zs⟩, rs⟩ := x
  exact draws_x n pw dr cp _ Ar zs.length cr rs t0 t1 t2 t3 t4 t5 t6 t7 u0 u1 u2 u3 u4 u5 u6 u7 w HT

set_option maxHeartbeats 3200000 in
theorem over1_x (n : Nat) (pw dr cp : Int) (q b : Bool) (Ar : Option Addr) (qr cr : Nat) (rs : Int) (t0 t1 t2 t3 t4 t5 t6 t7 u0 u1 u2 u3 u4 u5 u6 u7 : Int) (w0 w : World) (T O : Nat) (hT : w0.heap.size ≤ T) (hO : w0.heap.size ≤ O) (hTO : T ≠ O)
    (hJ : J w0 w [(T, #[.int .i64 n, .int .i64 t0, .int .i64 t1, .int .i64 t2, .int .i64 t3, .int .i64 t4, .int .i64 t5, .int .i64 t6, .int .i64 t7]), (O, #[.bool b])])
    (HD : Hid (∀ W, Calls Tryd.prog 24 #[.agg #[.int .i64 n, .int .i64 t0, .int .i64 t1, .int .i64 t2, .int .i64 t3, .int .i64 t4, .int .i64 t5, .int .i64 t6, .int .i64 t7], .agg #[.int .i64 pw, .int .i64 dr, .int .i64 cp, .slice Ar qr cr, .int .u64 rs]] W (Says W (.tuple #[.agg #[.int .i64 n, .int .i64 u0, .int .i64 u1, .int .i64 u2, .int .i64 u3, .int .i64 u4, .int .i64 u5, .int .i64 u6, .int .i64 u7], .bool q])))) :
    Calls Tryd.prog 23 #[.agg #[.int .i64 pw, .int .i64 dr, .int .i64 cp, .slice Ar qr cr, .int .u64 rs], .pointer (some ⟨T, 0, none⟩), .pointer (some ⟨O, 0, none⟩)] w fun e w' => e = .returned (.bool q) ∧ Hid (J w0 w' [(T, #[.int .i64 n, .int .i64 u0, .int .i64 u1, .int .i64 u2, .int .i64 u3, .int .i64 u4, .int .i64 u5, .int .i64 u6, .int .i64 u7]), (O, #[.bool q])]) := by
  have hj := Lib.hid (hJ.push #[.int .i64 pw, .int .i64 dr, .int .i64 cp, .slice Ar qr cr, .int .u64 rs] 40)
  obtain ⟨a0, a1, a2, a3, a4, a5, a6, a7, a8⟩ := (hj.out.bx 1 rfl).c9
  obtain ⟨b0, b1, b2, b3, b4⟩ := (hj.out.bx 0 rfl).c5
  have HTO := Lib.hid hTO
  have HTT := Lib.hid hT
  have HOO := Lib.hid hO
  clear hJ hTO hT hO
  go_enter Tryd.func23, Tryd.ntmps23
  go_wp2_with (go_at_call 24; ((with_reducible refine (HD.out _).mono ?_); rintro e w1 ⟨rfl, k1⟩; have K1 := Lib.hid (hj.out.next k1); obtain ⟨g0, g1, g2, g3, g4, g5, g6, g7, g8⟩ := (K1.out.bx 1 rfl).f9; obtain ⟨l0, l1, l2, l3, l4, l5, l6, l7, l8⟩ := (K1.out.bx 1 rfl).c9; have hj2 := Lib.hid (jfill9x (x0 := .int .i64 n) (x1 := .int .i64 u0) (x2 := .int .i64 u1) (x3 := .int .i64 u2) (x4 := .int .i64 u3) (x5 := .int .i64 u4) (x6 := .int .i64 u5) (x7 := .int .i64 u6) (x8 := .int .i64 u7) (J.less K1.out (bs' := [(T, #[.int .i64 n, .int .i64 t0, .int .i64 t1, .int .i64 t2, .int .i64 t3, .int .i64 t4, .int .i64 t5, .int .i64 t6, .int .i64 t7]), (O, #[.bool b])]) (by simp)) HTT.out (fun x hx => by rw [List.mem_singleton.1 hx]; exact fun e => HTO.out e.symm)); have fo := (hj2.out.bx 1 rfl).f1; have cq := (hj2.out.bx 1 rfl).c1; have hj3 := Lib.hid ((J.less hj2.out (bs' := [(O, #[.bool b]), (T, #[.int .i64 n, .int .i64 u0, .int .i64 u1, .int .i64 u2, .int .i64 u3, .int .i64 u4, .int .i64 u5, .int .i64 u6, .int .i64 u7])]) (by simp)).put HOO.out (fun x hx => by rw [List.mem_singleton.1 hx]; exact HTO.out) 0 (.bool q)); have co := (hj3.out.bx 0 rfl).c1))
  go_ret
  exact ⟨rfl, Lib.hid (J.less hj3.out (by simp))⟩
theorem over1_any (n : Nat) (hn : n ≤ 8) (h : List Int) (x : Fc) (b : Bool) (w0 w : World) (T O : Nat) (hT : w0.heap.size ≤ T) (hO : w0.heap.size ≤ O) (hTO : T ≠ O) (hJ : J w0 w [(T, karr n (kt n h)), (O, #[.bool b])]) :
    Calls Tryd.prog 23 #[fcv x, .pointer (some ⟨T, 0, none⟩), .pointer (some ⟨O, 0, none⟩)] w fun e w' => e = .returned (.bool (ox n x h)) ∧ Hid (J w0 w' [(T, karr n (kt n (kx x h))), (O, #[.bool (ox n x h)])]) := by
  have HD := Lib.hid (fun W => draws_any n hn h x W)
  generalize ox n x h = q at *
  obtain ⟨t0, t1, t2, t3, t4, t5, t6, t7, ht⟩ := eight (kt_len n h hn)
  obtain ⟨u0, u1, u2, u3, u4, u5, u6, u7, hu⟩ := eight (kt_len n (kx x h) hn)
  rw [ht] at HD hJ
  rw [hu] at HD ⊢
  obtain ⟨pw, dr, cp, ⟨Ar, cr, zs⟩, rs⟩ := x
  exact over1_x n pw dr cp q b Ar zs.length cr rs t0 t1 t2 t3 t4 t5 t6 t7 u0 u1 u2 u3 u4 u5 u6 u7 w0 w T O hT hO hTO hJ HD
end Go.Proofs.YthgfjikhbgippaaDoor.Wat
