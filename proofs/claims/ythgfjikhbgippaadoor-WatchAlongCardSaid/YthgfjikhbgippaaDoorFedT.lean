/- The contract of Tell. -/
import Derived.Test.YthgfjikhbgippaaDoorFedK
namespace Go.Proofs.YthgfjikhbgippaaDoor.Fed
open Go.RowKit Go.Proofs.YthgfjikhbgippaaDoor.FedP Go.Proofs.YthgfjikhbgippaaDoor.Box Go.Proofs.YthgfjikhbgippaaDoor.Held
set_option linter.unusedVariables false

/-- the first block is written anew -/
theorem jrow {w W : World} {bs : List (Nat × Array Value)} {X : Nat} {cs : Array Value} (h : J w W ((X, cs) :: bs)) (cs' : Array Value) (hX : w.heap.size ≤ X) (hne : ∀ x ∈ bs, x.1 ≠ X) : J w (W.setRow X cs') ((X, cs') :: bs) := by
  refine ⟨below_setRow h.below hX cs', fun x hx => ?_⟩
  rcases List.mem_cons.1 hx with rfl | hx
  · obtain ⟨t, ht⟩ := h.at_ (X, cs) List.mem_cons_self
    exact ⟨t, setRow_heap W X _ _ t _ ht⟩
  · exact (h.at_ x (List.mem_cons_of_mem _ hx)).kept (setRow_other W X x.1 cs' (hne x hx))

/-- copy of cells that lie in some block into the first one -/
theorem wpList_copy_J {P : Program} {w W : World} {ops : Array Oper} {rest : List Oper} {o : Oper} {a : Act} {Q : Exit → Act → World → Prop} (hgd : o.guard = none) (d s : Operand) (dT sT : TypeId)
    (ho : o.op = .call { callee := .builtin .copy, args := #[d, s], argTypes := #[dT, sT] }) (elem : TypeId) (hu : P.underlying dT = some (.slice elem)) (hsz : (P.info? elem).map (·.size) = some 1)
    (X off dLen dCap Y p sLen sCap : Nat) (hd : a.eval d = .slice (some ⟨X, off, none⟩) dLen dCap) (hs : a.eval s = .slice (some ⟨Y, p, none⟩) sLen sCap)
    (bs : List (Nat × Array Value)) (cur : List Value) (hJ : JS w ((X, cur.toArray) :: bs) W) (hX : w.heap.size ≤ X) (hne : ∀ x ∈ bs, x.1 ≠ X) (cs : List Value) (hn : cs.length = Nat.min sLen dLen)
    (hsrc : ∀ j v, cs[j]? = some v → W.cell? ⟨Y, p + j, none⟩ = some v) (hfit : off + cs.length ≤ cur.length) (h1 : ∀ v ∈ cs, v.oneCell' = true) (m : Nat) (hm : cs.length = m) (new : Array Value) (hnew : (cur.take off ++ (cs ++ cur.drop (off + cs.length))).toArray = new)
    (a' : Act) (ha : a.put o.dst (.int .i64 m) = a') (h : ∀ W', Hid (JS w ((X, new) :: bs) W') → wpList P ops Q rest a' W') :
    wpList P ops Q (o :: rest) a W := by
  obtain ⟨t, ht⟩ := hJ.at_ _ List.mem_cons_self
  refine wpList_copy_own hgd d s dT sT ho elem hu hsz X off dLen dCap ⟨Y, p, none⟩ sLen sCap hd hs cur.toArray t ht cs hn (fun j v hj => by rw [Addr.add_lit]; exact hsrc j v hj) (by simpa using hfit) h1 ?_
  subst hm
  subst hnew
  subst ha
  exact h _ (Lib.hid (jrow hJ _ hX hne))

theorem ints_cell {l : List Int} {j : Nat} {v : Value} (h : (l.map (Value.int .i64))[j]? = some v) : ∃ x, l[j]? = some x ∧ v = .int .i64 x := by
  rw [List.getElem?_map] at h
  cases hx : l[j]? with
  | none => rw [hx] at h; cases h
  | some x => rw [hx] at h; exact ⟨x, rfl, by simpa using h.symm⟩
theorem ints_one (l : List Int) : ∀ v ∈ l.map (Value.int .i64), v.oneCell' = true := by
  intro v hv
  obtain ⟨x, _, rfl⟩ := List.mem_map.1 hv
  rfl
/-- a block of numbers -/
theorem ints_at {W : World} {X : Nat} {l : List Int} (h : Bx W X (l.map (Value.int .i64)).toArray) (j : Nat) {x : Int} (hx : l[j]? = some x) : W.cell? ⟨X, j, none⟩ = some (.int .i64 x) :=
  h.cell (by simp [hx])
theorem eight {l : List Int} (h : l.length = 8) : ∃ a b c d e f g i, l = [a, b, c, d, e, f, g, i] := by
  match l, h with
  | [a, b, c, d, e, f, g, i], _ => exact ⟨a, b, c, d, e, f, g, i, rfl⟩

/-- what the row is behind the first copy -/
def row (n : Nat) (x : Int) (T : List Int) : List Int := x :: (T.take n ++ List.replicate (8 - n) 0)
theorem row_one (n : Nat) (x : Int) (T : List Int) (hn : n ≤ 8) (hT : T.length = 8) :
    ((((x :: List.replicate 8 0).map (Value.int .i64)).take 1 ++ ((T.take n).map (Value.int .i64) ++ ((x :: List.replicate 8 0).map (Value.int .i64)).drop (1 + ((T.take n).map (Value.int .i64)).length))).toArray) = ((row n x T).map (Value.int .i64)).toArray := by
  have e : ((T.take n).map (Value.int .i64)).length = n := by simp; omega
  rw [e, Nat.add_comm 1 n]
  unfold row
  simp only [List.map_cons, List.map_append, List.map_replicate, List.take_succ_cons, List.take_zero, List.drop_succ_cons, List.drop_replicate, List.cons_append, List.nil_append]
theorem row_len (n : Nat) (x : Int) (T : List Int) (hn : n ≤ 8) (hT : T.length = 8) : (row n x T).length = 9 := by unfold row; simp; omega
theorem row_take (n : Nat) (x : Int) (T : List Int) (hn : n ≤ 8) (hT : T.length = 8) : (row n x T).take n = (x :: T).take n := by
  unfold row
  cases n with
  | zero => rfl
  | succ n =>
    rw [List.take_succ_cons, List.take_succ_cons, List.take_append_of_le_length (by simp; omega), List.take_take]
    congr 2; omega
theorem row_at (n : Nat) (x y : Int) (T : List Int) (hn : n ≤ 8) (hT : T.length = 8) (h : (x :: T)[n]? = some y) : (row n x T)[n]? = some y := by
  unfold row
  cases n with
  | zero => exact h
  | succ n =>
    rw [List.getElem?_cons_succ] at h ⊢
    rw [List.getElem?_append_left (by simp; omega), List.getElem?_take, if_pos (by omega), h]
/-- what is kept behind the second -/
theorem row_two (n : Nat) (x : Int) (T : List Int) (hn : n ≤ 8) (hT : T.length = 8) :
    (((Value.int .i64 n :: T.map (Value.int .i64)).take 1 ++ (((row n x T).take n).map (Value.int .i64) ++ (Value.int .i64 n :: T.map (Value.int .i64)).drop (1 + (((row n x T).take n).map (Value.int .i64)).length))).toArray) = (Value.int .i64 n :: (tl n x T).map (Value.int .i64)).toArray := by
  have e : (((row n x T).take n).map (Value.int .i64)).length = n := by have := row_len n x T hn hT; simp; omega
  rw [e, Nat.add_comm 1 n, row_take n x T hn hT]
  unfold tl
  simp

theorem _root_.Go.Proofs.YthgfjikhbgippaaDoor.Box.Bx.c9 {W : World} {X : Nat} {a b c d e f g h i : Value} (k : Bx W X #[a, b, c, d, e, f, g, h, i]) : W.cell? ⟨X, 0, none⟩ = some a ∧ W.cell? ⟨X, 1, none⟩ = some b ∧ W.cell? ⟨X, 2, none⟩ = some c ∧ W.cell? ⟨X, 3, none⟩ = some d ∧ W.cell? ⟨X, 4, none⟩ = some e ∧ W.cell? ⟨X, 5, none⟩ = some f ∧ W.cell? ⟨X, 6, none⟩ = some g ∧ W.cell? ⟨X, 7, none⟩ = some h ∧ W.cell? ⟨X, 8, none⟩ = some i := ⟨k.cell rfl, k.cell rfl, k.cell rfl, k.cell rfl, k.cell rfl, k.cell rfl, k.cell rfl, k.cell rfl, k.cell rfl⟩
theorem _root_.Go.Proofs.YthgfjikhbgippaaDoor.Box.Bx.f9 {W : World} {X : Nat} {a b c d e f g h i : Value} (k : Bx W X #[a, b, c, d, e, f, g, h, i]) : W.frozen? ⟨X, 0, none⟩ = false ∧ W.frozen? ⟨X, 1, none⟩ = false ∧ W.frozen? ⟨X, 2, none⟩ = false ∧ W.frozen? ⟨X, 3, none⟩ = false ∧ W.frozen? ⟨X, 4, none⟩ = false ∧ W.frozen? ⟨X, 5, none⟩ = false ∧ W.frozen? ⟨X, 6, none⟩ = false ∧ W.frozen? ⟨X, 7, none⟩ = false ∧ W.frozen? ⟨X, 8, none⟩ = false := ⟨k.fr 0, k.fr 1, k.fr 2, k.fr 3, k.fr 4, k.fr 5, k.fr 6, k.fr 7, k.fr 8⟩
theorem jfill9 {w W : World} {X : Nat} {a0 a1 a2 a3 a4 a5 a6 a7 a8 x0 x1 x2 x3 x4 x5 x6 x7 x8 : Value} (h : J w W [(X, #[a0, a1, a2, a3, a4, a5, a6, a7, a8])]) (hX : w.heap.size ≤ X) :
    J w (((((((((W.setCell ⟨X, 0, none⟩ x0).setCell ⟨X, 1, none⟩ x1).setCell ⟨X, 2, none⟩ x2).setCell ⟨X, 3, none⟩ x3).setCell ⟨X, 4, none⟩ x4).setCell ⟨X, 5, none⟩ x5).setCell ⟨X, 6, none⟩ x6).setCell ⟨X, 7, none⟩ x7).setCell ⟨X, 8, none⟩ x8) [(X, #[x0, x1, x2, x3, x4, x5, x6, x7, x8])] :=
  have hne : ∀ x ∈ ([] : List (Nat × Array Value)), x.1 ≠ X := fun x hx => by cases hx
  have h0 : J w _ [(X, #[x0, a1, a2, a3, a4, a5, a6, a7, a8])] := h.put hX hne 0 x0
  have h1 : J w _ [(X, #[x0, x1, a2, a3, a4, a5, a6, a7, a8])] := h0.put hX hne 1 x1
  have h2 : J w _ [(X, #[x0, x1, x2, a3, a4, a5, a6, a7, a8])] := h1.put hX hne 2 x2
  have h3 : J w _ [(X, #[x0, x1, x2, x3, a4, a5, a6, a7, a8])] := h2.put hX hne 3 x3
  have h4 : J w _ [(X, #[x0, x1, x2, x3, x4, a5, a6, a7, a8])] := h3.put hX hne 4 x4
  have h5 : J w _ [(X, #[x0, x1, x2, x3, x4, x5, a6, a7, a8])] := h4.put hX hne 5 x5
  have h6 : J w _ [(X, #[x0, x1, x2, x3, x4, x5, x6, a7, a8])] := h5.put hX hne 6 x6
  have h7 : J w _ [(X, #[x0, x1, x2, x3, x4, x5, x6, x7, a8])] := h6.put hX hne 7 x7
  have h8 : J w _ [(X, #[x0, x1, x2, x3, x4, x5, x6, x7, x8])] := h7.put hX hne 8 x8
  h8
theorem slice_arr (X n : Nat) (hn : n ≤ 8) (W : World) : (Instr.sliceAt 48 (.pointer (some ⟨X, 1, none⟩)) none (some (.int .i64 (n : Int))) none).run Tryd.prog W = .ok (.slice (some ⟨X, 1, none⟩) n 8) W := by
  have hl : Tryd.prog.arrayLen 48 = 8 := by kernel_rfl
  have hs : (sizeOf (Tryd.prog.elem 48)).run Tryd.prog W = .ok 1 W := by kernel_rfl
  rw [run_sliceAt_array_h W 48 ⟨X, 1, none⟩ (by kernel_rfl) .i64 n (by omega) (by rw [hl]; omega), hs]
  simp [Result.andThen, slicedAt, hl, Addr.add]

set_option maxHeartbeats 3200000 in
theorem tell_any (n : Nat) (hn : n ≤ 8) (x c t0 t1 t2 t3 t4 t5 t6 t7 u0 u1 u2 u3 u4 u5 u6 u7 y : Int) (w : World) (HB : Hid (∀ W, Calls Tryd.prog 34 #[.int .i64 c, .int .i64 0, .int .i64 1048576] W fun e w' => e = .returned (.int .i64 x) ∧ W = w'))
    (hu : Hid (tl n x [t0, t1, t2, t3, t4, t5, t6, t7] = [u0, u1, u2, u3, u4, u5, u6, u7])) (hy : Hid ((x :: [t0, t1, t2, t3, t4, t5, t6, t7])[n]? = some y)) :
    Calls Tryd.prog 35 #[.agg #[.int .i64 n, .int .i64 t0, .int .i64 t1, .int .i64 t2, .int .i64 t3, .int .i64 t4, .int .i64 t5, .int .i64 t6, .int .i64 t7], .int .i64 c] w
      (Says w (.tuple #[.agg #[.int .i64 n, .int .i64 u0, .int .i64 u1, .int .i64 u2, .int .i64 u3, .int .i64 u4, .int .i64 u5, .int .i64 u6, .int .i64 u7], .int .i64 y])) := by
  have hj : Hid (JS w _ _) := Lib.hid (J.three w #[.int .i64 n, .int .i64 t0, .int .i64 t1, .int .i64 t2, .int .i64 t3, .int .i64 t4, .int .i64 t5, .int .i64 t6, .int .i64 t7] #[.int .i64 0, .int .i64 0, .int .i64 0, .int .i64 0, .int .i64 0, .int .i64 0, .int .i64 0, .int .i64 0, .int .i64 0] #[.int .i64 x, .int .i64 0, .int .i64 0, .int .i64 0, .int .i64 0, .int .i64 0, .int .i64 0, .int .i64 0, .int .i64 0] 50 50 77)
  have hsl := slice_arr w.heap.size n hn
  go_enter Tryd.func35, Tryd.ntmps35
  go_wp2_with (go_at_call 34; refine (HB.out _).mono ?_; rintro e w' ⟨rfl, rfl⟩)
  refine wp_region_tail 5 _ JS.closed hj.out (by kernel_rfl) (by kernel_rfl) ?_
  simp only [List.take_succ_cons, List.take_zero, List.drop_succ_cons, List.drop_zero]
  apply Exists.intro
  refine ⟨fun w1 h1 => ?_, fun W1 hJ1 hb1 => ?_⟩
  · haveI := Ext.some h1
    have q0 := ext_at h1 2 0 (v := .int .i64 n) rfl rfl
    repeat go_big_quiet_step (fail)
    exact wpQuiet_nil rfl
  · have K1 : ∀ j v, ((([t0, t1, t2, t3, t4, t5, t6, t7] : List Int).take n).map (Value.int .i64))[j]? = some v → W1.cell? ⟨w.heap.size, 1 + j, none⟩ = some v := fun j v hj => by
      obtain ⟨z, hz, rfl⟩ := ints_cell hj
      rw [List.getElem?_take] at hz
      split at hz
      · refine J.cell hJ1 2 (1 + j) rfl ?_
        have : (1 + j) = j + 1 := by omega
        rw [this]
        have h2 := congrArg (Option.map (Value.int .i64)) hz
        rw [← List.getElem?_map] at h2
        simpa using h2
      · cases hz
    have K2 := row_one n x [t0, t1, t2, t3, t4, t5, t6, t7] (by omega) rfl
    have K3 : ((([t0, t1, t2, t3, t4, t5, t6, t7] : List Int).take n).map (Value.int .i64)).length = n := by simp; omega
    have HK1 := Lib.hid K1
    have HK2 := Lib.hid K2
    have HK3 := Lib.hid K3
    have HJ1 := Lib.hid hJ1
    clear K1 K2 K3 hJ1
    change wpList _ _ _ _ _ _
    go_wp2_with (refine wpList_copy_J rfl (.tmp 10) (.tmp 14) 37 37 rfl 3 (by kernel_rfl) (by kernel_rfl) (w.heap.size + 2) 1 8 8 w.heap.size 1 n 8 (by simp [Act.eval]) (by simp [Act.eval]) _ ((x :: List.replicate 8 0).map (Value.int .i64)) HJ1.out (by omega) (by simp) _ (HK3.out.trans (Nat.min_eq_left hn).symm) HK1.out (by rw [HK3.out]; simp; omega) (ints_one _) n HK3.out _ HK2.out _ (by simp [Act.put]; rfl) ?_; intro W2 hj2)
    refine wp_region_tail 5 _ JS.closed hj2.out (by kernel_rfl) (by kernel_rfl) ?_
    simp only [List.take_succ_cons, List.take_zero, List.drop_succ_cons, List.drop_zero]
    apply Exists.intro
    refine ⟨fun w3 h3 => ?_, fun W3 hJ3 hb3 => ?_⟩
    · haveI := Ext.some h3
      have q0 := ext_at h3 2 0 (v := .int .i64 n) rfl rfl
      repeat go_big_quiet_step (fail)
      exact wpQuiet_nil rfl
    · have HJ3 : Hid (JS w [(w.heap.size, (Value.int .i64 n :: [t0, t1, t2, t3, t4, t5, t6, t7].map (Value.int .i64)).toArray), (w.heap.size + 2, ((row n x [t0, t1, t2, t3, t4, t5, t6, t7]).map (Value.int .i64)).toArray), (w.heap.size + 1, #[.int .i64 0, .int .i64 0, .int .i64 0, .int .i64 0, .int .i64 0, .int .i64 0, .int .i64 0, .int .i64 0, .int .i64 0])] W3) := Lib.hid (J.less hJ3 (fun x hx => by
        simp only [List.mem_cons, List.not_mem_nil, or_false] at hx ⊢
        rcases hx with rfl | rfl | rfl
        · exact .inr (.inr rfl)
        · exact .inl rfl
        · exact .inr (.inl rfl)))
      have hrl := row_len n x [t0, t1, t2, t3, t4, t5, t6, t7] hn rfl
      have K1 : ∀ j v, (((row n x [t0, t1, t2, t3, t4, t5, t6, t7]).take n).map (Value.int .i64))[j]? = some v → W3.cell? ⟨w.heap.size + 2, 0 + j, none⟩ = some v := fun j v hj => by
        obtain ⟨z, hz, rfl⟩ := ints_cell hj
        rw [List.getElem?_take] at hz
        split at hz
        · rw [Nat.zero_add]
          exact ints_at (JS.bx HJ3.out 1 rfl) j hz
        · cases hz
      have K2 := row_two n x [t0, t1, t2, t3, t4, t5, t6, t7] hn rfl
      have K3 : (((row n x [t0, t1, t2, t3, t4, t5, t6, t7]).take n).map (Value.int .i64)).length = n := by simp [hrl]; omega
      rw [hu.out] at K2
      have HK1' := Lib.hid K1
      have HK2' := Lib.hid K2
      have HK3' := Lib.hid K3
      have hy' := Lib.hid (row_at n x y [t0, t1, t2, t3, t4, t5, t6, t7] hn rfl hy.out)
      clear K1 K2 K3 hJ3 hrl
      change wpList _ _ _ _ _ _
      go_wp2_with (refine wpList_copy_J rfl (.tmp 19) (.tmp 20) 37 37 rfl 3 (by kernel_rfl) (by kernel_rfl) w.heap.size 1 n 8 (w.heap.size + 2) 0 9 9 (by simp [Act.eval]) (by simp [Act.eval]) _ (Value.int .i64 n :: [t0, t1, t2, t3, t4, t5, t6, t7].map (Value.int .i64)) HJ3.out (Nat.le_refl _) (by simp) _ (HK3'.out.trans (Nat.min_eq_right (by omega)).symm) HK1'.out (by rw [HK3'.out]; simp; omega) (ints_one _) n HK3'.out _ HK2'.out _ (by simp [Act.put]; rfl) ?_; intro W4 hj4; (have hyc := ints_at (JS.bx hj4.out 1 rfl) n hy'.out))
      have hj5 : Hid (JS w [(w.heap.size, #[.int .i64 n, .int .i64 u0, .int .i64 u1, .int .i64 u2, .int .i64 u3, .int .i64 u4, .int .i64 u5, .int .i64 u6, .int .i64 u7]), (w.heap.size + 2, ((row n x [t0, t1, t2, t3, t4, t5, t6, t7]).map (Value.int .i64)).toArray), (w.heap.size + 1, #[.int .i64 0, .int .i64 0, .int .i64 0, .int .i64 0, .int .i64 0, .int .i64 0, .int .i64 0, .int .i64 0, .int .i64 0])] W4) := hj4
      have n1 : (n : Int) < 9 := by omega
      have n0 : (0 : Int) ≤ (n : Int) := by omega
      have n2 : decide ((n : Int) < 9) = true := by simp; omega
      obtain ⟨z0, z1, z2, z3, z4, z5, z6, z7, z8⟩ := (hj5.out.bx 2 rfl).c9
      obtain ⟨c0, c1, c2, c3, c4, c5, c6, c7, c8⟩ := (hj5.out.bx 0 rfl).c9
      obtain ⟨f0, f1, f2, f3, f4, f5, f6, f7, f8⟩ := (hj5.out.bx 2 rfl).f9
      have hj6 : J w W4 ((w.heap.size + 1, #[.int .i64 0, .int .i64 0, .int .i64 0, .int .i64 0, .int .i64 0, .int .i64 0, .int .i64 0, .int .i64 0, .int .i64 0]) :: []) := J.less hj5.out (fun x hx => by rw [List.mem_singleton.1 hx]; simp)
      have hj7 := Lib.hid (jfill9 (x0 := .int .i64 n) (x1 := .int .i64 u0) (x2 := .int .i64 u1) (x3 := .int .i64 u2) (x4 := .int .i64 u3) (x5 := .int .i64 u4) (x6 := .int .i64 u5) (x7 := .int .i64 u6) (x8 := .int .i64 u7) hj6 (by omega)).drew
      go_region
      obtain ⟨r0, r1, r2, r3, r4, r5, r6, r7, r8⟩ := (hj7.out.bx 0 rfl).c9
      go_wp2
      refine bodyPost_ret (v := .tuple #[.agg #[.int .i64 n, .int .i64 u0, .int .i64 u1, .int .i64 u2, .int .i64 u3, .int .i64 u4, .int .i64 u5, .int .i64 u6, .int .i64 u7], .int .i64 y]) (by simp [results, Tryd.results35, go_sem, *]) rfl ⟨rfl, hj7.out.below⟩

theorem Tell_any (n : Nat) (hn : n ≤ 8) (h : List Int) (c : Int) (w : World) : Calls Tryd.prog 35 #[kval n (kt n h), .int .i64 c] w (Says w (.tuple #[kval n (kt n (bo c 0 1048576 :: h)), .int .i64 (an n (bo c 0 1048576 :: h))])) := by
  have HB := Lib.hid (bounded_any c 0 1048576)
  generalize bo c 0 1048576 = x at *
  rw [← kt_tl n x h hn, ← an_kt n x h hn]
  have hl := kt_len n h hn
  have hl2 : (tl n x (kt n h)).length = 8 := by rw [kt_tl n x h hn]; exact kt_len n _ hn
  generalize kt n h = T at *
  obtain ⟨t0, t1, t2, t3, t4, t5, t6, t7, rfl⟩ := eight hl
  obtain ⟨u0, u1, u2, u3, u4, u5, u6, u7, hu⟩ := eight hl2
  have hlt : n < (x :: [t0, t1, t2, t3, t4, t5, t6, t7]).length := by simp; omega
  have hy : (x :: [t0, t1, t2, t3, t4, t5, t6, t7])[n]? = some (((x :: [t0, t1, t2, t3, t4, t5, t6, t7])[n]?).getD 0) := by
    rw [List.getElem?_eq_getElem hlt]; rfl
  rw [hu]
  exact tell_any n hn x c t0 t1 t2 t3 t4 t5 t6 t7 u0 u1 u2 u3 u4 u5 u6 u7 _ w HB (Lib.hid hu) (Lib.hid hy)

end Go.Proofs.YthgfjikhbgippaaDoor.Fed
