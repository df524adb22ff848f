/- The contract of watch's Tell. -/
import Derived.Test.YthgfjikhbgippaaDoorWatF
import Derived.Test.YthgfjikhbgippaaDoorLate
namespace Go.Proofs.YthgfjikhbgippaaDoor.Wat
open Go.RowKit Go.Proofs.YthgfjikhbgippaaDoor.Plain Go.Proofs.YthgfjikhbgippaaDoor.WatP Go.Proofs.YthgfjikhbgippaaDoor.OrdP Go.Proofs.YthgfjikhbgippaaDoor.PhaP Go.Proofs.YthgfjikhbgippaaDoor.FedP Go.Proofs.YthgfjikhbgippaaDoor.Open Go.Proofs.YthgfjikhbgippaaDoor.Sees Go.Proofs.YthgfjikhbgippaaDoor.Box Go.Proofs.YthgfjikhbgippaaDoor.Held Go.Proofs.YthgfjikhbgippaaDoor.Pha Go.Proofs.YthgfjikhbgippaaDoor.Ato
open Go.Proofs.YthgfjikhbgippaaDoor.Inv (wp_region_free)
open Go.Proofs.YthgfjikhbgippaaDoor.Fed (hs hs_succ an_hs karr kval jfill9x New_any eight)
set_option linter.unusedVariables false
set_option linter.unusedSimpArgs false
set_option maxRecDepth 100000

/-- behind a fact that is told: the watch's cells -/
def TP (w0 : World) (X : Nat) (us : List Value) (zs : List Int) (d : Int) (e : Ending) (w' : World) : Prop :=
  ∃ A c, e = .returned (.bool (d == 0)) ∧ Hid (J w0 w' [(X, (us ++ [Value.bool true, Value.slice A zs.length c, Value.int .i64 d]).toArray)]) ∧ Hid (Rok w' ⟨A, c, zs⟩)

theorem own_set {W : World} {X j : Nat} {u : Value} {e : TypeId} {s n : Nat} {v : Value} {xs : List Value} (h : W.ownsRow (X + 1) e s v n xs) : (W.setCell ⟨X, j, none⟩ u).ownsRow (X + 1) e s v n xs :=
  h.kept (⟨rfl, rfl, rfl, by simp [World.setCell], fun i hi hne => Below.heap_setCell W ⟨X, j, none⟩ u i (fun e => hne (by rw [e]))⟩ : W.grownBy (W.setCell ⟨X, j, none⟩ u) (some X)) (.inr fun e => by have := (h.lt _ e).1; omega)
theorem j12 {w W : World} {X : Nat} {bs : List (Nat × Array Value)} {a0 a1 a2 a3 a4 a5 a6 a7 a8 a9 a10 a11 x0 x1 x2 x3 x4 x5 x6 x7 x8 : Value} (h : J w W ((X, #[a0, a1, a2, a3, a4, a5, a6, a7, a8, a9, a10, a11]) :: bs)) (hX : w.heap.size ≤ X) (hne : ∀ x ∈ bs, x.1 ≠ X) :
    J w (((((((((W.setCell ⟨X, 0, none⟩ x0).setCell ⟨X, 1, none⟩ x1).setCell ⟨X, 2, none⟩ x2).setCell ⟨X, 3, none⟩ x3).setCell ⟨X, 4, none⟩ x4).setCell ⟨X, 5, none⟩ x5).setCell ⟨X, 6, none⟩ x6).setCell ⟨X, 7, none⟩ x7).setCell ⟨X, 8, none⟩ x8) ((X, #[x0, x1, x2, x3, x4, x5, x6, x7, x8, a9, a10, a11]) :: bs) :=
  have h0 : J w _ ((X, #[x0, a1, a2, a3, a4, a5, a6, a7, a8, a9, a10, a11]) :: bs) := h.put hX hne 0 x0
  have h1 : J w _ ((X, #[x0, x1, a2, a3, a4, a5, a6, a7, a8, a9, a10, a11]) :: bs) := h0.put hX hne 1 x1
  have h2 : J w _ ((X, #[x0, x1, x2, a3, a4, a5, a6, a7, a8, a9, a10, a11]) :: bs) := h1.put hX hne 2 x2
  have h3 : J w _ ((X, #[x0, x1, x2, x3, a4, a5, a6, a7, a8, a9, a10, a11]) :: bs) := h2.put hX hne 3 x3
  have h4 : J w _ ((X, #[x0, x1, x2, x3, x4, a5, a6, a7, a8, a9, a10, a11]) :: bs) := h3.put hX hne 4 x4
  have h5 : J w _ ((X, #[x0, x1, x2, x3, x4, x5, a6, a7, a8, a9, a10, a11]) :: bs) := h4.put hX hne 5 x5
  have h6 : J w _ ((X, #[x0, x1, x2, x3, x4, x5, x6, a7, a8, a9, a10, a11]) :: bs) := h5.put hX hne 6 x6
  have h7 : J w _ ((X, #[x0, x1, x2, x3, x4, x5, x6, x7, a8, a9, a10, a11]) :: bs) := h6.put hX hne 7 x7
  have h8 : J w _ ((X, #[x0, x1, x2, x3, x4, x5, x6, x7, x8, a9, a10, a11]) :: bs) := h7.put hX hne 8 x8
  h8
/-- the world while Tell's last region runs -/
def TR (w0 : World) (X B F : Nat) (us fc : Array Value) (D : Int) (W : World) : Prop := ∃ z0 z1 z2 z3 z4 z5 z6 z7 z8 z9 z10, J w0 W [(X, #[z0, z1, z2, z3, z4, z5, z6, z7, z8, z9, z10, .int .i64 D]), (B, us), (F, fc)]
/-- what holds of each operation's value -/
def TF (X B F : Nat) (us : Array Value) (Ar : Option Addr) (qr cr : Nat) (zs : List Int) (i : Nat) (v : Value) (W : World) : Prop :=
  match i with
  | 0 => v = .pointer (some ⟨X, 0, none⟩)
  | 1 => v = .pointer (some ⟨X, 0, none⟩)
  | 2 => v = .pointer (some ⟨X, 0, none⟩)
  | 3 => v = .agg us
  | 4 => v = .pointer (some ⟨F, 3, none⟩)
  | 5 => v = .slice Ar qr cr
  | 6 => ∃ A c, v = .slice A qr c ∧ W.ownsRow (X + 1) 3 1 (.slice A qr c) qr (nums .i64 zs)
  | 7 => v = .pointer (some ⟨X, 0, none⟩)
  | 8 => v = .pointer (some ⟨X, 0, none⟩)
  | 9 => ∀ j u, us[j]? = some u → W.cell? ⟨X, j, none⟩ = some u
  | 10 => v = .pointer (some ⟨X, 0, none⟩)
  | 11 => v = .pointer (some ⟨X, 9, none⟩)
  | 12 => W.cell? ⟨X, 9, none⟩ = some (.bool true)
  | 13 => v = .pointer (some ⟨X, 0, none⟩)
  | 14 => v = .pointer (some ⟨X, 10, none⟩)
  | 15 => ∃ A c, W.cell? ⟨X, 10, none⟩ = some (.slice A qr c) ∧ W.ownsRow (X + 1) 3 1 (.slice A qr c) qr (nums .i64 zs)
  | _ => True
theorem TF.step {X B F : Nat} {us : Array Value} {Ar : Option Addr} {qr cr : Nat} {zs : List Int} {i : Nat} {v : Value} {W W' : World} (h : TF X B F us Ar qr cr zs i v W)
    (ho : ∀ A c, W.ownsRow (X + 1) 3 1 (.slice A qr c) qr (nums .i64 zs) → W'.ownsRow (X + 1) 3 1 (.slice A qr c) qr (nums .i64 zs))
    (h9 : (∀ j u, us[j]? = some u → W.cell? ⟨X, j, none⟩ = some u) → ∀ j u, us[j]? = some u → W'.cell? ⟨X, j, none⟩ = some u)
    (h12 : W.cell? ⟨X, 9, none⟩ = some (.bool true) → W'.cell? ⟨X, 9, none⟩ = some (.bool true))
    (h15 : ∀ A c, W.cell? ⟨X, 10, none⟩ = some (.slice A qr c) → W.ownsRow (X + 1) 3 1 (.slice A qr c) qr (nums .i64 zs) → ∃ A c, W'.cell? ⟨X, 10, none⟩ = some (.slice A qr c) ∧ W'.ownsRow (X + 1) 3 1 (.slice A qr c) qr (nums .i64 zs)) : TF X B F us Ar qr cr zs i v W' := by
  unfold TF at h ⊢
  split at h
  case h_7 => obtain ⟨A, c, e, h⟩ := h; exact ⟨A, c, e, ho A c h⟩
  case h_10 => exact h9 h
  case h_13 => exact h12 h
  case h_16 => obtain ⟨A, c, h, h'⟩ := h; exact h15 A c h h'
  all_goals first | exact h | trivial
theorem own_sees {W : World} {X qr c : Nat} {A : Option Addr} {xs : List Value} (h : W.ownsRow (X + 1) 3 1 (.slice A qr c) qr xs) : Sees W W.heap.size A xs := by
  obtain ⟨A', c', e, _, hs, _⟩ := own_formN h (by decide)
  injection e with e1 _ e2
  subst e1 e2
  exact hs
theorem u9 {a0 a1 a2 a3 a4 a5 a6 a7 a8 b9 b10 b11 u : Value} {j : Nat} (h : (#[a0, a1, a2, a3, a4, a5, a6, a7, a8] : Array Value)[j]? = some u) : (#[a0, a1, a2, a3, a4, a5, a6, a7, a8, b9, b10, b11] : Array Value)[j]? = some u := by
  match j, h with
  | 0, h => exact h
  | 1, h => exact h
  | 2, h => exact h
  | 3, h => exact h
  | 4, h => exact h
  | 5, h => exact h
  | 6, h => exact h
  | 7, h => exact h
  | 8, h => exact h
  | (j + 9), h => simp at h
theorem lt9 {a0 a1 a2 a3 a4 a5 a6 a7 a8 u : Value} {j : Nat} (h : (#[a0, a1, a2, a3, a4, a5, a6, a7, a8] : Array Value)[j]? = some u) : j < 9 := (Array.getElem?_eq_some_iff.1 h).1
theorem bx_put {W W' : World} {X j k : Nat} {cs : Array Value} {u v : Value} (h0 : Bx W X cs) (h1 : Bx W' X (cs.setIfInBounds k v)) (hjk : j ≠ k) (hj : j < cs.size) (h : W.cell? ⟨X, j, none⟩ = some u) : W'.cell? ⟨X, j, none⟩ = some u := by
  have e : cs[j]? = some u := by
    rw [Array.getElem?_eq_getElem hj]
    exact (h0.cell (Array.getElem?_eq_getElem hj)).symm.trans h
  exact h1.cell (by rw [Array.getElem?_setIfInBounds_ne (Ne.symm hjk)]; exact e)

set_option maxHeartbeats 6400000 in
theorem tell_x (n : Nat) (pw dr cp : Int) (Ar : Option Addr) (qr cr : Nat) (zs : List Int) (hqr : Hid (zs.length = qr)) (rs : Int) (t0 t1 t2 t3 t4 t5 t6 t7 u0 u1 u2 u3 u4 u5 u6 u7 : Int) (b q f : Bool) (Aq : Option Addr) (qy cq : Nat) (d : Int) (hd : 0 ≤ d ∧ d < 1000) (X : Nat) (w0 w : World) (D : Int) (HE : Hid (D = if (q || !f) then d + 1 else d)) (hX : Hid (w0.heap.size ≤ X))
    (hJ : J w0 w [(X, #[.int .i64 n, .int .i64 t0, .int .i64 t1, .int .i64 t2, .int .i64 t3, .int .i64 t4, .int .i64 t5, .int .i64 t6, .int .i64 t7, .bool b, .slice Aq qy cq, .int .i64 d])]) (hR : Hid (Sees w0 w0.heap.size Ar (nums .i64 zs) ∧ zs.length ≤ 65536))
    (HD : Hid (∀ W, Calls Tryd.prog 24 #[.agg #[.int .i64 n, .int .i64 t0, .int .i64 t1, .int .i64 t2, .int .i64 t3, .int .i64 t4, .int .i64 t5, .int .i64 t6, .int .i64 t7], .agg #[.int .i64 pw, .int .i64 dr, .int .i64 cp, .slice Ar qr cr, .int .u64 rs]] W (Says W (.tuple #[.agg #[.int .i64 n, .int .i64 u0, .int .i64 u1, .int .i64 u2, .int .i64 u3, .int .i64 u4, .int .i64 u5, .int .i64 u6, .int .i64 u7], .bool q]))))
    (HF : Hid (∀ W, Hid (Bw w W) → W.cell? ⟨X, 9, none⟩ = some (.bool b) → W.cell? ⟨X, 10, none⟩ = some (.slice Aq qy cq) → Calls Tryd.prog 29 #[.pointer (some ⟨X, 0, none⟩), .agg #[.int .i64 pw, .int .i64 dr, .int .i64 cp, .slice Ar qr cr, .int .u64 rs]] W (Says W (.bool f)))) :
    Calls Tryd.prog 16 #[.pointer (some ⟨X, 0, none⟩), .agg #[.int .i64 pw, .int .i64 dr, .int .i64 cp, .slice Ar qr cr, .int .u64 rs]] w (TP w0 X [.int .i64 n, .int .i64 u0, .int .i64 u1, .int .i64 u2, .int .i64 u3, .int .i64 u4, .int .i64 u5, .int .i64 u6, .int .i64 u7] zs D) := by
  have hlt : Hid (X < w.heap.size) := Lib.hid (hJ.bx 0 rfl).lt
  have hj : Hid (JS w0 [(w.heap.size, #[.int .i64 pw, .int .i64 dr, .int .i64 cp, .slice Ar qr cr, .int .u64 rs]), (X, #[.int .i64 n, .int .i64 t0, .int .i64 t1, .int .i64 t2, .int .i64 t3, .int .i64 t4, .int .i64 t5, .int .i64 t6, .int .i64 t7, .bool b, .slice Aq qy cq, .int .i64 d])] _) := Lib.hid (hJ.push #[.int .i64 pw, .int .i64 dr, .int .i64 cp, .slice Ar qr cr, .int .u64 rs] 40)
  have hbw : Hid (Bw w (w.alloc (.cells #[.int .i64 pw, .int .i64 dr, .int .i64 cp, .slice Ar qr cr, .int .u64 rs] 40))) := Lib.hid below_box
  have hsz : Hid ((w.alloc (.cells #[.int .i64 pw, .int .i64 dr, .int .i64 cp, .slice Ar qr cr, .int .u64 rs] 40)).heap.size = w.heap.size + 1) := Lib.hid (World.size_alloc _ _)
  have hw0 : Hid (w0.heap.size ≤ w.heap.size) := Lib.hid hJ.below.size
  clear hJ
  go_enter Tryd.func16, Tryd.ntmps16
  go_wp2
  refine wp_region_lay_late 9 [8] _ #[.int .i64 0, .int .i64 0, .int .i64 0, .int .i64 0, .int .i64 0, .int .i64 0, .int .i64 0, .int .i64 0, .int .i64 0] 50 _ 5 JS.closed hj.out (by kernel_rfl) (by kernel_rfl) rfl rfl rfl (fun ρ w' => by simp [execOp, go_sem]) ?_
  simp only [List.take_succ_cons, List.take_zero, List.drop_succ_cons, List.drop_zero]
  apply Exists.intro
  refine ⟨fun w3 h3 => ?_, fun B W3 hJ3 hz3 hB hbx aF haF => ?_⟩
  · haveI := Ext.some h3
    have q0 := ext_at h3 1 0 (v := .int .i64 n) rfl rfl
    have q1 := ext_at h3 1 1 (v := .int .i64 t0) rfl rfl
    have q2 := ext_at h3 1 2 (v := .int .i64 t1) rfl rfl
    have q3 := ext_at h3 1 3 (v := .int .i64 t2) rfl rfl
    have q4 := ext_at h3 1 4 (v := .int .i64 t3) rfl rfl
    have q5 := ext_at h3 1 5 (v := .int .i64 t4) rfl rfl
    have q6 := ext_at h3 1 6 (v := .int .i64 t5) rfl rfl
    have q7 := ext_at h3 1 7 (v := .int .i64 t6) rfl rfl
    have q8 := ext_at h3 1 8 (v := .int .i64 t7) rfl rfl
    have p0 := ext_at h3 0 0 rfl rfl
    have p1 := ext_at h3 0 1 rfl rfl
    have p2 := ext_at h3 0 2 rfl rfl
    have p3 := ext_at h3 0 3 rfl rfl
    have p4 := ext_at h3 0 4 rfl rfl
    have c1 := Lib.hid (Ext.calls h3 JS.closed (fun W _ => HD.out W))
    repeat go_big_quiet_step (first | (go_at_call 24; with_reducible exact c1.out _))
    exact wpQuiet_nil rfl
  · have hXB : w0.heap.size ≤ B := by have := hw0.out; have := hsz.out; omega
    have hne : ∀ x ∈ [(w.heap.size, (#[.int .i64 pw, .int .i64 dr, .int .i64 cp, .slice Ar qr cr, .int .u64 rs] : Array Value)), (X, #[.int .i64 n, .int .i64 t0, .int .i64 t1, .int .i64 t2, .int .i64 t3, .int .i64 t4, .int .i64 t5, .int .i64 t6, .int .i64 t7, .bool b, .slice Aq qy cq, .int .i64 d])], x.1 ≠ B := fun x hx => by
      have h1 := hsz.out
      have h2 := hlt.out
      simp at hx
      rcases hx with rfl | rfl <;> simp only <;> omega
    obtain ⟨f0, f1, f2, f3, f4, f5, f6, f7, f8⟩ := hbx.f9
    obtain ⟨b0, b1, b2, b3, b4, b5, b6, b7, b8⟩ := hbx.c9
    have HB3 := Lib.hid (hbw.out.next hz3)
    simp [Act.put] at haF
    subst haF
    change wpList _ _ _ _ _ _
    go_wp2
    refine ⟨rfl, rfl, ⟨fun o d ho hd => by obtain rfl := Option.some.inj ho; obtain rfl := Option.some.inj hd; simp [execOp, Act.eval, go_sem], trivial⟩, ?_⟩
    have hj6 := jfill9x (x0 := .int .i64 n) (x1 := .int .i64 u0) (x2 := .int .i64 u1) (x3 := .int .i64 u2) (x4 := .int .i64 u3) (x5 := .int .i64 u4) (x6 := .int .i64 u5) (x7 := .int .i64 u6) (x8 := .int .i64 u7) (J.more hJ3 hbx) hXB hne
    have hjw := jfill9x (x0 := .int .i64 n) (x1 := .int .i64 u0) (x2 := .int .i64 u1) (x3 := .int .i64 u2) (x4 := .int .i64 u3) (x5 := .int .i64 u4) (x6 := .int .i64 u5) (x7 := .int .i64 u6) (x8 := .int .i64 u7) (J.more (⟨HB3.out, fun x hx => by cases hx⟩ : J w W3 []) hbx) (by have := hsz.out; omega) (fun x hx => by cases hx)
    clear f0 f1 f2 f3 f4 f5 f6 f7 f8 b0 b1 b2 b3 b4 b5 b6 b7 b8
    generalize World.setCell _ ⟨B, 8, none⟩ (.int .i64 u7) = W4 at hj6 hjw ⊢
    have hj7 := Lib.hid (J.less hj6 (bs' := [(X, #[.int .i64 n, .int .i64 t0, .int .i64 t1, .int .i64 t2, .int .i64 t3, .int .i64 t4, .int .i64 t5, .int .i64 t6, .int .i64 t7, .bool b, .slice Aq qy cq, .int .i64 d]), (B, #[.int .i64 n, .int .i64 u0, .int .i64 u1, .int .i64 u2, .int .i64 u3, .int .i64 u4, .int .i64 u5, .int .i64 u6, .int .i64 u7]), (w.heap.size, #[.int .i64 pw, .int .i64 dr, .int .i64 cp, .slice Ar qr cr, .int .u64 rs])]) (by simp))
    have hb7 : Hid (Bw w W4) := Lib.hid hjw.below
    have ew : IntKind.i64.wrap (d + 1) = d + 1 := IntWalk.i64_in _ (by omega)
    obtain ⟨d1, hd1⟩ : ∃ d1, d + 1 = d1 := ⟨_, rfl⟩
    rw [hd1] at ew HE
    have ew2 : IntKind.i64.wrap (d + 1) = d1 := by rw [hd1]; exact ew
    clear hj6 hjw hJ3 hz3 hbx hne HB3 HD hj hbw ew hd1 hd
    have hnX : Hid (∀ x ∈ [(B, (#[.int .i64 n, .int .i64 u0, .int .i64 u1, .int .i64 u2, .int .i64 u3, .int .i64 u4, .int .i64 u5, .int .i64 u6, .int .i64 u7] : Array Value)), (w.heap.size, #[.int .i64 pw, .int .i64 dr, .int .i64 cp, .slice Ar qr cr, .int .u64 rs])], x.1 ≠ X) := Lib.hid fun x hx => by
      have h1 := hlt.out
      have h3 := hsz.out
      have h4 := hB
      simp at hx
      rcases hx with rfl | rfl <;> simp only <;> omega
    cases q
    · cases f
      · simp only [Bool.false_or, Bool.not_false, if_true] at HE
        obtain rfl := HE.out
        obtain ⟨v0, v1, v2, v3, v4, v5, v6, v7, v8, v9, v10, v11⟩ := c12 (hj7.out.bx 0 rfl)
        obtain ⟨g0, g1, g2, g3, g4⟩ := (hj7.out.bx 2 rfl).c5
        go_wp2_with (first
          | (go_at_call 29; ((with_reducible refine (HF.out _ hb7 v9 v10).mono ?_); rintro e w5 ⟨rfl, k5⟩; have hj9 := Lib.hid (hj7.out.next k5); have u11 := (c12 (hj9.out.bx 0 rfl)).2.2.2.2.2.2.2.2.2.2.2; have y11 := (f12 (hj9.out.bx 0 rfl)).2.2.2.2.2.2.2.2.2.2.2; have hj8 := Lib.hid (hj9.out.put hX.out hnX.out 11 (.int .i64 D))))
          | (go_at_call 30; refine (add_any ⟨X, 11, none⟩ d D _ ew2 u11 y11).mono ?_; rintro e w' ⟨rfl, rfl⟩))
        clear HF
        have hR0 : TR w0 X B w.heap.size #[.int .i64 n, .int .i64 u0, .int .i64 u1, .int .i64 u2, .int .i64 u3, .int .i64 u4, .int .i64 u5, .int .i64 u6, .int .i64 u7] #[.int .i64 pw, .int .i64 dr, .int .i64 cp, .slice Ar qr cr, .int .u64 rs] D _ := ⟨_, _, _, _, _, _, _, _, _, _, _, hj8.out.drew⟩
        refine wp_region_free (TR w0 X B w.heap.size #[.int .i64 n, .int .i64 u0, .int .i64 u1, .int .i64 u2, .int .i64 u3, .int .i64 u4, .int .i64 u5, .int .i64 u6, .int .i64 u7] #[.int .i64 pw, .int .i64 dr, .int .i64 cp, .slice Ar qr cr, .int .u64 rs] D) (TF X B w.heap.size #[.int .i64 n, .int .i64 u0, .int .i64 u1, .int .i64 u2, .int .i64 u3, .int .i64 u4, .int .i64 u5, .int .i64 u6, .int .i64 u7] Ar qr cr zs) hR0 (by kernel_rfl) (by kernel_rfl) (by kernel_rfl) ?_ ?_
        · intro i o x W K ho hRR hd hK
          obtain ⟨z0, z1, z2, z3, z4, z5, z6, z7, z8, z9, z10, hJ⟩ := hRR
          have HJ := Lib.hid hJ
          clear hJ
          match i, ho with
          | 0, ho =>
            obtain rfl := Option.some.inj ho
            simp only [Inv.fill, Act.put, List.setIfInBounds_toArray, List.set_cons_zero, List.set_cons_succ, List.take_succ_cons, List.take_zero] at hK ⊢
            clear hd ho 
            rw [wpOp]
            refine (if_pos rfl).mpr (.inl ?_)
            go_simp
            exact hK _ _ ⟨_, _, _, _, _, _, _, _, _, _, _, HJ.out⟩ (fun _ _ h => h) rfl
          | 1, ho =>
            obtain rfl := Option.some.inj ho
            simp only [Inv.fill, Act.put, List.setIfInBounds_toArray, List.set_cons_zero, List.set_cons_succ, List.take_succ_cons, List.take_zero] at hK ⊢
            clear hd ho 
            rw [wpOp]
            refine (if_pos rfl).mpr (.inl ?_)
            go_simp
            exact hK _ _ ⟨_, _, _, _, _, _, _, _, _, _, _, HJ.out⟩ (fun _ _ h => h) rfl
          | 2, ho =>
            obtain rfl := Option.some.inj ho
            simp only [Inv.fill, Act.put, List.setIfInBounds_toArray, List.set_cons_zero, List.set_cons_succ, List.take_succ_cons, List.take_zero] at hK ⊢
            clear hd ho 
            rw [wpOp]
            refine (if_pos rfl).mpr (.inl ?_)
            go_simp
            exact hK _ _ ⟨_, _, _, _, _, _, _, _, _, _, _, HJ.out⟩ (fun _ _ h => h) rfl
          | 3, ho =>
            obtain rfl := Option.some.inj ho
            simp only [Inv.fill, Act.put, List.setIfInBounds_toArray, List.set_cons_zero, List.set_cons_succ, List.take_succ_cons, List.take_zero] at hK ⊢
            clear hd ho 
            rw [wpOp]
            refine (if_pos rfl).mpr (.inl ?_)
            obtain ⟨d0, d1, d2, d3, d4, d5, d6, d7, d8⟩ := (HJ.out.bx 1 rfl).c9
            go_simp
            exact hK _ _ ⟨_, _, _, _, _, _, _, _, _, _, _, HJ.out⟩ (fun _ _ h => h) rfl
          | 4, ho =>
            obtain rfl := Option.some.inj ho
            simp only [Inv.fill, Act.put, List.setIfInBounds_toArray, List.set_cons_zero, List.set_cons_succ, List.take_succ_cons, List.take_zero] at hK ⊢
            clear hd ho 
            rw [wpOp]
            refine (if_pos rfl).mpr (.inl ?_)
            go_simp
            exact hK _ _ ⟨_, _, _, _, _, _, _, _, _, _, _, HJ.out⟩ (fun _ _ h => h) rfl
          | 5, ho =>
            obtain rfl := Option.some.inj ho
            have e4 : x 4 = .pointer (some ⟨w.heap.size, 3, none⟩) := hd ⟨4, .data⟩ (by simp) rfl
            simp only [Inv.fill, Act.put, List.setIfInBounds_toArray, List.set_cons_zero, List.set_cons_succ, List.take_succ_cons, List.take_zero, e4] at hK ⊢
            clear hd ho e4
            rw [wpOp]
            refine (if_pos rfl).mpr (.inl ?_)
            obtain ⟨e0, e1, e2, e3, e4⟩ := (HJ.out.bx 2 rfl).c5
            go_simp
            exact hK _ _ ⟨_, _, _, _, _, _, _, _, _, _, _, HJ.out⟩ (fun _ _ h => h) rfl
          | 6, ho =>
            obtain rfl := Option.some.inj ho
            have e5 : x 5 = .slice Ar qr cr := hd ⟨5, .data⟩ (by simp) rfl
            simp only [Inv.fill, Act.put, List.setIfInBounds_toArray, List.set_cons_zero, List.set_cons_succ, List.take_succ_cons, List.take_zero, e5] at hK ⊢
            clear hd ho e5
            rw [wpOp]
            refine (if_pos rfl).mpr (.inl ?_)
            have hc := clone_any zs Ar qr cr W hqr.out (by have := hR.out.2; have := hqr.out; omega) (sees_bw hR.out.1 HJ.out.below)
            go_simp
            refine hc.mono ?_
            rintro e w2 ⟨A', c', rfl, hown, hbel⟩
            have hXW : X + 1 ≤ W.heap.size := (HJ.out.bx 0 rfl).lt
            have hb0 := HJ.out.bx 0 rfl
            exact hK _ _ ⟨_, _, _, _, _, _, _, _, _, _, _, HJ.out.next hbel⟩ (fun k u h => h.step (fun A c ho => own_below ho hbel (fun k hk => (ho.lt k hk).2)) (fun h j u hj => (hbel.cell (p := ⟨X, j, none⟩) hb0.lt).trans (h j u hj)) (fun h => (hbel.cell (p := ⟨X, 9, none⟩) hb0.lt).trans h) (fun A c h ho => ⟨A, c, (hbel.cell (p := ⟨X, 10, none⟩) hb0.lt).trans h, own_below ho hbel (fun k hk => (ho.lt k hk).2)⟩)) ⟨A', c', rfl, own_lower hown hXW⟩
          | 7, ho =>
            obtain rfl := Option.some.inj ho
            have e0 : x 0 = .pointer (some ⟨X, 0, none⟩) := hd ⟨0, .data⟩ (by simp) rfl
            simp only [Inv.fill, Act.put, List.setIfInBounds_toArray, List.set_cons_zero, List.set_cons_succ, List.take_succ_cons, List.take_zero, e0] at hK ⊢
            clear hd ho e0
            rw [wpOp]
            refine (if_pos rfl).mpr (.inl ?_)
            go_simp
            exact hK _ _ ⟨_, _, _, _, _, _, _, _, _, _, _, HJ.out⟩ (fun _ _ h => h) rfl
          | 8, ho =>
            obtain rfl := Option.some.inj ho
            have e7 : x 7 = .pointer (some ⟨X, 0, none⟩) := hd ⟨7, .data⟩ (by simp) rfl
            simp only [Inv.fill, Act.put, List.setIfInBounds_toArray, List.set_cons_zero, List.set_cons_succ, List.take_succ_cons, List.take_zero, e7] at hK ⊢
            clear hd ho e7
            rw [wpOp]
            refine (if_pos rfl).mpr (.inl ?_)
            go_simp
            exact hK _ _ ⟨_, _, _, _, _, _, _, _, _, _, _, HJ.out⟩ (fun _ _ h => h) rfl
          | 9, ho =>
            obtain rfl := Option.some.inj ho
            have e8 : x 8 = .pointer (some ⟨X, 0, none⟩) := hd ⟨8, .data⟩ (by simp) rfl
            have e3 : x 3 = .agg #[.int .i64 n, .int .i64 u0, .int .i64 u1, .int .i64 u2, .int .i64 u3, .int .i64 u4, .int .i64 u5, .int .i64 u6, .int .i64 u7] := hd ⟨3, .data⟩ (by simp) rfl
            simp only [Inv.fill, Act.put, List.setIfInBounds_toArray, List.set_cons_zero, List.set_cons_succ, List.take_succ_cons, List.take_zero, e8, e3] at hK ⊢
            clear hd ho e8 e3
            rw [wpOp]
            refine (if_pos rfl).mpr (.inl ?_)
            have hb0 := Lib.hid (HJ.out.bx 0 rfl)
            obtain ⟨v0, v1, v2, v3, v4, v5, v6, v7, v8, v9, v10, v11⟩ := c12 hb0.out
            obtain ⟨y0, y1, y2, y3, y4, y5, y6, y7, y8, y9, y10, y11⟩ := f12 hb0.out
            have hnx : ∀ x ∈ [(B, (#[.int .i64 n, .int .i64 u0, .int .i64 u1, .int .i64 u2, .int .i64 u3, .int .i64 u4, .int .i64 u5, .int .i64 u6, .int .i64 u7] : Array Value)), (w.heap.size, #[.int .i64 pw, .int .i64 dr, .int .i64 cp, .slice Ar qr cr, .int .u64 rs])], x.1 ≠ X := hnX.out
            have hj3 := Lib.hid (j12 (x0 := .int .i64 n) (x1 := .int .i64 u0) (x2 := .int .i64 u1) (x3 := .int .i64 u2) (x4 := .int .i64 u3) (x5 := .int .i64 u4) (x6 := .int .i64 u5) (x7 := .int .i64 u6) (x8 := .int .i64 u7) HJ.out hX.out hnx)
            go_simp
            have hb3 := hj3.out.bx 0 rfl
            have hu9 : ∀ j u, (#[.int .i64 n, .int .i64 u0, .int .i64 u1, .int .i64 u2, .int .i64 u3, .int .i64 u4, .int .i64 u5, .int .i64 u6, .int .i64 u7] : Array Value)[j]? = some u → _ := fun j u hj => hb3.cell (j := j) (v := u) (u9 hj)
            exact hK undef _ ⟨.int .i64 n, .int .i64 u0, .int .i64 u1, .int .i64 u2, .int .i64 u3, .int .i64 u4, .int .i64 u5, .int .i64 u6, .int .i64 u7, z9, z10, hj3.out⟩ (fun k u h => h.step (fun A c ho => own_set (own_set (own_set (own_set (own_set (own_set (own_set (own_set (own_set ho))))))))) (fun _ => hu9) (fun h => (hb3.cell rfl).trans ((hb0.out.cell (j := 9) rfl).symm.trans h)) (fun A c h ho => ⟨A, c, (hb3.cell rfl).trans ((hb0.out.cell (j := 10) rfl).symm.trans h), own_set (own_set (own_set (own_set (own_set (own_set (own_set (own_set (own_set ho))))))))⟩)) hu9
          | 10, ho =>
            obtain rfl := Option.some.inj ho
            have e1 : x 1 = .pointer (some ⟨X, 0, none⟩) := hd ⟨1, .data⟩ (by simp) rfl
            simp only [Inv.fill, Act.put, List.setIfInBounds_toArray, List.set_cons_zero, List.set_cons_succ, List.take_succ_cons, List.take_zero, e1] at hK ⊢
            clear hd ho e1
            rw [wpOp]
            refine (if_pos rfl).mpr (.inl ?_)
            go_simp
            exact hK _ _ ⟨_, _, _, _, _, _, _, _, _, _, _, HJ.out⟩ (fun _ _ h => h) rfl
          | 11, ho =>
            obtain rfl := Option.some.inj ho
            have e10 : x 10 = .pointer (some ⟨X, 0, none⟩) := hd ⟨10, .data⟩ (by simp) rfl
            simp only [Inv.fill, Act.put, List.setIfInBounds_toArray, List.set_cons_zero, List.set_cons_succ, List.take_succ_cons, List.take_zero, e10] at hK ⊢
            clear hd ho e10
            rw [wpOp]
            refine (if_pos rfl).mpr (.inl ?_)
            go_simp
            exact hK _ _ ⟨_, _, _, _, _, _, _, _, _, _, _, HJ.out⟩ (fun _ _ h => h) rfl
          | 12, ho =>
            obtain rfl := Option.some.inj ho
            have e11 : x 11 = .pointer (some ⟨X, 9, none⟩) := hd ⟨11, .data⟩ (by simp) rfl
            simp only [Inv.fill, Act.put, List.setIfInBounds_toArray, List.set_cons_zero, List.set_cons_succ, List.take_succ_cons, List.take_zero, e11] at hK ⊢
            clear hd ho e11
            rw [wpOp]
            refine (if_pos rfl).mpr (.inl ?_)
            have hb0 := Lib.hid (HJ.out.bx 0 rfl)
            obtain ⟨v0, v1, v2, v3, v4, v5, v6, v7, v8, v9, v10, v11⟩ := c12 hb0.out
            obtain ⟨y0, y1, y2, y3, y4, y5, y6, y7, y8, y9, y10, y11⟩ := f12 hb0.out
            have hnx : ∀ x ∈ [(B, (#[.int .i64 n, .int .i64 u0, .int .i64 u1, .int .i64 u2, .int .i64 u3, .int .i64 u4, .int .i64 u5, .int .i64 u6, .int .i64 u7] : Array Value)), (w.heap.size, #[.int .i64 pw, .int .i64 dr, .int .i64 cp, .slice Ar qr cr, .int .u64 rs])], x.1 ≠ X := hnX.out
            have hj3 := Lib.hid (HJ.out.put hX.out hnx 9 (.bool true))
            go_simp
            have hb3 := hj3.out.bx 0 rfl
            exact hK undef _ ⟨z0, z1, z2, z3, z4, z5, z6, z7, z8, .bool true, z10, hj3.out⟩ (fun k u h => h.step (fun A c ho => own_set ho) (fun h j u hj => bx_put hb0.out hb3 (by have := lt9 hj; omega) (Nat.lt_trans (lt9 hj) (by simp)) (h j u hj)) (fun _ => hb3.cell rfl) (fun A c h ho => ⟨A, c, (hb3.cell rfl).trans ((hb0.out.cell (j := 10) rfl).symm.trans h), own_set ho⟩)) (hb3.cell rfl)
          | 13, ho =>
            obtain rfl := Option.some.inj ho
            have e2 : x 2 = .pointer (some ⟨X, 0, none⟩) := hd ⟨2, .data⟩ (by simp) rfl
            simp only [Inv.fill, Act.put, List.setIfInBounds_toArray, List.set_cons_zero, List.set_cons_succ, List.take_succ_cons, List.take_zero, e2] at hK ⊢
            clear hd ho e2
            rw [wpOp]
            refine (if_pos rfl).mpr (.inl ?_)
            go_simp
            exact hK _ _ ⟨_, _, _, _, _, _, _, _, _, _, _, HJ.out⟩ (fun _ _ h => h) rfl
          | 14, ho =>
            obtain rfl := Option.some.inj ho
            have e13 : x 13 = .pointer (some ⟨X, 0, none⟩) := hd ⟨13, .data⟩ (by simp) rfl
            simp only [Inv.fill, Act.put, List.setIfInBounds_toArray, List.set_cons_zero, List.set_cons_succ, List.take_succ_cons, List.take_zero, e13] at hK ⊢
            clear hd ho e13
            rw [wpOp]
            refine (if_pos rfl).mpr (.inl ?_)
            go_simp
            exact hK _ _ ⟨_, _, _, _, _, _, _, _, _, _, _, HJ.out⟩ (fun _ _ h => h) rfl
          | 15, ho =>
            obtain rfl := Option.some.inj ho
            obtain ⟨A6, c6, e6, own6⟩ := hd ⟨6, .data⟩ (by simp) rfl
            have own6 : W.ownsRow (X + 1) 3 1 (.slice A6 qr c6) qr (nums .i64 zs) := own6
            have HO6 := Lib.hid own6
            clear own6
            have e14 : x 14 = .pointer (some ⟨X, 10, none⟩) := hd ⟨14, .data⟩ (by simp) rfl
            simp only [Inv.fill, Act.put, List.setIfInBounds_toArray, List.set_cons_zero, List.set_cons_succ, List.take_succ_cons, List.take_zero, e6, e14] at hK ⊢
            clear hd ho e6 e14
            rw [wpOp]
            refine (if_pos rfl).mpr (.inl ?_)
            have hb0 := Lib.hid (HJ.out.bx 0 rfl)
            obtain ⟨v0, v1, v2, v3, v4, v5, v6, v7, v8, v9, v10, v11⟩ := c12 hb0.out
            obtain ⟨y0, y1, y2, y3, y4, y5, y6, y7, y8, y9, y10, y11⟩ := f12 hb0.out
            have hnx : ∀ x ∈ [(B, (#[.int .i64 n, .int .i64 u0, .int .i64 u1, .int .i64 u2, .int .i64 u3, .int .i64 u4, .int .i64 u5, .int .i64 u6, .int .i64 u7] : Array Value)), (w.heap.size, #[.int .i64 pw, .int .i64 dr, .int .i64 cp, .slice Ar qr cr, .int .u64 rs])], x.1 ≠ X := hnX.out
            have hj3 := Lib.hid (HJ.out.put hX.out hnx 10 (.slice A6 qr c6))
            go_simp
            have hb3 := hj3.out.bx 0 rfl
            exact hK undef _ ⟨z0, z1, z2, z3, z4, z5, z6, z7, z8, z9, .slice A6 qr c6, hj3.out⟩ (fun k u h => h.step (fun A c ho => own_set ho) (fun h j u hj => bx_put hb0.out hb3 (by have := lt9 hj; omega) (Nat.lt_trans (lt9 hj) (by simp)) (h j u hj)) (fun h => (hb3.cell rfl).trans ((hb0.out.cell (j := 9) rfl).symm.trans h)) (fun A c h ho => ⟨A6, c6, hb3.cell rfl, own_set HO6.out⟩)) ⟨A6, c6, hb3.cell rfl, own_set HO6.out⟩
        · intro x W hRR hF
          obtain ⟨z0, z1, z2, z3, z4, z5, z6, z7, z8, z9, z10, hJ⟩ := hRR
          have h9 : ∀ j u, (#[.int .i64 n, .int .i64 u0, .int .i64 u1, .int .i64 u2, .int .i64 u3, .int .i64 u4, .int .i64 u5, .int .i64 u6, .int .i64 u7] : Array Value)[j]? = some u → W.cell? ⟨X, j, none⟩ = some u := hF 9 (by decide)
          have h12 : W.cell? ⟨X, 9, none⟩ = some (.bool true) := hF 12 (by decide)
          obtain ⟨A6, c6, h15, own6⟩ := hF 15 (by decide)
          have hb := hJ.bx 0 rfl
          have e0 : z0 = .int .i64 n := Option.some.inj ((hb.cell (j := 0) rfl).symm.trans (h9 0 _ rfl))
          have e1 : z1 = .int .i64 u0 := Option.some.inj ((hb.cell (j := 1) rfl).symm.trans (h9 1 _ rfl))
          have e2 : z2 = .int .i64 u1 := Option.some.inj ((hb.cell (j := 2) rfl).symm.trans (h9 2 _ rfl))
          have e3 : z3 = .int .i64 u2 := Option.some.inj ((hb.cell (j := 3) rfl).symm.trans (h9 3 _ rfl))
          have e4 : z4 = .int .i64 u3 := Option.some.inj ((hb.cell (j := 4) rfl).symm.trans (h9 4 _ rfl))
          have e5 : z5 = .int .i64 u4 := Option.some.inj ((hb.cell (j := 5) rfl).symm.trans (h9 5 _ rfl))
          have e6 : z6 = .int .i64 u5 := Option.some.inj ((hb.cell (j := 6) rfl).symm.trans (h9 6 _ rfl))
          have e7 : z7 = .int .i64 u6 := Option.some.inj ((hb.cell (j := 7) rfl).symm.trans (h9 7 _ rfl))
          have e8 : z8 = .int .i64 u7 := Option.some.inj ((hb.cell (j := 8) rfl).symm.trans (h9 8 _ rfl))
          have e9 : z9 = .bool true := Option.some.inj ((hb.cell (j := 9) rfl).symm.trans h12)
          have e10 : z10 = .slice A6 qr c6 := Option.some.inj ((hb.cell (j := 10) rfl).symm.trans h15)
          subst e0 e1 e2 e3 e4 e5 e6 e7 e8 e9 e10
          have hend : Hid (J w0 W [(X, _)]) := Lib.hid (J.less hJ (bs' := [(X, #[.int .i64 n, .int .i64 u0, .int .i64 u1, .int .i64 u2, .int .i64 u3, .int .i64 u4, .int .i64 u5, .int .i64 u6, .int .i64 u7, .bool true, .slice A6 qr c6, .int .i64 D])]) (by simp))
          have hrow : Hid (Rok W ⟨A6, c6, zs⟩) := Lib.hid ⟨own_sees own6, by have := hR.out.2; unfold maxLen; show zs.length ≤ _; omega⟩
          have k11 := (hend.out.bx 0 rfl).cell (j := 11) rfl
          simp only [Inv.fill, Act.put, List.setIfInBounds_toArray, List.set_cons_zero, List.set_cons_succ]
          clear hF hJ h9 h12 h15 own6 hb
          go_wp2_with (go_at_call 17; refine (bad_any X D _ k11).mono ?_; rintro e w' ⟨rfl, rfl⟩)
          go_ret
          exact ⟨A6, c6, rfl, by rw [hqr.out]; exact hend, hrow⟩
      · simp only [Bool.false_or, Bool.not_true, Bool.false_eq_true, if_false] at HE
        obtain rfl := HE.out
        obtain ⟨v0, v1, v2, v3, v4, v5, v6, v7, v8, v9, v10, v11⟩ := c12 (hj7.out.bx 0 rfl)
        obtain ⟨g0, g1, g2, g3, g4⟩ := (hj7.out.bx 2 rfl).c5
        go_wp2_with (go_at_call 29; ((with_reducible refine (HF.out _ hb7 v9 v10).mono ?_); rintro e w5 ⟨rfl, k5⟩; have hj8 := Lib.hid (hj7.out.next k5)))
        clear HF
        have hR0 : TR w0 X B w.heap.size #[.int .i64 n, .int .i64 u0, .int .i64 u1, .int .i64 u2, .int .i64 u3, .int .i64 u4, .int .i64 u5, .int .i64 u6, .int .i64 u7] #[.int .i64 pw, .int .i64 dr, .int .i64 cp, .slice Ar qr cr, .int .u64 rs] D _ := ⟨_, _, _, _, _, _, _, _, _, _, _, hj8.out.drew⟩
        refine wp_region_free (TR w0 X B w.heap.size #[.int .i64 n, .int .i64 u0, .int .i64 u1, .int .i64 u2, .int .i64 u3, .int .i64 u4, .int .i64 u5, .int .i64 u6, .int .i64 u7] #[.int .i64 pw, .int .i64 dr, .int .i64 cp, .slice Ar qr cr, .int .u64 rs] D) (TF X B w.heap.size #[.int .i64 n, .int .i64 u0, .int .i64 u1, .int .i64 u2, .int .i64 u3, .int .i64 u4, .int .i64 u5, .int .i64 u6, .int .i64 u7] Ar qr cr zs) hR0 (by kernel_rfl) (by kernel_rfl) (by kernel_rfl) ?_ ?_
        · intro i o x W K ho hRR hd hK
          obtain ⟨z0, z1, z2, z3, z4, z5, z6, z7, z8, z9, z10, hJ⟩ := hRR
          have HJ := Lib.hid hJ
          clear hJ
          match i, ho with
          | 0, ho =>
            obtain rfl := Option.some.inj ho
            simp only [Inv.fill, Act.put, List.setIfInBounds_toArray, List.set_cons_zero, List.set_cons_succ, List.take_succ_cons, List.take_zero] at hK ⊢
            clear hd ho 
            rw [wpOp]
            refine (if_pos rfl).mpr (.inl ?_)
            go_simp
            exact hK _ _ ⟨_, _, _, _, _, _, _, _, _, _, _, HJ.out⟩ (fun _ _ h => h) rfl
          | 1, ho =>
            obtain rfl := Option.some.inj ho
            simp only [Inv.fill, Act.put, List.setIfInBounds_toArray, List.set_cons_zero, List.set_cons_succ, List.take_succ_cons, List.take_zero] at hK ⊢
            clear hd ho 
            rw [wpOp]
            refine (if_pos rfl).mpr (.inl ?_)
            go_simp
            exact hK _ _ ⟨_, _, _, _, _, _, _, _, _, _, _, HJ.out⟩ (fun _ _ h => h) rfl
          | 2, ho =>
            obtain rfl := Option.some.inj ho
            simp only [Inv.fill, Act.put, List.setIfInBounds_toArray, List.set_cons_zero, List.set_cons_succ, List.take_succ_cons, List.take_zero] at hK ⊢
            clear hd ho 
            rw [wpOp]
            refine (if_pos rfl).mpr (.inl ?_)
            go_simp
            exact hK _ _ ⟨_, _, _, _, _, _, _, _, _, _, _, HJ.out⟩ (fun _ _ h => h) rfl
          | 3, ho =>
            obtain rfl := Option.some.inj ho
            simp only [Inv.fill, Act.put, List.setIfInBounds_toArray, List.set_cons_zero, List.set_cons_succ, List.take_succ_cons, List.take_zero] at hK ⊢
            clear hd ho 
            rw [wpOp]
            refine (if_pos rfl).mpr (.inl ?_)
            obtain ⟨d0, d1, d2, d3, d4, d5, d6, d7, d8⟩ := (HJ.out.bx 1 rfl).c9
            go_simp
            exact hK _ _ ⟨_, _, _, _, _, _, _, _, _, _, _, HJ.out⟩ (fun _ _ h => h) rfl
          | 4, ho =>
            obtain rfl := Option.some.inj ho
            simp only [Inv.fill, Act.put, List.setIfInBounds_toArray, List.set_cons_zero, List.set_cons_succ, List.take_succ_cons, List.take_zero] at hK ⊢
            clear hd ho 
            rw [wpOp]
            refine (if_pos rfl).mpr (.inl ?_)
            go_simp
            exact hK _ _ ⟨_, _, _, _, _, _, _, _, _, _, _, HJ.out⟩ (fun _ _ h => h) rfl
          | 5, ho =>
            obtain rfl := Option.some.inj ho
            have e4 : x 4 = .pointer (some ⟨w.heap.size, 3, none⟩) := hd ⟨4, .data⟩ (by simp) rfl
            simp only [Inv.fill, Act.put, List.setIfInBounds_toArray, List.set_cons_zero, List.set_cons_succ, List.take_succ_cons, List.take_zero, e4] at hK ⊢
            clear hd ho e4
            rw [wpOp]
            refine (if_pos rfl).mpr (.inl ?_)
            obtain ⟨e0, e1, e2, e3, e4⟩ := (HJ.out.bx 2 rfl).c5
            go_simp
            exact hK _ _ ⟨_, _, _, _, _, _, _, _, _, _, _, HJ.out⟩ (fun _ _ h => h) rfl
          | 6, ho =>
            obtain rfl := Option.some.inj ho
            have e5 : x 5 = .slice Ar qr cr := hd ⟨5, .data⟩ (by simp) rfl
            simp only [Inv.fill, Act.put, List.setIfInBounds_toArray, List.set_cons_zero, List.set_cons_succ, List.take_succ_cons, List.take_zero, e5] at hK ⊢
            clear hd ho e5
            rw [wpOp]
            refine (if_pos rfl).mpr (.inl ?_)
            have hc := clone_any zs Ar qr cr W hqr.out (by have := hR.out.2; have := hqr.out; omega) (sees_bw hR.out.1 HJ.out.below)
            go_simp
            refine hc.mono ?_
            rintro e w2 ⟨A', c', rfl, hown, hbel⟩
            have hXW : X + 1 ≤ W.heap.size := (HJ.out.bx 0 rfl).lt
            have hb0 := HJ.out.bx 0 rfl
            exact hK _ _ ⟨_, _, _, _, _, _, _, _, _, _, _, HJ.out.next hbel⟩ (fun k u h => h.step (fun A c ho => own_below ho hbel (fun k hk => (ho.lt k hk).2)) (fun h j u hj => (hbel.cell (p := ⟨X, j, none⟩) hb0.lt).trans (h j u hj)) (fun h => (hbel.cell (p := ⟨X, 9, none⟩) hb0.lt).trans h) (fun A c h ho => ⟨A, c, (hbel.cell (p := ⟨X, 10, none⟩) hb0.lt).trans h, own_below ho hbel (fun k hk => (ho.lt k hk).2)⟩)) ⟨A', c', rfl, own_lower hown hXW⟩
          | 7, ho =>
            obtain rfl := Option.some.inj ho
            have e0 : x 0 = .pointer (some ⟨X, 0, none⟩) := hd ⟨0, .data⟩ (by simp) rfl
            simp only [Inv.fill, Act.put, List.setIfInBounds_toArray, List.set_cons_zero, List.set_cons_succ, List.take_succ_cons, List.take_zero, e0] at hK ⊢
            clear hd ho e0
            rw [wpOp]
            refine (if_pos rfl).mpr (.inl ?_)
            go_simp
            exact hK _ _ ⟨_, _, _, _, _, _, _, _, _, _, _, HJ.out⟩ (fun _ _ h => h) rfl
          | 8, ho =>
            obtain rfl := Option.some.inj ho
            have e7 : x 7 = .pointer (some ⟨X, 0, none⟩) := hd ⟨7, .data⟩ (by simp) rfl
            simp only [Inv.fill, Act.put, List.setIfInBounds_toArray, List.set_cons_zero, List.set_cons_succ, List.take_succ_cons, List.take_zero, e7] at hK ⊢
            clear hd ho e7
            rw [wpOp]
            refine (if_pos rfl).mpr (.inl ?_)
            go_simp
            exact hK _ _ ⟨_, _, _, _, _, _, _, _, _, _, _, HJ.out⟩ (fun _ _ h => h) rfl
          | 9, ho =>
            obtain rfl := Option.some.inj ho
            have e8 : x 8 = .pointer (some ⟨X, 0, none⟩) := hd ⟨8, .data⟩ (by simp) rfl
            have e3 : x 3 = .agg #[.int .i64 n, .int .i64 u0, .int .i64 u1, .int .i64 u2, .int .i64 u3, .int .i64 u4, .int .i64 u5, .int .i64 u6, .int .i64 u7] := hd ⟨3, .data⟩ (by simp) rfl
            simp only [Inv.fill, Act.put, List.setIfInBounds_toArray, List.set_cons_zero, List.set_cons_succ, List.take_succ_cons, List.take_zero, e8, e3] at hK ⊢
            clear hd ho e8 e3
            rw [wpOp]
            refine (if_pos rfl).mpr (.inl ?_)
            have hb0 := Lib.hid (HJ.out.bx 0 rfl)
            obtain ⟨v0, v1, v2, v3, v4, v5, v6, v7, v8, v9, v10, v11⟩ := c12 hb0.out
            obtain ⟨y0, y1, y2, y3, y4, y5, y6, y7, y8, y9, y10, y11⟩ := f12 hb0.out
            have hnx : ∀ x ∈ [(B, (#[.int .i64 n, .int .i64 u0, .int .i64 u1, .int .i64 u2, .int .i64 u3, .int .i64 u4, .int .i64 u5, .int .i64 u6, .int .i64 u7] : Array Value)), (w.heap.size, #[.int .i64 pw, .int .i64 dr, .int .i64 cp, .slice Ar qr cr, .int .u64 rs])], x.1 ≠ X := hnX.out
            have hj3 := Lib.hid (j12 (x0 := .int .i64 n) (x1 := .int .i64 u0) (x2 := .int .i64 u1) (x3 := .int .i64 u2) (x4 := .int .i64 u3) (x5 := .int .i64 u4) (x6 := .int .i64 u5) (x7 := .int .i64 u6) (x8 := .int .i64 u7) HJ.out hX.out hnx)
            go_simp
            have hb3 := hj3.out.bx 0 rfl
            have hu9 : ∀ j u, (#[.int .i64 n, .int .i64 u0, .int .i64 u1, .int .i64 u2, .int .i64 u3, .int .i64 u4, .int .i64 u5, .int .i64 u6, .int .i64 u7] : Array Value)[j]? = some u → _ := fun j u hj => hb3.cell (j := j) (v := u) (u9 hj)
            exact hK undef _ ⟨.int .i64 n, .int .i64 u0, .int .i64 u1, .int .i64 u2, .int .i64 u3, .int .i64 u4, .int .i64 u5, .int .i64 u6, .int .i64 u7, z9, z10, hj3.out⟩ (fun k u h => h.step (fun A c ho => own_set (own_set (own_set (own_set (own_set (own_set (own_set (own_set (own_set ho))))))))) (fun _ => hu9) (fun h => (hb3.cell rfl).trans ((hb0.out.cell (j := 9) rfl).symm.trans h)) (fun A c h ho => ⟨A, c, (hb3.cell rfl).trans ((hb0.out.cell (j := 10) rfl).symm.trans h), own_set (own_set (own_set (own_set (own_set (own_set (own_set (own_set (own_set ho))))))))⟩)) hu9
          | 10, ho =>
            obtain rfl := Option.some.inj ho
            have e1 : x 1 = .pointer (some ⟨X, 0, none⟩) := hd ⟨1, .data⟩ (by simp) rfl
            simp only [Inv.fill, Act.put, List.setIfInBounds_toArray, List.set_cons_zero, List.set_cons_succ, List.take_succ_cons, List.take_zero, e1] at hK ⊢
            clear hd ho e1
            rw [wpOp]
            refine (if_pos rfl).mpr (.inl ?_)
            go_simp
            exact hK _ _ ⟨_, _, _, _, _, _, _, _, _, _, _, HJ.out⟩ (fun _ _ h => h) rfl
          | 11, ho =>
            obtain rfl := Option.some.inj ho
            have e10 : x 10 = .pointer (some ⟨X, 0, none⟩) := hd ⟨10, .data⟩ (by simp) rfl
            simp only [Inv.fill, Act.put, List.setIfInBounds_toArray, List.set_cons_zero, List.set_cons_succ, List.take_succ_cons, List.take_zero, e10] at hK ⊢
            clear hd ho e10
            rw [wpOp]
            refine (if_pos rfl).mpr (.inl ?_)
            go_simp
            exact hK _ _ ⟨_, _, _, _, _, _, _, _, _, _, _, HJ.out⟩ (fun _ _ h => h) rfl
          | 12, ho =>
            obtain rfl := Option.some.inj ho
            have e11 : x 11 = .pointer (some ⟨X, 9, none⟩) := hd ⟨11, .data⟩ (by simp) rfl
            simp only [Inv.fill, Act.put, List.setIfInBounds_toArray, List.set_cons_zero, List.set_cons_succ, List.take_succ_cons, List.take_zero, e11] at hK ⊢
            clear hd ho e11
            rw [wpOp]
            refine (if_pos rfl).mpr (.inl ?_)
            have hb0 := Lib.hid (HJ.out.bx 0 rfl)
            obtain ⟨v0, v1, v2, v3, v4, v5, v6, v7, v8, v9, v10, v11⟩ := c12 hb0.out
            obtain ⟨y0, y1, y2, y3, y4, y5, y6, y7, y8, y9, y10, y11⟩ := f12 hb0.out
            have hnx : ∀ x ∈ [(B, (#[.int .i64 n, .int .i64 u0, .int .i64 u1, .int .i64 u2, .int .i64 u3, .int .i64 u4, .int .i64 u5, .int .i64 u6, .int .i64 u7] : Array Value)), (w.heap.size, #[.int .i64 pw, .int .i64 dr, .int .i64 cp, .slice Ar qr cr, .int .u64 rs])], x.1 ≠ X := hnX.out
            have hj3 := Lib.hid (HJ.out.put hX.out hnx 9 (.bool true))
            go_simp
            have hb3 := hj3.out.bx 0 rfl
            exact hK undef _ ⟨z0, z1, z2, z3, z4, z5, z6, z7, z8, .bool true, z10, hj3.out⟩ (fun k u h => h.step (fun A c ho => own_set ho) (fun h j u hj => bx_put hb0.out hb3 (by have := lt9 hj; omega) (Nat.lt_trans (lt9 hj) (by simp)) (h j u hj)) (fun _ => hb3.cell rfl) (fun A c h ho => ⟨A, c, (hb3.cell rfl).trans ((hb0.out.cell (j := 10) rfl).symm.trans h), own_set ho⟩)) (hb3.cell rfl)
          | 13, ho =>
            obtain rfl := Option.some.inj ho
            have e2 : x 2 = .pointer (some ⟨X, 0, none⟩) := hd ⟨2, .data⟩ (by simp) rfl
            simp only [Inv.fill, Act.put, List.setIfInBounds_toArray, List.set_cons_zero, List.set_cons_succ, List.take_succ_cons, List.take_zero, e2] at hK ⊢
            clear hd ho e2
            rw [wpOp]
            refine (if_pos rfl).mpr (.inl ?_)
            go_simp
            exact hK _ _ ⟨_, _, _, _, _, _, _, _, _, _, _, HJ.out⟩ (fun _ _ h => h) rfl
          | 14, ho =>
            obtain rfl := Option.some.inj ho
            have e13 : x 13 = .pointer (some ⟨X, 0, none⟩) := hd ⟨13, .data⟩ (by simp) rfl
            simp only [Inv.fill, Act.put, List.setIfInBounds_toArray, List.set_cons_zero, List.set_cons_succ, List.take_succ_cons, List.take_zero, e13] at hK ⊢
            clear hd ho e13
            rw [wpOp]
            refine (if_pos rfl).mpr (.inl ?_)
            go_simp
            exact hK _ _ ⟨_, _, _, _, _, _, _, _, _, _, _, HJ.out⟩ (fun _ _ h => h) rfl
          | 15, ho =>
            obtain rfl := Option.some.inj ho
            obtain ⟨A6, c6, e6, own6⟩ := hd ⟨6, .data⟩ (by simp) rfl
            have own6 : W.ownsRow (X + 1) 3 1 (.slice A6 qr c6) qr (nums .i64 zs) := own6
            have HO6 := Lib.hid own6
            clear own6
            have e14 : x 14 = .pointer (some ⟨X, 10, none⟩) := hd ⟨14, .data⟩ (by simp) rfl
            simp only [Inv.fill, Act.put, List.setIfInBounds_toArray, List.set_cons_zero, List.set_cons_succ, List.take_succ_cons, List.take_zero, e6, e14] at hK ⊢
            clear hd ho e6 e14
            rw [wpOp]
            refine (if_pos rfl).mpr (.inl ?_)
            have hb0 := Lib.hid (HJ.out.bx 0 rfl)
            obtain ⟨v0, v1, v2, v3, v4, v5, v6, v7, v8, v9, v10, v11⟩ := c12 hb0.out
            obtain ⟨y0, y1, y2, y3, y4, y5, y6, y7, y8, y9, y10, y11⟩ := f12 hb0.out
            have hnx : ∀ x ∈ [(B, (#[.int .i64 n, .int .i64 u0, .int .i64 u1, .int .i64 u2, .int .i64 u3, .int .i64 u4, .int .i64 u5, .int .i64 u6, .int .i64 u7] : Array Value)), (w.heap.size, #[.int .i64 pw, .int .i64 dr, .int .i64 cp, .slice Ar qr cr, .int .u64 rs])], x.1 ≠ X := hnX.out
            have hj3 := Lib.hid (HJ.out.put hX.out hnx 10 (.slice A6 qr c6))
            go_simp
            have hb3 := hj3.out.bx 0 rfl
            exact hK undef _ ⟨z0, z1, z2, z3, z4, z5, z6, z7, z8, z9, .slice A6 qr c6, hj3.out⟩ (fun k u h => h.step (fun A c ho => own_set ho) (fun h j u hj => bx_put hb0.out hb3 (by have := lt9 hj; omega) (Nat.lt_trans (lt9 hj) (by simp)) (h j u hj)) (fun h => (hb3.cell rfl).trans ((hb0.out.cell (j := 9) rfl).symm.trans h)) (fun A c h ho => ⟨A6, c6, hb3.cell rfl, own_set HO6.out⟩)) ⟨A6, c6, hb3.cell rfl, own_set HO6.out⟩
        · intro x W hRR hF
          obtain ⟨z0, z1, z2, z3, z4, z5, z6, z7, z8, z9, z10, hJ⟩ := hRR
          have h9 : ∀ j u, (#[.int .i64 n, .int .i64 u0, .int .i64 u1, .int .i64 u2, .int .i64 u3, .int .i64 u4, .int .i64 u5, .int .i64 u6, .int .i64 u7] : Array Value)[j]? = some u → W.cell? ⟨X, j, none⟩ = some u := hF 9 (by decide)
          have h12 : W.cell? ⟨X, 9, none⟩ = some (.bool true) := hF 12 (by decide)
          obtain ⟨A6, c6, h15, own6⟩ := hF 15 (by decide)
          have hb := hJ.bx 0 rfl
          have e0 : z0 = .int .i64 n := Option.some.inj ((hb.cell (j := 0) rfl).symm.trans (h9 0 _ rfl))
          have e1 : z1 = .int .i64 u0 := Option.some.inj ((hb.cell (j := 1) rfl).symm.trans (h9 1 _ rfl))
          have e2 : z2 = .int .i64 u1 := Option.some.inj ((hb.cell (j := 2) rfl).symm.trans (h9 2 _ rfl))
          have e3 : z3 = .int .i64 u2 := Option.some.inj ((hb.cell (j := 3) rfl).symm.trans (h9 3 _ rfl))
          have e4 : z4 = .int .i64 u3 := Option.some.inj ((hb.cell (j := 4) rfl).symm.trans (h9 4 _ rfl))
          have e5 : z5 = .int .i64 u4 := Option.some.inj ((hb.cell (j := 5) rfl).symm.trans (h9 5 _ rfl))
          have e6 : z6 = .int .i64 u5 := Option.some.inj ((hb.cell (j := 6) rfl).symm.trans (h9 6 _ rfl))
          have e7 : z7 = .int .i64 u6 := Option.some.inj ((hb.cell (j := 7) rfl).symm.trans (h9 7 _ rfl))
          have e8 : z8 = .int .i64 u7 := Option.some.inj ((hb.cell (j := 8) rfl).symm.trans (h9 8 _ rfl))
          have e9 : z9 = .bool true := Option.some.inj ((hb.cell (j := 9) rfl).symm.trans h12)
          have e10 : z10 = .slice A6 qr c6 := Option.some.inj ((hb.cell (j := 10) rfl).symm.trans h15)
          subst e0 e1 e2 e3 e4 e5 e6 e7 e8 e9 e10
          have hend : Hid (J w0 W [(X, _)]) := Lib.hid (J.less hJ (bs' := [(X, #[.int .i64 n, .int .i64 u0, .int .i64 u1, .int .i64 u2, .int .i64 u3, .int .i64 u4, .int .i64 u5, .int .i64 u6, .int .i64 u7, .bool true, .slice A6 qr c6, .int .i64 D])]) (by simp))
          have hrow : Hid (Rok W ⟨A6, c6, zs⟩) := Lib.hid ⟨own_sees own6, by have := hR.out.2; unfold maxLen; show zs.length ≤ _; omega⟩
          have k11 := (hend.out.bx 0 rfl).cell (j := 11) rfl
          simp only [Inv.fill, Act.put, List.setIfInBounds_toArray, List.set_cons_zero, List.set_cons_succ]
          clear hF hJ h9 h12 h15 own6 hb
          go_wp2_with (go_at_call 17; refine (bad_any X D _ k11).mono ?_; rintro e w' ⟨rfl, rfl⟩)
          go_ret
          exact ⟨A6, c6, rfl, by rw [hqr.out]; exact hend, hrow⟩
    · simp only [Bool.true_or, if_true] at HE
      obtain rfl := HE.out
      obtain ⟨v0, v1, v2, v3, v4, v5, v6, v7, v8, v9, v10, v11⟩ := c12 (hj7.out.bx 0 rfl)
      obtain ⟨y0, y1, y2, y3, y4, y5, y6, y7, y8, y9, y10, y11⟩ := f12 (hj7.out.bx 0 rfl)
      clear HF
      have hj8 := Lib.hid (hj7.out.put hX.out hnX.out 11 (.int .i64 D))
      have hb8 := Lib.hid (hb7.out)
      go_wp2_with (go_at_call 30; refine (add_any ⟨X, 11, none⟩ d D _ ew2 v11 y11).mono ?_; rintro e w' ⟨rfl, rfl⟩)
      have hR0 : TR w0 X B w.heap.size #[.int .i64 n, .int .i64 u0, .int .i64 u1, .int .i64 u2, .int .i64 u3, .int .i64 u4, .int .i64 u5, .int .i64 u6, .int .i64 u7] #[.int .i64 pw, .int .i64 dr, .int .i64 cp, .slice Ar qr cr, .int .u64 rs] D _ := ⟨_, _, _, _, _, _, _, _, _, _, _, hj8.out.drew⟩
      refine wp_region_free (TR w0 X B w.heap.size #[.int .i64 n, .int .i64 u0, .int .i64 u1, .int .i64 u2, .int .i64 u3, .int .i64 u4, .int .i64 u5, .int .i64 u6, .int .i64 u7] #[.int .i64 pw, .int .i64 dr, .int .i64 cp, .slice Ar qr cr, .int .u64 rs] D) (TF X B w.heap.size #[.int .i64 n, .int .i64 u0, .int .i64 u1, .int .i64 u2, .int .i64 u3, .int .i64 u4, .int .i64 u5, .int .i64 u6, .int .i64 u7] Ar qr cr zs) hR0 (by kernel_rfl) (by kernel_rfl) (by kernel_rfl) ?_ ?_
      · intro i o x W K ho hRR hd hK
        obtain ⟨z0, z1, z2, z3, z4, z5, z6, z7, z8, z9, z10, hJ⟩ := hRR
        have HJ := Lib.hid hJ
        clear hJ
        match i, ho with
        | 0, ho =>
          obtain rfl := Option.some.inj ho
          simp only [Inv.fill, Act.put, List.setIfInBounds_toArray, List.set_cons_zero, List.set_cons_succ, List.take_succ_cons, List.take_zero] at hK ⊢
          clear hd ho 
          rw [wpOp]
          refine (if_pos rfl).mpr (.inl ?_)
          go_simp
          exact hK _ _ ⟨_, _, _, _, _, _, _, _, _, _, _, HJ.out⟩ (fun _ _ h => h) rfl
        | 1, ho =>
          obtain rfl := Option.some.inj ho
          simp only [Inv.fill, Act.put, List.setIfInBounds_toArray, List.set_cons_zero, List.set_cons_succ, List.take_succ_cons, List.take_zero] at hK ⊢
          clear hd ho 
          rw [wpOp]
          refine (if_pos rfl).mpr (.inl ?_)
          go_simp
          exact hK _ _ ⟨_, _, _, _, _, _, _, _, _, _, _, HJ.out⟩ (fun _ _ h => h) rfl
        | 2, ho =>
          obtain rfl := Option.some.inj ho
          simp only [Inv.fill, Act.put, List.setIfInBounds_toArray, List.set_cons_zero, List.set_cons_succ, List.take_succ_cons, List.take_zero] at hK ⊢
          clear hd ho 
          rw [wpOp]
          refine (if_pos rfl).mpr (.inl ?_)
          go_simp
          exact hK _ _ ⟨_, _, _, _, _, _, _, _, _, _, _, HJ.out⟩ (fun _ _ h => h) rfl
        | 3, ho =>
          obtain rfl := Option.some.inj ho
          simp only [Inv.fill, Act.put, List.setIfInBounds_toArray, List.set_cons_zero, List.set_cons_succ, List.take_succ_cons, List.take_zero] at hK ⊢
          clear hd ho 
          rw [wpOp]
          refine (if_pos rfl).mpr (.inl ?_)
          obtain ⟨d0, d1, d2, d3, d4, d5, d6, d7, d8⟩ := (HJ.out.bx 1 rfl).c9
          go_simp
          exact hK _ _ ⟨_, _, _, _, _, _, _, _, _, _, _, HJ.out⟩ (fun _ _ h => h) rfl
        | 4, ho =>
          obtain rfl := Option.some.inj ho
          simp only [Inv.fill, Act.put, List.setIfInBounds_toArray, List.set_cons_zero, List.set_cons_succ, List.take_succ_cons, List.take_zero] at hK ⊢
          clear hd ho 
          rw [wpOp]
          refine (if_pos rfl).mpr (.inl ?_)
          go_simp
          exact hK _ _ ⟨_, _, _, _, _, _, _, _, _, _, _, HJ.out⟩ (fun _ _ h => h) rfl
        | 5, ho =>
          obtain rfl := Option.some.inj ho
          have e4 : x 4 = .pointer (some ⟨w.heap.size, 3, none⟩) := hd ⟨4, .data⟩ (by simp) rfl
          simp only [Inv.fill, Act.put, List.setIfInBounds_toArray, List.set_cons_zero, List.set_cons_succ, List.take_succ_cons, List.take_zero, e4] at hK ⊢
          clear hd ho e4
          rw [wpOp]
          refine (if_pos rfl).mpr (.inl ?_)
          obtain ⟨e0, e1, e2, e3, e4⟩ := (HJ.out.bx 2 rfl).c5
          go_simp
          exact hK _ _ ⟨_, _, _, _, _, _, _, _, _, _, _, HJ.out⟩ (fun _ _ h => h) rfl
        | 6, ho =>
          obtain rfl := Option.some.inj ho
          have e5 : x 5 = .slice Ar qr cr := hd ⟨5, .data⟩ (by simp) rfl
          simp only [Inv.fill, Act.put, List.setIfInBounds_toArray, List.set_cons_zero, List.set_cons_succ, List.take_succ_cons, List.take_zero, e5] at hK ⊢
          clear hd ho e5
          rw [wpOp]
          refine (if_pos rfl).mpr (.inl ?_)
          have hc := clone_any zs Ar qr cr W hqr.out (by have := hR.out.2; have := hqr.out; omega) (sees_bw hR.out.1 HJ.out.below)
          go_simp
          refine hc.mono ?_
          rintro e w2 ⟨A', c', rfl, hown, hbel⟩
          have hXW : X + 1 ≤ W.heap.size := (HJ.out.bx 0 rfl).lt
          have hb0 := HJ.out.bx 0 rfl
          exact hK _ _ ⟨_, _, _, _, _, _, _, _, _, _, _, HJ.out.next hbel⟩ (fun k u h => h.step (fun A c ho => own_below ho hbel (fun k hk => (ho.lt k hk).2)) (fun h j u hj => (hbel.cell (p := ⟨X, j, none⟩) hb0.lt).trans (h j u hj)) (fun h => (hbel.cell (p := ⟨X, 9, none⟩) hb0.lt).trans h) (fun A c h ho => ⟨A, c, (hbel.cell (p := ⟨X, 10, none⟩) hb0.lt).trans h, own_below ho hbel (fun k hk => (ho.lt k hk).2)⟩)) ⟨A', c', rfl, own_lower hown hXW⟩
        | 7, ho =>
          obtain rfl := Option.some.inj ho
          have e0 : x 0 = .pointer (some ⟨X, 0, none⟩) := hd ⟨0, .data⟩ (by simp) rfl
          simp only [Inv.fill, Act.put, List.setIfInBounds_toArray, List.set_cons_zero, List.set_cons_succ, List.take_succ_cons, List.take_zero, e0] at hK ⊢
          clear hd ho e0
          rw [wpOp]
          refine (if_pos rfl).mpr (.inl ?_)
          go_simp
          exact hK _ _ ⟨_, _, _, _, _, _, _, _, _, _, _, HJ.out⟩ (fun _ _ h => h) rfl
        | 8, ho =>
          obtain rfl := Option.some.inj ho
          have e7 : x 7 = .pointer (some ⟨X, 0, none⟩) := hd ⟨7, .data⟩ (by simp) rfl
          simp only [Inv.fill, Act.put, List.setIfInBounds_toArray, List.set_cons_zero, List.set_cons_succ, List.take_succ_cons, List.take_zero, e7] at hK ⊢
          clear hd ho e7
          rw [wpOp]
          refine (if_pos rfl).mpr (.inl ?_)
          go_simp
          exact hK _ _ ⟨_, _, _, _, _, _, _, _, _, _, _, HJ.out⟩ (fun _ _ h => h) rfl
        | 9, ho =>
          obtain rfl := Option.some.inj ho
          have e8 : x 8 = .pointer (some ⟨X, 0, none⟩) := hd ⟨8, .data⟩ (by simp) rfl
          have e3 : x 3 = .agg #[.int .i64 n, .int .i64 u0, .int .i64 u1, .int .i64 u2, .int .i64 u3, .int .i64 u4, .int .i64 u5, .int .i64 u6, .int .i64 u7] := hd ⟨3, .data⟩ (by simp) rfl
          simp only [Inv.fill, Act.put, List.setIfInBounds_toArray, List.set_cons_zero, List.set_cons_succ, List.take_succ_cons, List.take_zero, e8, e3] at hK ⊢
          clear hd ho e8 e3
          rw [wpOp]
          refine (if_pos rfl).mpr (.inl ?_)
          have hb0 := Lib.hid (HJ.out.bx 0 rfl)
          obtain ⟨v0, v1, v2, v3, v4, v5, v6, v7, v8, v9, v10, v11⟩ := c12 hb0.out
          obtain ⟨y0, y1, y2, y3, y4, y5, y6, y7, y8, y9, y10, y11⟩ := f12 hb0.out
          have hnx : ∀ x ∈ [(B, (#[.int .i64 n, .int .i64 u0, .int .i64 u1, .int .i64 u2, .int .i64 u3, .int .i64 u4, .int .i64 u5, .int .i64 u6, .int .i64 u7] : Array Value)), (w.heap.size, #[.int .i64 pw, .int .i64 dr, .int .i64 cp, .slice Ar qr cr, .int .u64 rs])], x.1 ≠ X := hnX.out
          have hj3 := Lib.hid (j12 (x0 := .int .i64 n) (x1 := .int .i64 u0) (x2 := .int .i64 u1) (x3 := .int .i64 u2) (x4 := .int .i64 u3) (x5 := .int .i64 u4) (x6 := .int .i64 u5) (x7 := .int .i64 u6) (x8 := .int .i64 u7) HJ.out hX.out hnx)
          go_simp
          have hb3 := hj3.out.bx 0 rfl
          have hu9 : ∀ j u, (#[.int .i64 n, .int .i64 u0, .int .i64 u1, .int .i64 u2, .int .i64 u3, .int .i64 u4, .int .i64 u5, .int .i64 u6, .int .i64 u7] : Array Value)[j]? = some u → _ := fun j u hj => hb3.cell (j := j) (v := u) (u9 hj)
          exact hK undef _ ⟨.int .i64 n, .int .i64 u0, .int .i64 u1, .int .i64 u2, .int .i64 u3, .int .i64 u4, .int .i64 u5, .int .i64 u6, .int .i64 u7, z9, z10, hj3.out⟩ (fun k u h => h.step (fun A c ho => own_set (own_set (own_set (own_set (own_set (own_set (own_set (own_set (own_set ho))))))))) (fun _ => hu9) (fun h => (hb3.cell rfl).trans ((hb0.out.cell (j := 9) rfl).symm.trans h)) (fun A c h ho => ⟨A, c, (hb3.cell rfl).trans ((hb0.out.cell (j := 10) rfl).symm.trans h), own_set (own_set (own_set (own_set (own_set (own_set (own_set (own_set (own_set ho))))))))⟩)) hu9
        | 10, ho =>
          obtain rfl := Option.some.inj ho
          have e1 : x 1 = .pointer (some ⟨X, 0, none⟩) := hd ⟨1, .data⟩ (by simp) rfl
          simp only [Inv.fill, Act.put, List.setIfInBounds_toArray, List.set_cons_zero, List.set_cons_succ, List.take_succ_cons, List.take_zero, e1] at hK ⊢
          clear hd ho e1
          rw [wpOp]
          refine (if_pos rfl).mpr (.inl ?_)
          go_simp
          exact hK _ _ ⟨_, _, _, _, _, _, _, _, _, _, _, HJ.out⟩ (fun _ _ h => h) rfl
        | 11, ho =>
          obtain rfl := Option.some.inj ho
          have e10 : x 10 = .pointer (some ⟨X, 0, none⟩) := hd ⟨10, .data⟩ (by simp) rfl
          simp only [Inv.fill, Act.put, List.setIfInBounds_toArray, List.set_cons_zero, List.set_cons_succ, List.take_succ_cons, List.take_zero, e10] at hK ⊢
          clear hd ho e10
          rw [wpOp]
          refine (if_pos rfl).mpr (.inl ?_)
          go_simp
          exact hK _ _ ⟨_, _, _, _, _, _, _, _, _, _, _, HJ.out⟩ (fun _ _ h => h) rfl
        | 12, ho =>
          obtain rfl := Option.some.inj ho
          have e11 : x 11 = .pointer (some ⟨X, 9, none⟩) := hd ⟨11, .data⟩ (by simp) rfl
          simp only [Inv.fill, Act.put, List.setIfInBounds_toArray, List.set_cons_zero, List.set_cons_succ, List.take_succ_cons, List.take_zero, e11] at hK ⊢
          clear hd ho e11
          rw [wpOp]
          refine (if_pos rfl).mpr (.inl ?_)
          have hb0 := Lib.hid (HJ.out.bx 0 rfl)
          obtain ⟨v0, v1, v2, v3, v4, v5, v6, v7, v8, v9, v10, v11⟩ := c12 hb0.out
          obtain ⟨y0, y1, y2, y3, y4, y5, y6, y7, y8, y9, y10, y11⟩ := f12 hb0.out
          have hnx : ∀ x ∈ [(B, (#[.int .i64 n, .int .i64 u0, .int .i64 u1, .int .i64 u2, .int .i64 u3, .int .i64 u4, .int .i64 u5, .int .i64 u6, .int .i64 u7] : Array Value)), (w.heap.size, #[.int .i64 pw, .int .i64 dr, .int .i64 cp, .slice Ar qr cr, .int .u64 rs])], x.1 ≠ X := hnX.out
          have hj3 := Lib.hid (HJ.out.put hX.out hnx 9 (.bool true))
          go_simp
          have hb3 := hj3.out.bx 0 rfl
          exact hK undef _ ⟨z0, z1, z2, z3, z4, z5, z6, z7, z8, .bool true, z10, hj3.out⟩ (fun k u h => h.step (fun A c ho => own_set ho) (fun h j u hj => bx_put hb0.out hb3 (by have := lt9 hj; omega) (Nat.lt_trans (lt9 hj) (by simp)) (h j u hj)) (fun _ => hb3.cell rfl) (fun A c h ho => ⟨A, c, (hb3.cell rfl).trans ((hb0.out.cell (j := 10) rfl).symm.trans h), own_set ho⟩)) (hb3.cell rfl)
        | 13, ho =>
          obtain rfl := Option.some.inj ho
          have e2 : x 2 = .pointer (some ⟨X, 0, none⟩) := hd ⟨2, .data⟩ (by simp) rfl
          simp only [Inv.fill, Act.put, List.setIfInBounds_toArray, List.set_cons_zero, List.set_cons_succ, List.take_succ_cons, List.take_zero, e2] at hK ⊢
          clear hd ho e2
          rw [wpOp]
          refine (if_pos rfl).mpr (.inl ?_)
          go_simp
          exact hK _ _ ⟨_, _, _, _, _, _, _, _, _, _, _, HJ.out⟩ (fun _ _ h => h) rfl
        | 14, ho =>
          obtain rfl := Option.some.inj ho
          have e13 : x 13 = .pointer (some ⟨X, 0, none⟩) := hd ⟨13, .data⟩ (by simp) rfl
          simp only [Inv.fill, Act.put, List.setIfInBounds_toArray, List.set_cons_zero, List.set_cons_succ, List.take_succ_cons, List.take_zero, e13] at hK ⊢
          clear hd ho e13
          rw [wpOp]
          refine (if_pos rfl).mpr (.inl ?_)
          go_simp
          exact hK _ _ ⟨_, _, _, _, _, _, _, _, _, _, _, HJ.out⟩ (fun _ _ h => h) rfl
        | 15, ho =>
          obtain rfl := Option.some.inj ho
          obtain ⟨A6, c6, e6, own6⟩ := hd ⟨6, .data⟩ (by simp) rfl
          have own6 : W.ownsRow (X + 1) 3 1 (.slice A6 qr c6) qr (nums .i64 zs) := own6
          have HO6 := Lib.hid own6
          clear own6
          have e14 : x 14 = .pointer (some ⟨X, 10, none⟩) := hd ⟨14, .data⟩ (by simp) rfl
          simp only [Inv.fill, Act.put, List.setIfInBounds_toArray, List.set_cons_zero, List.set_cons_succ, List.take_succ_cons, List.take_zero, e6, e14] at hK ⊢
          clear hd ho e6 e14
          rw [wpOp]
          refine (if_pos rfl).mpr (.inl ?_)
          have hb0 := Lib.hid (HJ.out.bx 0 rfl)
          obtain ⟨v0, v1, v2, v3, v4, v5, v6, v7, v8, v9, v10, v11⟩ := c12 hb0.out
          obtain ⟨y0, y1, y2, y3, y4, y5, y6, y7, y8, y9, y10, y11⟩ := f12 hb0.out
          have hnx : ∀ x ∈ [(B, (#[.int .i64 n, .int .i64 u0, .int .i64 u1, .int .i64 u2, .int .i64 u3, .int .i64 u4, .int .i64 u5, .int .i64 u6, .int .i64 u7] : Array Value)), (w.heap.size, #[.int .i64 pw, .int .i64 dr, .int .i64 cp, .slice Ar qr cr, .int .u64 rs])], x.1 ≠ X := hnX.out
          have hj3 := Lib.hid (HJ.out.put hX.out hnx 10 (.slice A6 qr c6))
          go_simp
          have hb3 := hj3.out.bx 0 rfl
          exact hK undef _ ⟨z0, z1, z2, z3, z4, z5, z6, z7, z8, z9, .slice A6 qr c6, hj3.out⟩ (fun k u h => h.step (fun A c ho => own_set ho) (fun h j u hj => bx_put hb0.out hb3 (by have := lt9 hj; omega) (Nat.lt_trans (lt9 hj) (by simp)) (h j u hj)) (fun h => (hb3.cell rfl).trans ((hb0.out.cell (j := 9) rfl).symm.trans h)) (fun A c h ho => ⟨A6, c6, hb3.cell rfl, own_set HO6.out⟩)) ⟨A6, c6, hb3.cell rfl, own_set HO6.out⟩
      · intro x W hRR hF
        obtain ⟨z0, z1, z2, z3, z4, z5, z6, z7, z8, z9, z10, hJ⟩ := hRR
        have h9 : ∀ j u, (#[.int .i64 n, .int .i64 u0, .int .i64 u1, .int .i64 u2, .int .i64 u3, .int .i64 u4, .int .i64 u5, .int .i64 u6, .int .i64 u7] : Array Value)[j]? = some u → W.cell? ⟨X, j, none⟩ = some u := hF 9 (by decide)
        have h12 : W.cell? ⟨X, 9, none⟩ = some (.bool true) := hF 12 (by decide)
        obtain ⟨A6, c6, h15, own6⟩ := hF 15 (by decide)
        have hb := hJ.bx 0 rfl
        have e0 : z0 = .int .i64 n := Option.some.inj ((hb.cell (j := 0) rfl).symm.trans (h9 0 _ rfl))
        have e1 : z1 = .int .i64 u0 := Option.some.inj ((hb.cell (j := 1) rfl).symm.trans (h9 1 _ rfl))
        have e2 : z2 = .int .i64 u1 := Option.some.inj ((hb.cell (j := 2) rfl).symm.trans (h9 2 _ rfl))
        have e3 : z3 = .int .i64 u2 := Option.some.inj ((hb.cell (j := 3) rfl).symm.trans (h9 3 _ rfl))
        have e4 : z4 = .int .i64 u3 := Option.some.inj ((hb.cell (j := 4) rfl).symm.trans (h9 4 _ rfl))
        have e5 : z5 = .int .i64 u4 := Option.some.inj ((hb.cell (j := 5) rfl).symm.trans (h9 5 _ rfl))
        have e6 : z6 = .int .i64 u5 := Option.some.inj ((hb.cell (j := 6) rfl).symm.trans (h9 6 _ rfl))
        have e7 : z7 = .int .i64 u6 := Option.some.inj ((hb.cell (j := 7) rfl).symm.trans (h9 7 _ rfl))
        have e8 : z8 = .int .i64 u7 := Option.some.inj ((hb.cell (j := 8) rfl).symm.trans (h9 8 _ rfl))
        have e9 : z9 = .bool true := Option.some.inj ((hb.cell (j := 9) rfl).symm.trans h12)
        have e10 : z10 = .slice A6 qr c6 := Option.some.inj ((hb.cell (j := 10) rfl).symm.trans h15)
        subst e0 e1 e2 e3 e4 e5 e6 e7 e8 e9 e10
        have hend : Hid (J w0 W [(X, _)]) := Lib.hid (J.less hJ (bs' := [(X, #[.int .i64 n, .int .i64 u0, .int .i64 u1, .int .i64 u2, .int .i64 u3, .int .i64 u4, .int .i64 u5, .int .i64 u6, .int .i64 u7, .bool true, .slice A6 qr c6, .int .i64 D])]) (by simp))
        have hrow : Hid (Rok W ⟨A6, c6, zs⟩) := Lib.hid ⟨own_sees own6, by have := hR.out.2; unfold maxLen; show zs.length ≤ _; omega⟩
        have k11 := (hend.out.bx 0 rfl).cell (j := 11) rfl
        simp only [Inv.fill, Act.put, List.setIfInBounds_toArray, List.set_cons_zero, List.set_cons_succ]
        clear hF hJ h9 h12 h15 own6 hb
        go_wp2_with (go_at_call 17; refine (bad_any X D _ k11).mono ?_; rintro e w' ⟨rfl, rfl⟩)
        go_ret
        exact ⟨A6, c6, rfl, by rw [hqr.out]; exact hend, hrow⟩
end Go.Proofs.YthgfjikhbgippaaDoor.Wat
