/- The contract of Fit. -/
import Derived.Test.YtibolhdopeclmaaLgrC
import Derived.Test.YtibolhdopeclmaaLgrD
import Derived.Test.YtibolhdopeclmaaLgrF
namespace Go.Proofs.Ytibolhdopeclmaa.Lgr
open Go.RowKit Go.Shelf Go.Proofs.Ytibolhdopeclmaa.LgrP Go.Proofs.Ytibolhdopeclmaa.Open Go.Proofs.Ytibolhdopeclmaa.Sees Go.Proofs.Ytibolhdopeclmaa.Box Go.Proofs.Ytibolhdopeclmaa.Held
set_option linter.unusedVariables false
attribute [local go_sem] Oper.semAt_some

/-- a budget as it counts -/
def cl (n : Int) : Int := max 0 (min n 1048576)
theorem cl_in (n : Int) : 0 ≤ cl n ∧ cl n ≤ 1048576 := by unfold cl; omega
theorem infoInt : (Try.prog.info? 3).map (fun i => (i.zero, i.size, i.bytes)) = some (some (.int .i64 0), 1, 8) := by kernel_rfl

theorem bx_grown {W W' : World} {X : Nat} {cs : Array Value} {row : Option Nat} (h : Bx W X cs) (hg : W.grownBy W' row) (hr : ∀ r, row = some r → ∃ o : Obj, W.heap[r]? = some o ∧ o.isCells = false) : Bx W' X cs := by
  obtain ⟨t, h⟩ := h
  refine ⟨t, (hg.block X (Array.getElem?_eq_some_iff.1 h).1 (fun e => ?_)).trans h⟩
  obtain ⟨o, ho, hc⟩ := hr X e.symm
  rw [h] at ho; cases ho; cases hc
theorem kb_own {β : Type} {T base B : Nat} {W₀ : World} (h0 : base ≤ W₀.heap.size) (hB : base ≤ B) : OwnFrom B (fun (_ : β) W => KB T base W₀ W) :=
  fun s X Y row hs hg hr => hs.grown hg (fun r e => Nat.le_trans hB (hr r e).1) (Nat.le_trans h0 hs.size)
theorem KB.j {T base : Nat} {w A B : World} {bs : List (Nat × Array Value)} (h : KB T base A B) (hj : J w A bs) (hlt : ∀ x ∈ bs, x.1 < base ∧ x.1 ≠ T) (hT : w.heap.size ≤ T) (hb : w.heap.size ≤ base) : J w B bs :=
  ⟨hj.below.trans (h.below hT hb), fun x hx => h.bx (hj.at_ x hx) (hlt x hx).1 (hlt x hx).2⟩
/-- a slice cut at its head -/
theorem slice_lo (A : Option Addr) (n cap s : Nat) (h : s ≤ n) (hc : n ≤ cap) : ∃ A3 : Option Addr,
    (∀ W, (Instr.sliceAt 24 (.slice A n cap) (some (.int .i64 (s : Int))) none none).run Try.prog W = .ok (.slice A3 (n - s) (cap - s)) W) ∧
    (∀ W, (Instr.slice 24 (.slice A n cap) (some (.int .i64 (s : Int))) none none).run Try.prog W = .ok (.slice A3 (n - s) (cap - s)) W) ∧
    (∀ W B (l : List Pm), l.length = n → Sees W B A (pms l) → Sees W B A3 (pms (l.drop s))) := by
  have hu : Try.prog.underlying 24 = some (.slice (Try.prog.elem 24)) := by kernel_rfl
  have h2 : ∀ W, (Instr.slice 24 (.slice A n cap) (some (.int .i64 (s : Int))) none none).run Try.prog W = .ok (.slice (if cap = s then A else A.map (·.add (s * 2))) (n - s) (cap - s)) W := fun W => by
    have hs : (sizeOf (Try.prog.elem 24)).run Try.prog W = .ok 2 W := by kernel_rfl
    rw [run_slice_l W 24 A n cap hu .i64 (s : Int) (by omega) (by omega), hs]
    simp [Result.andThen, sliced]
  refine ⟨if cap = s then A else A.map (·.add (s * 2)), fun W => ?_, h2, fun W B l hl hs => ?_⟩
  · rw [run_sliceAt_slice W _ _ _ _ _ hu]; exact h2 W
  · by_cases hn : n ≤ s
    · exact .inl (by rw [List.drop_eq_nil_of_le (by omega)]; rfl)
    · rw [if_neg (by omega), pms_drop]
      rcases hs with h3 | ⟨b, o, rfl, hb, hcell⟩
      · exact .inl (by rw [h3]; simp)
      · refine .inr ⟨b, o + s * 2, by simp [Addr.add_lit], hb, fun j u hu => ?_⟩
        rw [List.getElem?_drop] at hu
        rw [Nat.add_assoc]
        exact hcell _ u hu

theorem Far.put {W : World} {n₀ D : Nat} {A : Option Addr} {xs : List Value} {o o' : Obj} (h : Far W n₀ A xs) (hD : W.heap[D]? = some o) (ho : o.isCells = false) : Far (W.putObj D o') n₀ A xs := by
  rcases h with h | ⟨b, p, hA, hb', hlt, hc⟩
  · exact .inl h
  · exact .inr ⟨b, p, hA, hb', by simpa [World.putObj] using hlt, fun i v hi => cell_kept (hc i v hi) (grownBy_putObj' W D o') (fun r e => by cases e; exact ⟨o, hD, ho⟩)⟩
theorem J.putObj {w W : World} {bs : List (Nat × Array Value)} (h : J w W bs) {D : Nat} {o o' : Obj} (hD : W.heap[D]? = some o) (ho : o.isCells = false) (hw : w.heap.size ≤ D) : J w (W.putObj D o') bs :=
  ⟨h.below.trans ⟨rfl, rfl, rfl, by simp [World.putObj], fun i hi => World.putObj_heap_other (by omega)⟩, fun x hx => bx_grown (h.at_ x hx) (grownBy_putObj' W D o') (fun r e => by cases e; exact ⟨o, hD, ho⟩)⟩

/-- what Fit answers -/
def FitPost (w : World) (x : Lg) (bud : Int) (e : Ending) (w' : World) : Prop :=
  ∃ (A' : Option Addr) (c' : Nat) (A2 : Option Addr) (c2 : Nat), e = .returned (.tuple #[.agg #[.int .i64 (cl bud), .int .i64 x.m, .int .i64 x.k, .slice A' (fit x.l (cl bud)) c'], .slice A2 (x.l.length - fit x.l (cl bud)) c2]) ∧
    fit x.l (cl bud) ≤ c' ∧ c' ≤ maxLen ∧ Sees w' w'.heap.size A' (pms (x.l.take (fit x.l (cl bud)))) ∧ Sees w' w'.heap.size A2 (nums .i64 ((x.l.drop (fit x.l (cl bud))).reverse.map Pm.c)) ∧ Below w.heap.size w w'

set_option maxRecDepth 100000 in
set_option maxHeartbeats 3200000 in
theorem fit_in (x : Lg) (bud : Int) (w : World) (hx : x.In w) (hl : x.l.length ≤ 4096) (hp : ∀ p ∈ x.l, 0 ≤ p.p ∧ p.p ≤ 1048576) : CallsIn Fence.wide 3 Try.prog 8 #[x.val, .int .i64 bud] w (FitPost w x bud) := by
  obtain ⟨hcap, hmax, hs⟩ := hx
  obtain ⟨b, m, k, A, cap, l⟩ := x
  unfold FitPost
  simp only at hs hl hp hcap hmax ⊢
  obtain ⟨n, hn⟩ : ∃ n, l.length = n := ⟨_, rfl⟩
  have hcl := cl_in bud
  have m1 : ∀ W, (Builtin.min_ #[3, 3] 3 #[.int .i64 bud, .int .i64 1048576]).run Try.prog W = .ok (.int .i64 (min bud 1048576)) W := fun W => by
    rw [run_min_int2]; congr 2; split <;> omega
  have m2 : ∀ W, (Builtin.max_ #[3, 3] 3 #[.int .i64 0, .int .i64 (min bud 1048576)]).run Try.prog W = .ok (.int .i64 (cl bud)) W := fun W => by
    rw [run_max_int2]; unfold cl; congr 2; split <;> omega
  generalize min bud 1048576 = bm at *
  generalize cl bud = q at *
  have hsle := fit_le l q
  have HF : Hid (∀ W, Below w.heap.size w W → Calls Try.prog 15 #[.slice A n cap, .int .i64 q] W (Says W (.int .i64 (fit l q)))) := Lib.hid fun W hW => fitting_any l A n cap q hcl W hn (by omega) hmax ((hs.below hW (Nat.le_refl _)).more hW.size) hp
  have HC : Hid (∀ s W, s ≤ n → Below w.heap.size w W → Calls Try.prog 10 #[.slice A s cap] W fun e w' => ∃ A' c', e = .returned (.slice A' s c') ∧ s ≤ c' ∧ w'.ownsRow W.heap.size 37 2 (.slice A' s c') s (pms (l.take s)) ∧ Below W.heap.size W w') := Lib.hid fun s W h hW =>
    clone_any (l.take s) A s cap W (by simp; omega) (by omega) ((by rw [pms_take]; exact sees_take (hs.below hW (Nat.le_refl _)) _ : Sees W w.heap.size A (pms (l.take s))).more hW.size)
  have HB : Hid (∀ A n c W, Calls Try.prog 16 #[.slice A n c] W fun e w' => e = .returned (.func (.func 20) #[] #[.pointer (some ⟨W.heap.size, 0, none⟩)]) ∧ w' = W.alloc (.cells #[.slice A n c] 24)) := Lib.hid fun A n c W => back_any A n c W
  have HS := Lib.hid hs
  obtain ⟨A3, hsl1, hsl2, hsl3⟩ := slice_lo A n cap (fit l q) (by omega) (by omega)
  have HS3 := Lib.hid (hsl3 w w.heap.size l hn hs)
  clear hsl3
  have HP := Lib.hid hp
  have HN := Lib.hid hn
  have hj := Lib.hid (J.two w #[.int .i64 q, .int .i64 m, .int .i64 k, .slice A n cap] #[.int .i64 0, .int .i64 0, .int .i64 0, .slice none 0 0] 26 26)
  unfold Lg.val
  simp only
  rw [hn]
  rw [hn] at hsle hl
  clear hs hp hn hcl
  generalize fit l q = s at *
  have HSL := Lib.hid hsle
  clear hsle
  obtain ⟨i0', hi, hz0, hz1, hz2⟩ := info_parts infoInt
  refine callsIn_of_wp_marks Try.func8 rfl trivial ?_ rfl
  simp only [Try.ntmps8, List.size_toArray, List.length_cons, List.length_nil, Nat.reduceAdd, Nat.reduceSub, Array.replicate_succ, Array.replicate_zero, List.push_toArray, List.append_toArray, List.nil_append, List.cons_append]
  gi_wp2_with (first
    | (refine ⟨trivial, ?_⟩; gi_at_call 15; refine (callsIn_wide.2 (HF.out _ below_two)).mono ?_; clear HF; rintro e w1 ⟨rfl, h1⟩; have hj1 := Lib.hid (hj.out.next h1); clear h1; obtain ⟨a0, a1, a2, a3⟩ := (hj1.out.bx 1 rfl).c4; have hj2 := Lib.hid (hj1.out.push #[.slice none 0 0] 32); obtain ⟨b0, b1, b2, b3⟩ := (hj2.out.bx 2 rfl).c4)
    | (refine ⟨trivial, ?_⟩; gi_at_call 16; refine (callsIn_wide.2 (HB.out _ _ _ _)).mono ?_; rintro e w2 ⟨rfl, rfl⟩))
  have bT := Boxed.new w1 32 (.slice none 0 0)
  have hX := Bx.new (w1.alloc (.cells #[.slice none 0 0] 32)) #[.slice A3 (n - s) (cap - s)] 24
  have hj3 := Lib.hid (((hj2.out.alloc (.cells #[.slice A3 (n - s) (cap - s)] 24))).less (bs' := [(w.heap.size + 1, #[.int .i64 0, .int .i64 0, .int .i64 0, .slice none 0 0]), (w.heap.size, #[.int .i64 q, .int .i64 m, .int .i64 k, .slice A n cap])]) (by simp))
  have bT := bT.alloc (.cells #[.slice A3 (n - s) (cap - s)] 24)
  rw [World.size_alloc] at hX
  have hTw : w.heap.size + 2 ≤ w1.heap.size := by have := (hj1.out.bx 0 rfl).lt; omega
  clear a0 a1 a2 a3 b0 b1 b2 b3 hj hj1 hj2 hsl1 hsl2
  have hsz2 : ((w1.alloc (.cells #[.slice none 0 0] 32)).alloc (.cells #[.slice A3 (n - s) (cap - s)] 24)).heap.size = w1.heap.size + 2 := by simp
  generalize (w1.alloc (.cells #[.slice none 0 0] 32)).alloc (.cells #[.slice A3 (n - s) (cap - s)] 24) = W2 at *
  generalize w1.heap.size = T at *
  have hS3 : Sees W2 w.heap.size A3 (pms (l.drop s)) := HS3.out.below hj3.out.below (Nat.le_refl _)
  have hlen3 : (l.drop s).length = n - s := by rw [List.length_drop, HN.out]
  refine wpIn_rangeFunc_ownH rfl (by omega) (gf := 20) (lb := #[.pointer (some ⟨T + 1, 0, none⟩)]) rfl trivial (enters_of Try.func20 (by kernel_rfl) rfl)
    (back_stops Fence.wide _ trivial rfl (by omega) (T + 1) T w.heap.size (l.drop s) A3 (n - s) (cap - s) W2 hlen3 (by unfold maxLen; omega) (by omega) (by omega) (by omega) hX hS3)
    (fun h k => h.trans k) (fun W l o o' h _ _ _ => KB.put W h) (Below.refl _ _) (fun _ => rfl)
    (fun pre W => KB T W2.heap.size W2 W ∧ ∃ v, Boxed W T 32 v ∧ W.ownsRow W2.heap.size 3 1 v pre.length (nums .i64 (pre.map fun x => x.2.c)) ∧ True)
    (fun _ _ _ => False)
    (OwnFrom.and (kb_own (Nat.le_refl _) (Nat.le_refl _)) (Own.from (holdsRow_own W2.heap.size T 32 3 1 (fun pre : List (Int × Pm) => pre.length) (fun pre => nums .i64 (pre.map fun x => x.2.c)) (fun _ _ => True)) _))
    (fun _ _ _ _ _ hs _ _ => hs)
    ⟨KB.refl _ _ _, _, bT, World.ownsRow_nil _ _ _ _, trivial⟩
    (fun x a' W => ∃ Y, T + 2 ≤ Y ∧ Bx W Y #[.int .i64 x.2.c, .int .i64 x.2.p] ∧ a' = { tmps := #[Value.agg #[Value.int IntKind.i64 b, Value.int IntKind.i64 m, Value.int IntKind.i64 k, Value.slice A n cap], Value.int IntKind.i64 bud, Value.pointer (some { block := w.heap.size, off := 0 }), undef, Value.pointer (some { block := w.heap.size + 1, off := 0 }), Value.slice none 0 0, Value.int IntKind.i64 ↑s, Value.pointer (some { block := T, off := 0 }), undef, .pointer (some ⟨Y, 0, none⟩), Value.int IntKind.i64 bud, Value.int IntKind.i64 bm, Value.int IntKind.i64 q, Value.pointer (some { block := w.heap.size, off := 0 }), Value.pointer (some { block := w.heap.size, off := 3 }), Value.slice A n cap, Value.pointer (some { block := w.heap.size, off := 0 }), Value.int IntKind.i64 q, Value.int IntKind.i64 ↑s, Value.pointer (some { block := w.heap.size, off := 3 }), Value.slice A n cap, Value.int IntKind.i64 ↑s, Value.slice A3 (n - s) (cap - s), Value.func (Fn.func 20) #[] #[Value.pointer (some { block := T + 1, off := 0 })], .int .i64 x.1, .agg #[.int .i64 x.2.c, .int .i64 x.2.p], undef, undef, undef, undef, undef, undef, undef, undef, undef, undef, undef, undef, undef], defers := [] })
    (fun x a' s X Y row hs hg hr => by obtain ⟨Z, h1, h2, h3⟩ := hs; exact ⟨Z, h1, bx_grown h2 hg fun r e => (hr r e).2, h3⟩)
    ?assign ?body ?done ?stop
  case assign =>
    rintro lo pre x W K ⟨hK, v, hv, hrow, _⟩ hK2
    have hWs : T + 2 ≤ W.heap.size := by have := hK.size; omega
    gi_wp2
    exact hK2 _ _ ((KeepsOthers.alloc _ _).from _) (KB.of_below ((Below.refl _ _).alloc (by omega) _)) ⟨hK.trans (KB.of_below ((Below.refl _ _).alloc (by omega) _)), v, hv.alloc _, hrow.alloc _, trivial⟩ ⟨W.heap.size, hWs, Bx.new _ _ _, rfl⟩
  case body =>
    rintro lo pre x a' W hlo hr ⟨hK, v, hv, hrow, _⟩ ⟨Y, hY, hbx, rfl⟩ hlen
    obtain ⟨c0, c1⟩ := hbx.c2
    have hc := hv.cell
    have hWs : T + 2 ≤ W.heap.size := by have := hK.size; omega
    have hne : some T ≠ v.ownBlock := fun e => by have := (hrow.lt T e.symm).1; omega
    gi_wp2_with (gi_at_builtin; refine wpListIn_append_own _ rfl _ _ 32 rfl W2.heap.size 3 i0' (.int .i64 0) 1 8 Try.underlying32 hi hz0 hz1 hz2 rfl (by decide) _ _ _ rfl (hrow.alloc _) ⟨W.heap.size, 0, none⟩ 1 1 [.int .i64 x.2.c] rfl rfl (cell_one_new _ _ _) (by simp [Value.oneCell']) (by unfold maxLen; omega) (by omega) (by simp; omega) ?_; intro v' w2 hown' hgrow _; obtain ⟨g', cap', rfl⟩ := ownsRow_succ hown'; obtain ⟨hv1, hv2, hr2, hk2, hb2⟩ := hv.appended (by decide) (own_lower hrow (by omega : T ≤ W2.heap.size)) (by omega) (Nat.le_refl _) (own_lower hown' (by omega : T ≤ W2.heap.size)) hgrow; have hc1 := hv1.cell; have hf1 := hv1.frozen)
    have hne' : (Value.slice (some ⟨g', 0, none⟩) (pre.length + 1) cap').ownBlock ≠ some T := fun e => by have := (hown'.lt T e).1; omega
    have hkb : KB T W2.heap.size W (w2.setCell ⟨T, 0, none⟩ (.slice (some ⟨g', 0, none⟩) (pre.length + 1) cap')) := ((KB.of_below ((Below.refl _ _).alloc (by omega) _)).grown hgrow (fun r e => by have := (hrow.lt r e).1; omega) (by simp; omega)).set _
    exact ⟨hk2.from _, hkb, hK.trans hkb, _, hv2, by simpa [nums] using ownsRow_setCell_other hown' hne' _, trivial⟩
  case done =>
    rintro D ys W hD rfl ⟨hK, v, hv, hrow, _⟩ hdef
    have hWs : T + 2 ≤ W.heap.size := by have := hK.size; omega
    have hj4 := Lib.hid (hK.j hj3.out (fun x hx => by simp at hx; rcases hx with rfl | rfl <;> exact ⟨by simp; omega, by simp; omega⟩) (by omega) (by omega))
    obtain ⟨a0, a1, a2, a3⟩ := (hj4.out.bx 1 rfl).c4
    have HCs := Lib.hid (HC.out s W HSL.out hj4.out.below)
    have hup : nums .i64 ((upB (l.drop s) (n - s)).map fun x => x.2.c) = nums .i64 ((l.drop s).reverse.map Pm.c) := by rw [← hlen3, upB_all]
    rw [upB_len, hup] at hrow
    clear hup
    obtain ⟨A2, c2, rfl, hc2, hsee2, hlt2⟩ := own_form hrow
    have i1 : (s : Int) ≤ (cap : Int) := by have := HSL.out; have := HN.out; omega
    have HO := Lib.hid (And.intro hrow hv)
    have HK := Lib.hid (And.intro hK hdef)
    clear hrow hv hsee2 hK hdef
    gi_wp2_with (refine ⟨trivial, ?_⟩; gi_at_call 10; refine (callsIn_wide.2 HCs.out).mono ?_; rintro e w5 ⟨A', c', rfl, hc', hown5, h5⟩; have hj5 := Lib.hid (hj4.out.next h5); have HO5 := Lib.hid (And.intro hown5 h5); clear hown5 h5; obtain ⟨a0, a1, a2, a3⟩ := (hj5.out.bx 1 rfl).c4; obtain ⟨f0, f1, f2, f3⟩ := (hj5.out.bx 1 rfl).f4; obtain ⟨z0, z1, z2, z3⟩ := (hj5.out.bx 0 rfl).c4; obtain ⟨y0, y1, y2, y3⟩ := (hj5.out.bx 0 rfl).f4; have t0 := Boxed.cell ((HO5.out.2.block T (by omega)).trans HO.out.2))
    have hj6 : Hid (J w (w5.setCell ⟨w.heap.size, 3, none⟩ (.slice A' s c')) [(w.heap.size + 1, #[.int .i64 0, .int .i64 0, .int .i64 0, .slice none 0 0]), (w.heap.size, #[.int .i64 q, .int .i64 m, .int .i64 k, .slice A' s c'])]) := Lib.hid (by have := J.set hj5.out 3 (.slice A' s c') (X := w.heap.size) (Nat.le_refl _); simpa using this)
    have hT6 : Hid (Boxed (w5.setCell ⟨w.heap.size, 3, none⟩ (.slice A' s c')) T 32 (.slice A2 (n - s) c2)) := Lib.hid ((Below.heap_setCell w5 ⟨w.heap.size, 3, none⟩ (.slice A' s c') T (by simp; omega)).trans ((HO5.out.2.block T (by omega)).trans HO.out.2))
    have hR6 : Hid (Far (w5.setCell ⟨w.heap.size, 3, none⟩ (.slice A' s c')) (w.heap.size + 2) A' (pms (l.take s)) ∧ Far (w5.setCell ⟨w.heap.size, 3, none⟩ (.slice A' s c')) (w.heap.size + 2) A2 (nums .i64 ((l.drop s).reverse.map Pm.c))) := Lib.hid ⟨(Far.own HO5.out.1 (by omega)).set 3 _ (by omega), ((Far.own HO.out.1 (by omega)).next HO5.out.2).set 3 _ (by omega)⟩
    have hC6 : Hid (c' ≤ maxLen) := Lib.hid (by
      rcases HO5.out.1.2 with ⟨hv, _⟩ | ⟨g, cap2, cur, hv, _, _, _, hmx, _⟩
      · injection hv; omega
      · injection hv; omega)
    have hD6 : Hid ((w5.setCell ⟨w.heap.size, 3, none⟩ (.slice A' s c')).heap[D]? = some (.deferred (some []))) := Lib.hid ((Below.heap_setCell w5 ⟨w.heap.size, 3, none⟩ (.slice A' s c') D (by simp; omega)).trans ((HO5.out.2.block D (Array.getElem?_eq_some_iff.1 HK.out.2).1).trans HK.out.2))
    generalize w5.setCell ⟨w.heap.size, 3, none⟩ (.slice A' s c') = W6 at *
    clear hj4 hj5 hj3 HCs HC HB HS HS3 a0 a1 a2 a3 f0 f1 f2 f3 z0 z1 z2 z3 y0 y1 y2 y3 t0 HO HO5 HK
    obtain ⟨a0, a1, a2, a3⟩ := (hj6.out.bx 1 rfl).c4
    obtain ⟨z0, z1, z2, z3⟩ := (hj6.out.bx 0 rfl).c4
    obtain ⟨y0, y1, y2, y3⟩ := (hj6.out.bx 0 rfl).f4
    have t0 := hT6.out.cell
    have n1 : w.heap.size ≠ w.heap.size + 1 := by omega
    have n2 : w.heap.size + 1 ≠ w.heap.size := by omega
    have n3 : T ≠ w.heap.size + 1 := by omega
    have n4 : w.heap.size + 1 ≠ T := by omega
    gi_region
    gi_wp2
    have hne : ∀ x ∈ [(w.heap.size, (#[.int .i64 q, .int .i64 m, .int .i64 k, .slice A' s c'] : Array Value))], x.1 ≠ w.heap.size + 1 := fun x hx => by simp at hx; subst hx; exact n1
    have hj7 := Lib.hid (((((hj6.out.put (by omega) hne 0 (.int .i64 q)).put (by omega) hne 1 (.int .i64 m)).put (by omega) hne 2 (.int .i64 k)).put (by omega) hne 3 (.slice A' s c')).drew)
    have hR7 := Lib.hid (And.intro (((((hR6.out.1.set (X := w.heap.size + 1) 0 (.int .i64 q) (by omega)).set (X := w.heap.size + 1) 1 (.int .i64 m) (by omega)).set (X := w.heap.size + 1) 2 (.int .i64 k) (by omega)).set (X := w.heap.size + 1) 3 (.slice A' s c') (by omega)).drew) (((((hR6.out.2.set (X := w.heap.size + 1) 0 (.int .i64 q) (by omega)).set (X := w.heap.size + 1) 1 (.int .i64 m) (by omega)).set (X := w.heap.size + 1) 2 (.int .i64 k) (by omega)).set (X := w.heap.size + 1) 3 (.slice A' s c') (by omega)).drew))
    have hD7 := ((((((KeepsOthers.setCell W6 ⟨w.heap.size + 1, 0, none⟩ (.int .i64 q)).trans (KeepsOthers.setCell _ ⟨w.heap.size + 1, 1, none⟩ (.int .i64 m))).trans (KeepsOthers.setCell _ ⟨w.heap.size + 1, 2, none⟩ (.int .i64 k))).trans (KeepsOthers.setCell _ ⟨w.heap.size + 1, 3, none⟩ (.slice A' s c'))).trans (KeepsOthers.drew _)).same D _ hD6.out rfl)
    generalize ((((W6.setCell ⟨w.heap.size + 1, 0, none⟩ (.int .i64 q)).setCell ⟨w.heap.size + 1, 1, none⟩ (.int .i64 m)).setCell ⟨w.heap.size + 1, 2, none⟩ (.int .i64 k)).setCell ⟨w.heap.size + 1, 3, none⟩ (.slice A' s c')).drew = W7 at *
    have hj8 := J.putObj hj7.out (o' := .deferred none) hD7 rfl (by omega)
    obtain ⟨k0, k1, k2, k3⟩ := (hj8.bx 0 rfl).c4
    refine ⟨by simp, .inl ⟨_, _, rfl, run_takeDeferred hD7, ?_⟩⟩
    refine ⟨_, ?_, A', c', A2, c2, rfl, hc', hC6.out, (hR7.out.1.put hD7 rfl).sees, (hR7.out.2.put hD7 rfl).sees, hj8.below⟩
    simp [results, Try.f8, go_sem, k0, k1, k2, k3]
  case stop =>
    rintro D c pre W _ _ h _
    exact h.elim

theorem fit_any (x : Lg) (bud : Int) (w : World) (hx : x.In w) (hl : x.l.length ≤ 4096) (hp : ∀ p ∈ x.l, 0 ≤ p.p ∧ p.p ≤ 1048576) : Calls Try.prog 8 #[x.val, .int .i64 bud] w (FitPost w x bud) :=
  (callsIn_wide (n := 3)).1 (fit_in x bud w hx hl hp)

end Go.Proofs.Ytibolhdopeclmaa.Lgr
