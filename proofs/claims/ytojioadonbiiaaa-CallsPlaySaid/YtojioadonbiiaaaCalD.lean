/- Contract of nearest: of a row's floors the nearest one. -/
import Derived.Test.YtojioadonbiiaaaCalC
namespace Go.Proofs.Ytojioadonbiiaaa.Cal
open Go.RowKit Go.Shelf Go.Proofs.Ytojioadonbiiaaa.CalP Go.Proofs.Ytojioadonbiiaaa.Box Go.Proofs.Ytojioadonbiiaaa.Held
set_option linter.unusedVariables false
set_option maxRecDepth 100000
attribute [local go_sem] Oper.semAt_some

/-- what is best behind so many floors -/
def bs (p : Int) (l : List (Fin 32)) : Int × Int := (l.map tI).foldl (nst p) (-1, 0)
theorem bs_snoc (p : Int) (l : List (Fin 32)) (x : Fin 32) : bs p (l ++ [x]) = nst p (bs p l) (tI x) := by unfold bs; simp
theorem bs_all (b : Nat) (p : Int) : (bs p (fkF b 32)).1 = nr b p := by unfold bs nr; rw [fl_fkF]
/-- the boxes of nearest -/
structure NB (w W : World) (p : Int) (a : Int × Int) : Prop where
  pos : Bx W w.heap.size #[.int .i64 p]
  best : Bx W (w.heap.size + 1) #[.int .i64 a.1]
  least : Bx W (w.heap.size + 2) #[.int .i64 a.2]
theorem NB.grown {w A B : World} {p : Int} {a : Int × Int} {row : Option Nat} (h : NB w A p a) (hg : A.grownBy B row) (hr : ∀ r, row = some r → ∃ o : Obj, A.heap[r]? = some o ∧ o.isCells = false) : NB w B p a :=
  ⟨bx_grown h.pos hg hr, bx_grown h.best hg hr, bx_grown h.least hg hr⟩
theorem NB.turn {w W : World} {p : Int} {a : Int × Int} (h : NB w W p a) (x y : Int) : NB w ((W.setCell ⟨w.heap.size + 1, 0, none⟩ (.int .i64 x)).setCell ⟨w.heap.size + 2, 0, none⟩ (.int .i64 y)) p (x, y) :=
  ⟨(h.pos.off _ (by show w.heap.size ≠ w.heap.size + 1; omega)).off _ (by show w.heap.size ≠ w.heap.size + 2; omega), (h.best.set (j := 0) (.int .i64 x)).off _ (by show w.heap.size + 1 ≠ w.heap.size + 2; omega), (h.least.off _ (by show w.heap.size + 2 ≠ w.heap.size + 1; omega)).set (j := 0) (.int .i64 y)⟩

set_option maxHeartbeats 3200000 in
theorem nearest_in (b : Nat) (p : Int) (hbl : b < 4294967296) (hp : 0 ≤ p ∧ p ≤ 248) (w : World) : CallsIn Fence.wide 3 Try.prog 25 #[.int .u32 b, .int .i64 p] w (Says w (.int .i64 (nr b p))) := by
  have HC := Lib.hid (fun W => floors_any b W)
  refine callsIn_of_wp_marks Try.func25 rfl trivial ?_ rfl
  simp only [Try.ntmps25, List.size_toArray, List.length_cons, List.length_nil, Nat.reduceAdd, Nat.reduceSub, Array.replicate_succ, Array.replicate_zero, List.push_toArray, List.append_toArray, List.nil_append, List.cons_append]
  gi_wp2_with (refine ⟨trivial, ?_⟩; gi_at_call 28; refine (callsIn_wide.2 (HC.out _)).mono ?_; rintro e w2 ⟨rfl, rfl⟩)
  have h0 := Bx.new w #[.int .i64 p] 3
  have h1 := Bx.new (w.alloc (.cells #[.int .i64 p] 3)) #[.int .i64 (-1)] 3
  have h2 := Bx.new ((w.alloc (.cells #[.int .i64 p] 3)).alloc (.cells #[.int .i64 (-1)] 3)) #[.int .i64 0] 3
  have hX := Bx.new (((w.alloc (.cells #[.int .i64 p] 3)).alloc (.cells #[.int .i64 (-1)] 3)).alloc (.cells #[.int .i64 0] 3)) #[.int .u32 b] 23
  simp only [World.size_alloc] at h1 h2 hX
  have hN : NB w ((((w.alloc (.cells #[.int .i64 p] 3)).alloc (.cells #[.int .i64 (-1)] 3)).alloc (.cells #[.int .i64 0] 3)).alloc (.cells #[.int .u32 b] 23)) p (-1, 0) :=
    ⟨((h0.alloc _).alloc _).alloc _, (h1.alloc _).alloc _, h2.alloc _⟩
  have hB : Below w.heap.size w ((((w.alloc (.cells #[.int .i64 p] 3)).alloc (.cells #[.int .i64 (-1)] 3)).alloc (.cells #[.int .i64 0] 3)).alloc (.cells #[.int .u32 b] 23)) := (below_two.alloc (by simp; omega) _).alloc (by simp; omega) _
  have hsz : ((((w.alloc (.cells #[.int .i64 p] 3)).alloc (.cells #[.int .i64 (-1)] 3)).alloc (.cells #[.int .i64 0] 3)).alloc (.cells #[.int .u32 b] 23)).heap.size = w.heap.size + 4 := by simp
  generalize (((w.alloc (.cells #[.int .i64 p] 3)).alloc (.cells #[.int .i64 (-1)] 3)).alloc (.cells #[.int .i64 0] 3)).alloc (.cells #[.int .u32 b] 23) = W1 at *
  clear h0 h1 h2
  refine wpIn_rangeFunc_ownF rfl (by omega) (gf := 30) (lb := #[.pointer (some ⟨w.heap.size + 1 + 1 + 1, 0, none⟩)]) rfl trivial (enters_of Try.func30 (by kernel_rfl) rfl)
    (floors_stops _ (by omega) (w.heap.size + 1 + 1 + 1) b hbl W1 hX)
    (fun h k => h.trans k) (fun W l o o' h _ _ _ => KX.put W (by omega)) (Below.refl _ _) (fun _ => rfl)
    (fun pre W => NB w W p (bs p pre) ∧ Below w.heap.size w W)
    (fun _ _ _ => False)
    (OwnFrom.and (fun s A B row hs hg hr => hs.grown hg fun r e => (hr r e).2) (ownFrom_below (Nat.le_refl _) (by omega)))
    (fun _ _ _ _ _ hs _ _ => hs)
    ⟨hN, hB⟩
    (fun x => { tmps := #[Value.int .u32 b, .int .i64 p, undef, Value.pointer (some { block := w.heap.size, off := 0 }), .int .i64 0, Value.pointer (some { block := w.heap.size + 1, off := 0 }), Value.pointer (some { block := w.heap.size + 1 + 1, off := 0 }), .int .i64 (tI x), undef, Value.int .u32 b, Value.func (Fn.func 30) #[] #[Value.pointer (some { block := w.heap.size + 1 + 1 + 1, off := 0 })], .int .i64 (tI x), undef, undef, undef, undef, undef, undef, undef, undef, undef, undef, undef, undef, undef], defers := [] })
    ?assign ?body ?done ?stop
  case assign =>
    intro l x W K hK
    gi_wp2
    exact hK
  case body =>
    rintro lo pre x W ⟨hn, hb⟩ hlen
    have hz : 0 ≤ tI x ∧ tI x < 32 := ⟨by unfold tI; omega, by unfold tI; omega⟩
    have HW := Lib.hid (fun W => way_any (tI x) p hz hp W)
    have HS := Lib.hid (bs_snoc p pre x)
    have hd : 1 ≤ 3 - 1 - 1 := by omega
    have hst : nst p (bs p pre) (tI x) = if (bs p pre).1 = -1 ∨ wy (tI x) p < (bs p pre).2 then (tI x, wy (tI x) p) else bs p pre := rfl
    rw [hst] at HS
    clear hst
    generalize wy (tI x) p = d at HS HW
    generalize bs p pre = a at HS hn
    have HT := Lib.hid (rfl : tI x = tI x)
    generalize hzx : tI x = z at HS HW hz ⊢
    obtain ⟨c, e⟩ := a
    have HN := Lib.hid hn
    have HB := Lib.hid hb
    have c0 := hn.pos.c1
    have c1 := hn.best.c1
    have c2 := hn.least.c1
    have f1 := hn.best.f1
    have f2 := hn.least.f1
    clear hn hb
    by_cases k1 : c = -1
    · subst k1
      have HS' : Hid (bs p (pre ++ [x]) = (z, d)) := Lib.hid (by rw [HS.out, if_pos (.inl rfl)])
      clear HS
      gi_wp2_with (refine ⟨trivial, ?_⟩; gi_at_call 29; refine (CallsIn.inRound lo (callsIn_wide.2 (HW.out _))).mono ?_; rintro e w' ⟨rfl, rfl⟩)
      exact ⟨(KeepsOthers.setCell _ _ _).trans (KeepsOthers.setCell _ _ _), ((KX.refl _ _).set (by omega)).set (by omega), by rw [HS'.out]; exact HN.out.turn z d, (HB.out.setCell (p := ⟨w.heap.size + 1, 0, none⟩) (by simp) _).setCell (p := ⟨w.heap.size + 1 + 1, 0, none⟩) (by simp; omega) _⟩
    · have k1' : (c == -1) = false := by simpa using k1
      by_cases k2 : d < e
      · have HS' : Hid (bs p (pre ++ [x]) = (z, d)) := Lib.hid (by rw [HS.out, if_pos (.inr k2)])
        clear HS
        gi_wp2_with (refine ⟨trivial, ?_⟩; gi_at_call 29; refine (CallsIn.inRound lo (callsIn_wide.2 (HW.out _))).mono ?_; rintro e w' ⟨rfl, rfl⟩)
        exact ⟨(KeepsOthers.setCell _ _ _).trans (KeepsOthers.setCell _ _ _), ((KX.refl _ _).set (by omega)).set (by omega), by rw [HS'.out]; exact HN.out.turn z d, (HB.out.setCell (p := ⟨w.heap.size + 1, 0, none⟩) (by simp) _).setCell (p := ⟨w.heap.size + 1 + 1, 0, none⟩) (by simp; omega) _⟩
      · have HS' : Hid (bs p (pre ++ [x]) = (c, e)) := Lib.hid (by rw [HS.out, if_neg (by simp only; omega)])
        clear HS
        gi_wp2_with (refine ⟨trivial, ?_⟩; gi_at_call 29; refine (CallsIn.inRound lo (callsIn_wide.2 (HW.out _))).mono ?_; rintro e w' ⟨rfl, rfl⟩)
        exact ⟨KeepsOthers.refl _, KX.refl _ _, by rw [HS'.out]; exact HN.out, HB.out⟩
  case done =>
    rintro D ys W hD rfl ⟨hn, hb⟩ hdef
    have HE := Lib.hid (bs_all b p)
    have c1 := hn.best.c1
    generalize (bs p (fkF b 32)).1 = z at *
    gi_wp2
    refine ⟨by simp, .inl ⟨_, _, rfl, run_takeDeferred hdef, ?_⟩⟩
    refine ⟨.int .i64 z, ?_, by rw [HE.out], hb.trans (belowK_b (w := w) (Nat.le_refl _) W D _ _ (by omega) hdef rfl rfl)⟩
    simp [results, Try.f25, go_sem]
  case stop =>
    rintro D j pre W _ _ h _
    exact h.elim

theorem nearest_any (b : Nat) (p : Int) (hbl : b < 4294967296) (hp : 0 ≤ p ∧ p ≤ 248) (w : World) : Calls Try.prog 25 #[.int .u32 b, .int .i64 p] w (Says w (.int .i64 (nr b p))) :=
  (callsIn_wide (n := 3)).1 (nearest_in b p hbl hp w)
end Go.Proofs.Ytojioadonbiiaaa.Cal
