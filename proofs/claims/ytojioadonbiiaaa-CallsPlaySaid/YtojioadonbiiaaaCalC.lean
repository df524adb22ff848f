/- Contracts of lowest, nearest: the lowest floor of a row, the nearest one. -/
import Derived.Test.YtojioadonbiiaaaCalB
namespace Go.Proofs.Ytojioadonbiiaaa.Cal
open Go.RowKit Go.Shelf Go.Proofs.Ytojioadonbiiaaa.CalP Go.Proofs.Ytojioadonbiiaaa.Box Go.Proofs.Ytojioadonbiiaaa.Held
set_option linter.unusedVariables false
set_option maxRecDepth 100000
attribute [local go_sem] Oper.semAt_some

theorem low_nil {b : Nat} (h : fl b = []) : low b = -1 := by unfold low; rw [h]; rfl
theorem low_pre {b : Nat} {x : Fin 32} (h : [x] <+: fkF b 32) : low b = tI x := by
  obtain ⟨t, ht⟩ := h
  unfold low
  rw [← fl_fkF, ← ht]
  rfl

set_option maxHeartbeats 3200000 in
theorem lowest_in (b : Nat) (hbl : b < 4294967296) (w : World) : CallsIn Fence.wide 3 Try.prog 26 #[.int .u32 b] w (Says w (.int .i64 (low b))) := by
  have HC := Lib.hid (fun W => floors_any b W)
  refine callsIn_of_wp_marks Try.func26 rfl trivial ?_ rfl
  simp only [Try.ntmps26, List.size_toArray, List.length_cons, List.length_nil, Nat.reduceAdd, Nat.reduceSub, Array.replicate_succ, Array.replicate_zero, List.push_toArray, List.append_toArray, List.nil_append, List.cons_append]
  gi_wp2_with (refine ⟨trivial, ?_⟩; gi_at_call 28; refine (callsIn_wide.2 (HC.out _)).mono ?_; rintro e w2 ⟨rfl, rfl⟩)
  have hT := Bx.new w #[.int .i64 0] 3
  have hX := Bx.new (w.alloc (.cells #[.int .i64 0] 3)) #[.int .u32 b] 23
  have hT := hT.alloc (.cells #[.int .u32 b] 23)
  have hB : Below w.heap.size w ((w.alloc (.cells #[.int .i64 0] 3)).alloc (.cells #[.int .u32 b] 23)) := below_two
  have hsz : ((w.alloc (.cells #[.int .i64 0] 3)).alloc (.cells #[.int .u32 b] 23)).heap.size = w.heap.size + 2 := by simp
  simp only [World.size_alloc] at hX
  generalize (w.alloc (.cells #[.int .i64 0] 3)).alloc (.cells #[.int .u32 b] 23) = W1 at *
  refine wpIn_rangeFunc_ownF rfl (by omega) (gf := 30) (lb := #[.pointer (some ⟨w.heap.size + 1, 0, none⟩)]) rfl trivial (enters_of Try.func30 (by kernel_rfl) rfl)
    (floors_stops _ (by omega) (w.heap.size + 1) b hbl W1 hX)
    (fun h k => h.trans k) (fun W l o o' h _ _ _ => KX.put W (by omega)) (Below.refl _ _) (fun _ => rfl)
    (fun pre W => (pre = [] ∧ Bx W w.heap.size #[.int .i64 0]) ∧ Below w.heap.size w W)
    (fun j pre W => (j = .ret ∧ ∃ x, pre = [x] ∧ Bx W w.heap.size #[.int .i64 (tI x)]) ∧ Below w.heap.size w W)
    (OwnFrom.and (fun s A B row hs hg hr => ⟨hs.1, bx_grown hs.2 hg fun r e => (hr r e).2⟩) (ownFrom_below (Nat.le_refl _) (by omega)))
    (fun j => OwnFrom.and (fun s A B row hs hg hr => by obtain ⟨h1, x, h2, h3⟩ := hs; exact ⟨h1, x, h2, bx_grown h3 hg fun r e => (hr r e).2⟩) (ownFrom_below (Nat.le_refl _) (by omega)))
    ⟨⟨rfl, hT⟩, hB⟩
    (fun x => { tmps := #[Value.int .u32 b, undef, Value.pointer (some { block := w.heap.size, off := 0 }), .int .i64 (tI x), Value.int .u32 b, Value.func (Fn.func 30) #[] #[Value.pointer (some { block := w.heap.size + 1, off := 0 })], .int .i64 (tI x), undef], defers := [] })
    ?assign ?body ?done ?stop
  case assign =>
    intro l x W K hK
    gi_wp2
    exact hK
  case body =>
    rintro lo pre x W ⟨⟨rfl, hbx⟩, hb⟩ hlen
    have f0 := hbx.f1
    have c0 := hbx.c1
    generalize hz : tI x = z at *
    gi_wp2
    have hbs := hbx.set (j := 0) (.int .i64 z)
    exact ⟨KeepsOthers.setCell _ _ _, ⟨rfl, x, rfl, by rw [hz]; simpa using hbs⟩, hb.setCell (p := ⟨w.heap.size, 0, none⟩) (by simp) _⟩
  case done =>
    rintro D ys W hD rfl ⟨⟨he, hbx⟩, hb⟩ hdef
    have f0 := hbx.f1
    have c0 := hbx.c1
    have HE := Lib.hid he
    clear he
    gi_wp2
    have hbs : Bx (W.setCell ⟨w.heap.size, 0, none⟩ (.int .i64 (-1))) w.heap.size #[.int .i64 (-1)] := by simpa using hbx.set (j := 0) (.int .i64 (-1))
    have hb2 : Below w.heap.size w (W.setCell ⟨w.heap.size, 0, none⟩ (.int .i64 (-1))) := hb.setCell (p := ⟨w.heap.size, 0, none⟩) (by simp) _
    have hD2 := (KeepsOthers.setCell W ⟨w.heap.size, 0, none⟩ (.int .i64 (-1))).same D _ hdef rfl
    generalize W.setCell ⟨w.heap.size, 0, none⟩ (.int .i64 (-1)) = W2 at *
    have c5 := (bx_grown hbs (grownBy_putObj' W2 D (.deferred none)) (fun r e => by cases e; exact ⟨_, hD2, rfl⟩)).c1
    refine ⟨by simp, .inl ⟨_, _, rfl, run_takeDeferred hD2, ?_⟩⟩
    refine ⟨.int .i64 (-1), ?_, by rw [low_nil (by rw [← fl_fkF, HE.out]; rfl)], hb2.trans (belowK_b (w := w) (Nat.le_refl _) W2 D _ _ (by omega) hD2 rfl rfl)⟩
    simp [results, Try.f26, go_sem, c5]
  case stop =>
    rintro D j pre W hD hpre ⟨⟨rfl, x, rfl, hbx⟩, hb⟩ hdef
    have c0 := hbx.c1
    have HE := Lib.hid (low_pre hpre)
    clear hpre
    generalize tI x = z at *
    gi_wp2
    have c5 := (bx_grown hbx (grownBy_putObj' W D (.deferred none)) (fun r e => by cases e; exact ⟨_, hdef, rfl⟩)).c1
    refine ⟨by simp, .inl ⟨_, _, rfl, run_takeDeferred hdef, ?_⟩⟩
    refine ⟨.int .i64 z, ?_, by rw [HE.out], hb.trans (belowK_b (w := w) (Nat.le_refl _) W D _ _ (by omega) hdef rfl rfl)⟩
    simp [results, Try.f26, go_sem, c5]

theorem lowest_any (b : Nat) (hbl : b < 4294967296) (w : World) : Calls Try.prog 26 #[.int .u32 b] w (Says w (.int .i64 (low b))) :=
  (callsIn_wide (n := 3)).1 (lowest_in b hbl w)
end Go.Proofs.Ytojioadonbiiaaa.Cal
