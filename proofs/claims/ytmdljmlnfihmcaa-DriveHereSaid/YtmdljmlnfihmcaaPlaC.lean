/- Contract of plan.Next: a loop over the speeds that may come. -/
import Derived.Test.YtmdljmlnfihmcaaPlaB
namespace Go.Proofs.Ytmdljmlnfihmcaa.Pla
open Go.RowKit Go.Shelf Go.Proofs.Ytmdljmlnfihmcaa.PlaP
set_option linter.unusedVariables false
attribute [local go_sem] Oper.semAt_some

theorem cell_of_box {W : World} {B : Nat} {v : Value} {t : TypeId} (h : W.heap[B]? = some (.cells #[v] t (0, 0))) : W.cell? ⟨B, 0, none⟩ = some v ∧ W.frozen? ⟨B, 0, none⟩ = false := by
  constructor <;> simp [World.cell?, World.frozen?, h]
theorem cell_new (W : World) (v : Value) (t : TypeId) : (W.alloc (.cells #[v] t)).cell? ⟨W.heap.size, 0, none⟩ = some v ∧ (W.alloc (.cells #[v] t)).frozen? ⟨W.heap.size, 0, none⟩ = false :=
  cell_of_box (World.alloc_heap_new W _)
theorem cell_alloc {W : World} {a : Addr} {v : Value} (o : Obj) (h : W.cell? a = some v) : (W.alloc o).cell? a = some v := cell_kept h (World.grownBy_alloc W o none) (fun r e => by cases e)
theorem frozen_alloc {W : World} {a : Addr} {v : Value} (o : Obj) (h : W.cell? a = some v) (hf : W.frozen? a = false) : (W.alloc o).frozen? a = false := (frozen_kept h (World.grownBy_alloc W o none) (fun r e => by cases e)).trans hf

set_option maxHeartbeats 1000000 in
theorem fast_any (s m : Int) (w : World) : Calls Try.prog 29 #[.int .i64 s, .int .i64 m] w fun e W' => e = .returned (.func (.func 34) #[] #[.pointer (some ⟨w.heap.size + 1, 0, none⟩), .pointer (some ⟨w.heap.size, 0, none⟩)]) ∧
    W'.heap.size = w.heap.size + 2 ∧ Below w.heap.size w W' ∧ W'.cell? ⟨w.heap.size + 1, 0, none⟩ = some (.int .i64 (cl m 1 8)) ∧ W'.cell? ⟨w.heap.size, 0, none⟩ = some (.int .i64 (cl s 0 8)) := by
  have H1 := Lib.hid (fun W => bounded_any s 0 8 W)
  have H2 := Lib.hid (fun W => bounded_any m 1 8 W)
  generalize cl s 0 8 = v at *
  generalize cl m 1 8 = p at *
  go_enter Try.func29, Try.ntmps29
  go_wp2_with (first
    | (go_at_call 28; refine (H1.out _).mono ?_; clear H1; rintro e w' ⟨rfl, rfl⟩)
    | (go_at_call 28; refine (H2.out _).mono ?_; rintro e w' ⟨rfl, rfl⟩))
  go_ret
  have c0 := cell_new w (.int .i64 v) 3
  have c1 := cell_new (w.alloc (.cells #[.int .i64 v] 3)) (.int .i64 p) 3
  rw [World.size_alloc] at c1
  exact ⟨rfl, by simp, ((Below.refl _ w).alloc (Nat.le_refl _) _).alloc (by simp) _, c1.1, cell_alloc _ c0.1⟩

/-- whether a speed may be, as the loop asks -/
def fitsW (l x : Int) : Bool := decide (IntKind.i64.wrap (x + St x) ≤ l)
theorem fitsW_eq {l x : Int} (h0 : 0 ≤ x) (h8 : x ≤ 8) : fitsW l x = fits l x := by
  unfold fitsW fits St
  have h := st_le h0 h8
  rw [cl_id h0 h8, IntWalk.i64_in _ (by omega)]

set_option maxRecDepth 100000 in
set_option maxHeartbeats 2000000 in
theorem Next_in (s l m : Int) (w : World) : CallsIn Fence.wide 3 Try.prog 22 #[.int .i64 s, .int .i64 l, .int .i64 m] w (Says w (.int .i64 (Nx s l m))) := by
  have HB := Lib.hid (fun W => bounded_any l 0 1000 W)
  have HF := Lib.hid (fun W => fast_any s m W)
  unfold Nx
  have v0 : 0 ≤ cl s 0 8 := cl_ge
  have v8 : cl s 0 8 ≤ 8 := cl_le (by omega)
  have m1 : 1 ≤ cl m 1 8 := cl_ge
  have m8 : cl m 1 8 ≤ 8 := cl_le (by omega)
  generalize cl s 0 8 = v at *
  generalize cl m 1 8 = q at *
  generalize cl l 0 1000 = c at *
  refine callsIn_of_wp_marks Try.func22 rfl trivial ?_ rfl
  simp only [Try.ntmps22, List.size_toArray, List.length_cons, List.length_nil, Nat.reduceAdd, Nat.reduceSub, Array.replicate_succ, Array.replicate_zero, List.push_toArray, List.append_toArray, List.nil_append, List.cons_append]
  gi_wp2_with (first
    | (refine ⟨trivial, ?_⟩; gi_at_call 28; refine (callsIn_wide.2 (HB.out _)).mono ?_; rintro e w' ⟨rfl, rfl⟩)
    | (refine ⟨trivial, ?_⟩; gi_at_call 29; refine (callsIn_wide.2 (HF.out _)).mono ?_; clear HF; rintro e W1 ⟨rfl, hsz, hbl, cm, cv⟩))
  simp only [World.size_alloc] at hsz hbl cm cv
  have b0 := cell_new w (.int .i64 c) 3
  have b1 := cell_new (w.alloc (.cells #[.int .i64 c] 3)) (.int .i64 0) 3
  rw [World.size_alloc] at b1
  have c0 : W1.cell? ⟨w.heap.size, 0, none⟩ = some (.int .i64 c) := (hbl.cell (p := ⟨w.heap.size, 0, none⟩) (by simp; omega)).trans (cell_alloc _ b0.1)
  have c1 : W1.cell? ⟨w.heap.size + 1, 0, none⟩ = some (.int .i64 0) := (hbl.cell (p := ⟨w.heap.size + 1, 0, none⟩) (by simp)).trans b1.1
  have f1 : W1.frozen? ⟨w.heap.size + 1, 0, none⟩ = false := (hbl.frozen (p := ⟨w.heap.size + 1, 0, none⟩) (by simp)).trans b1.2
  have hB : Below w.heap.size w W1 := (((Below.refl _ w).alloc (Nat.le_refl _) _).alloc (by simp) _).trans (hbl.mono (by omega))
  clear b0 b1 hbl
  refine wpIn_rangeFunc_ownF rfl (by omega) (gf := 34) (lb := #[.pointer (some ⟨w.heap.size + 1 + 1 + 1, 0, none⟩), .pointer (some ⟨w.heap.size + 1 + 1, 0, none⟩)]) rfl trivial (enters_of Try.func34 (by kernel_rfl) rfl)
    (fast_stops Fence.wide _ trivial rfl (by omega) (w.heap.size + 1 + 1 + 1) (w.heap.size + 1 + 1) W1.heap.size v q v0 v8 m1 m8 (by omega) (by omega) W1 (Nat.le_refl _) cm cv) belowK_t (belowK_b (Nat.le_refl _)) (Below.refl _ _) (fun _ => rfl)
    (fun pre W => ((∀ y ∈ pre, fitsW c y = false) ∧ W.cell? ⟨w.heap.size, 0, none⟩ = some (.int .i64 c) ∧ W.cell? ⟨w.heap.size + 1, 0, none⟩ = some (.int .i64 0) ∧ W.frozen? ⟨w.heap.size + 1, 0, none⟩ = false) ∧ Below w.heap.size w W)
    (fun j pre W => (j = .ret ∧ ∃ p' x, pre = p' ++ [x] ∧ (∀ y ∈ p', fitsW c y = false) ∧ fitsW c x = true ∧ W.cell? ⟨w.heap.size + 1, 0, none⟩ = some (.int .i64 x)) ∧ Below w.heap.size w W)
    (OwnFrom.and (Own.from (fun s A B row hs hg hr => ⟨hs.1, cell_kept hs.2.1 hg hr, cell_kept hs.2.2.1 hg hr, (frozen_kept hs.2.2.1 hg hr).trans hs.2.2.2⟩) _) (ownFrom_below (Nat.le_refl _) (by omega)))
    (fun j => OwnFrom.and (Own.from (fun s A B row hs hg hr => by obtain ⟨h1, p', x, h2, h3, h4, h5⟩ := hs; exact ⟨h1, p', x, h2, h3, h4, cell_kept h5 hg hr⟩) _) (ownFrom_below (Nat.le_refl _) (by omega)))
    ⟨⟨by simp, c0, c1, f1⟩, hB⟩
    (fun x => { tmps := #[.int .i64 s, .int .i64 l, .int .i64 m, undef, .pointer (some ⟨w.heap.size, 0, none⟩), undef, .pointer (some ⟨w.heap.size + 1, 0, none⟩), .int .i64 x, .int .i64 l, .int .i64 c, .int .i64 s, .int .i64 m, .func (.func 34) #[] #[.pointer (some ⟨w.heap.size + 1 + 1 + 1, 0, none⟩), .pointer (some ⟨w.heap.size + 1 + 1, 0, none⟩)], .int .i64 x, undef, undef, undef, undef, undef, undef, undef], defers := [] }) ?assign ?body ?done ?stop
  case assign =>
    intro l x W K hK
    gi_wp2
    exact hK
  case body =>
    rintro j pre x W ⟨⟨hp, hc, hr, hf⟩, hb⟩ _
    have HS := Lib.hid (fun W => Stop_any x W)
    obtain ⟨p, hpx⟩ : ∃ p, IntKind.i64.wrap (x + St x) = p := ⟨_, rfl⟩
    by_cases hfit : p ≤ c
    · have hx : fitsW c x = true := by unfold fitsW; rw [hpx]; exact decide_eq_true hfit
      have HX := Lib.hid hx
      clear hx
      generalize St x = sx at *
      have hd : 1 ≤ 3 - 1 - 1 := by omega
      have hmx : Try.prog.follows .mixedOrders = true := by kernel_rfl
      gi_wp2
      gi_region_with_o (first
        | (refine ⟨trivial, ?_⟩; gi_at_call 30; refine (CallsIn.inRound j (callsIn_wide.2 (HS.out _))).mono ?_; rintro e w' ⟨rfl, rfl⟩)
        | (gi_at_call 30; refine (CallsIn.inRound j (callsIn_wide.2 (HS.out _))).mono ?_; rintro e w' ⟨rfl, rfl⟩))
      all_goals gi_wp2
      all_goals (try go_bits)
      all_goals exact ⟨(KeepsOthers.setCell _ _ _).trans (KeepsOthers.drew _), ⟨rfl, pre, x, rfl, hp, HX.out, World.cell?_setCell_same' _ _ _ (by rw [hr]; rfl)⟩, (hb.setCell (p := ⟨w.heap.size + 1, 0, none⟩) (by simp) _).drew⟩
    · have hx : fitsW c x = false := by unfold fitsW; rw [hpx]; exact decide_eq_false hfit
      have HX := Lib.hid hx
      clear hx
      generalize St x = sx at *
      have hd : 1 ≤ 3 - 1 - 1 := by omega
      have hmx : Try.prog.follows .mixedOrders = true := by kernel_rfl
      gi_wp2
      gi_region_with_o (first
        | (refine ⟨trivial, ?_⟩; gi_at_call 30; refine (CallsIn.inRound j (callsIn_wide.2 (HS.out _))).mono ?_; rintro e w' ⟨rfl, rfl⟩)
        | (gi_at_call 30; refine (CallsIn.inRound j (callsIn_wide.2 (HS.out _))).mono ?_; rintro e w' ⟨rfl, rfl⟩))
      all_goals gi_wp2
      all_goals (try go_bits)
      all_goals exact ⟨KeepsOthers.drew _, (Below.refl _ _).drew, ⟨fun y hy => (List.mem_append.1 hy).elim (hp y) (fun e => by simp at e; subst e; exact HX.out), hc, hr, hf⟩, hb.drew⟩
  case done =>
    rintro D ys W hD rfl ⟨⟨hn, hc, hr, hf⟩, hb⟩ hK
    gi_wp2
    have hK' := (KeepsOthers.setCell W ⟨w.heap.size + 1, 0, none⟩ (.int .i64 0)).same D _ hK rfl
    refine ⟨by simp, .inl ⟨_, _, rfl, run_takeDeferred hK', ?_⟩⟩
    have hc5 := cell_kept (World.cell?_setCell_same' W ⟨w.heap.size + 1, 0, none⟩ (.int .i64 0) (by rw [hr]; rfl)) (grownBy_putObj' _ D (.deferred none)) (fun r e => by cases e; exact ⟨_, hK', rfl⟩)
    refine ⟨.int .i64 0, ?_, by rw [nx_none fun y hy => by have h := spd_mem v0 v8 m8 hy; rw [← fitsW_eq h.1 h.2.1]; exact hn y hy], (hb.setCell (p := ⟨w.heap.size + 1, 0, none⟩) (by simp) _).trans (belowK_b (w := w) (Nat.le_refl _) _ D _ _ (by omega) hK' rfl rfl)⟩
    simp [results, Try.f22, go_sem, hc5]
  case stop =>
    rintro D j pre W hD hpre ⟨⟨rfl, p', x, rfl, hn, hx, hr⟩, hb⟩ hK
    have hin : ∀ y ∈ p' ++ [x], fitsW c y = fits c y := fun y hy => by have h := spd_mem v0 v8 m8 (hpre.subset hy); exact fitsW_eq h.1 h.2.1
    have hnx : nx v c q = x := nx_stop hpre (fun y hy => by rw [← hin y (List.mem_append.2 (.inl hy))]; exact hn y hy) (by rw [← hin x (by simp)]; exact hx)
    have HN := Lib.hid hnx
    clear hnx hin
    gi_wp2
    refine ⟨by simp, .inl ⟨_, _, rfl, run_takeDeferred hK, ?_⟩⟩
    have hc5 := cell_kept hr (grownBy_putObj' _ D (.deferred none)) (fun r e => by cases e; exact ⟨_, hK, rfl⟩)
    refine ⟨.int .i64 x, ?_, by rw [HN.out], hb.trans (belowK_b (w := w) (Nat.le_refl _) W D _ _ (by omega) hK rfl rfl)⟩
    simp [results, Try.f22, go_sem, hc5]

theorem Next_any (s l m : Int) (w : World) : Calls Try.prog 22 #[.int .i64 s, .int .i64 l, .int .i64 m] w (Says w (.int .i64 (Nx s l m))) :=
  (callsIn_wide (n := 3)).1 (Next_in s l m w)

end Go.Proofs.Ytmdljmlnfihmcaa.Pla
