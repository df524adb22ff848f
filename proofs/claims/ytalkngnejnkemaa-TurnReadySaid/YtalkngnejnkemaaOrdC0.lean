/- The contract of Next. -/
import Derived.Test.YtalkngnejnkemaaOrdB
namespace Go.Proofs.Ytalkngnejnkemaa.Ord
open Go.RowKit Go.Shelf Go.Proofs.Ytalkngnejnkemaa.Plain Go.Proofs.Ytalkngnejnkemaa.OrdP Go.Proofs.Ytalkngnejnkemaa.Sees Go.Proofs.Ytalkngnejnkemaa.Box Go.Proofs.Ytalkngnejnkemaa.Held
set_option linter.unusedVariables false
set_option maxRecDepth 100000
attribute [local go_sem] Oper.semAt_some

set_option maxHeartbeats 3200000 in
theorem Next_in (d o : Nat) (l : List Int) (A : Option Addr) (n c : Nat) (w : World) (hd : d < 18446744073709551616) (ho : o < 18446744073709551616) (hl : l.length = n) (hn : n ≤ maxLen) (hs : Sees w w.heap.size A (nums .i64 l)) :
    CallsIn Fence.wide 3 Try.prog 17 #[.slice A n c, .int .u64 d, .int .u64 o] w (Says w (.int .i64 (nx d o l))) := by
  have HC : Hid (∀ A n c (p : Nat) W, Calls Try.prog 25 #[.slice A n c, .int .u64 p] W fun e w' => e = .returned (.func (.func 26) #[] #[.pointer (some ⟨W.heap.size, 0, none⟩), .pointer (some ⟨W.heap.size + 1, 0, none⟩)]) ∧
    w' = (W.alloc (.cells #[.slice A n c] 41)).alloc (.cells #[.int .u64 p] 24)) := Lib.hid fun A n c p W => left0_any A n c p W
  have h1 : bits .or .u64 d o = ((d ||| o : Nat) : Int) := u64_or_nat _ _ hd ho
  have hp := or_lt hd ho
  have HFP := Lib.hid (fp_or d o l)
  unfold nx
  rw [← HFP.out]
  generalize d ||| o = p at *
  clear HFP
  refine callsIn_of_wp_marks Try.func17 rfl trivial ?_ rfl
  simp only [Try.ntmps17, List.size_toArray, List.length_cons, List.length_nil, Nat.reduceAdd, Nat.reduceSub, Array.replicate_succ, Array.replicate_zero, List.push_toArray, List.append_toArray, List.nil_append, List.cons_append]
  gi_wp2_with (refine ⟨trivial, ?_⟩; gi_at_call 25; refine (callsIn_wide.2 (HC.out _ _ _ _ _)).mono ?_; rintro e w2 ⟨rfl, rfl⟩)
  have hT := Bx.new w #[.int .i64 0] 3
  have hX := Bx.new (w.alloc (.cells #[.int .i64 0] 3)) #[.slice A n c] 41
  have hY := Bx.new ((w.alloc (.cells #[.int .i64 0] 3)).alloc (.cells #[.slice A n c] 41)) #[.int .u64 p] 24
  have hT := (hT.alloc (.cells #[.slice A n c] 41)).alloc (.cells #[.int .u64 p] 24)
  have hX := hX.alloc (.cells #[.int .u64 p] 24)
  have hB : Below w.heap.size w (((w.alloc (.cells #[.int .i64 0] 3)).alloc (.cells #[.slice A n c] 41)).alloc (.cells #[.int .u64 p] 24)) := below_two.alloc (by simp; omega) _
  have hsz : (((w.alloc (.cells #[.int .i64 0] 3)).alloc (.cells #[.slice A n c] 41)).alloc (.cells #[.int .u64 p] 24)).heap.size = w.heap.size + 3 := by simp
  simp only [World.size_alloc] at hX hY
  generalize ((w.alloc (.cells #[.int .i64 0] 3)).alloc (.cells #[.slice A n c] 41)).alloc (.cells #[.int .u64 p] 24) = W1 at *
  have hs1 := hs.below hB (Nat.le_refl _)
  refine wpIn_rangeFunc_ownF rfl (by omega) (gf := 26) (lb := #[.pointer (some ⟨w.heap.size + 1, 0, none⟩), .pointer (some ⟨w.heap.size + 1 + 1, 0, none⟩)]) rfl trivial (enters_of Try.func26 (by kernel_rfl) rfl)
    (left_stops _ (by omega) (w.heap.size + 1) (w.heap.size + 1 + 1) w.heap.size w.heap.size l p hp A n c W1 hl hn (by omega) (by omega) (Nat.le_refl _) (by omega) hX hY hs1)
    (fun h k => h.trans k) (fun W l o o' h _ _ _ => KB.put W h) (Below.refl _ _) (fun _ => rfl)
    (fun pre W => KB w.heap.size W1.heap.size W1 W ∧ (pre = [] ∧ Bx W w.heap.size #[.int .i64 0]))
    (fun j pre W => KB w.heap.size W1.heap.size W1 W ∧ (j = .ret ∧ ∃ x, pre = [x] ∧ Bx W w.heap.size #[.int .i64 x]))
    (OwnFrom.and (kb_own (Nat.le_refl _) (Nat.le_refl _)) (fun s A B row hs hg hr => ⟨hs.1, bx_grown hs.2 hg fun r e => (hr r e).2⟩))
    (fun j => OwnFrom.and (kb_own (Nat.le_refl _) (Nat.le_refl _)) (fun s A B row hs hg hr => by obtain ⟨h1, x, h2, h3⟩ := hs; exact ⟨h1, x, h2, bx_grown h3 hg fun r e => (hr r e).2⟩))
    ⟨KB.refl _ _ _, rfl, hT⟩
    (fun x => { tmps := #[Value.slice A n c, Value.int IntKind.u64 ↑d, Value.int IntKind.u64 ↑o, undef, undef, undef, Value.pointer (some { block := w.heap.size, off := 0 }), .int .i64 x, Value.slice A n c, Value.int IntKind.u64 ↑d, Value.int IntKind.u64 ↑o, Value.int IntKind.u64 ↑p, Value.func (Fn.func 26) #[] #[Value.pointer (some { block := w.heap.size + 1, off := 0 }), Value.pointer (some { block := w.heap.size + 1 + 1, off := 0 })], .int .i64 x, undef], defers := [] })
    ?assign ?body ?done ?stop
  case assign =>
    intro l x W K hK
    gi_wp2
    exact hK
  case body =>
    rintro lo pre x W ⟨hK, rfl, hbx⟩ hlen
    have f0 := hbx.f1
    have c0 := hbx.c1
    gi_wp2
    have hbs := hbx.set (j := 0) (.int .i64 x)
    exact ⟨KeepsOthers.setCell _ _ _, hK.set 0 _, rfl, x, rfl, by simpa using hbs⟩
  case done =>
    rintro D ys W hD rfl ⟨hK, he, hbx⟩ hdef
    have f0 := hbx.f1
    have c0 := hbx.c1
    have HE := Lib.hid he
    clear he
    gi_wp2
    have hbs : Bx (W.setCell ⟨w.heap.size, 0, none⟩ (.int .i64 (-1))) w.heap.size #[.int .i64 (-1)] := by simpa using hbx.set (j := 0) (.int .i64 (-1))
    have hK2 := hK.set 0 (.int .i64 (-1))
    have hD2 := (KeepsOthers.setCell W ⟨w.heap.size, 0, none⟩ (.int .i64 (-1))).same D _ hdef rfl
    generalize W.setCell ⟨w.heap.size, 0, none⟩ (.int .i64 (-1)) = W2 at *
    have c5 := (bx_grown hbs (grownBy_putObj' W2 D (.deferred none)) (fun r e => by cases e; exact ⟨_, hD2, rfl⟩)).c1
    refine ⟨by simp, .inl ⟨_, _, rfl, run_takeDeferred hD2, ?_⟩⟩
    refine ⟨.int .i64 (-1), ?_, by rw [HE.out]; rfl, (hB.trans (hK2.below (Nat.le_refl _) (by omega))).trans ((KB.put (T := w.heap.size) (base := W1.heap.size) W2 (by omega)).below (Nat.le_refl _) (by omega))⟩
    simp [results, Try.f17, go_sem, c5]
  case stop =>
    rintro D j pre W hD hpre ⟨hK, rfl, x, rfl, hbx⟩ hdef
    have c0 := hbx.c1
    have HE : Hid ((fp p l).headD (-1) = x) := Lib.hid (by
      obtain ⟨t, ht⟩ := hpre
      rw [← ht]; rfl)
    clear hpre
    gi_wp2
    have c5 := (bx_grown hbx (grownBy_putObj' W D (.deferred none)) (fun r e => by cases e; exact ⟨_, hdef, rfl⟩)).c1
    refine ⟨by simp, .inl ⟨_, _, rfl, run_takeDeferred hdef, ?_⟩⟩
    refine ⟨.int .i64 x, ?_, by rw [HE.out], (hB.trans (hK.below (Nat.le_refl _) (by omega))).trans ((KB.put (T := w.heap.size) (base := W1.heap.size) W (by omega)).below (Nat.le_refl _) (by omega))⟩
    simp [results, Try.f17, go_sem, c5]

theorem Next_any (d o : Nat) (l : List Int) (A : Option Addr) (n c : Nat) (w : World) (hd : d < 18446744073709551616) (ho : o < 18446744073709551616) (hl : l.length = n) (hn : n ≤ maxLen) (hs : Sees w w.heap.size A (nums .i64 l)) :
    Calls Try.prog 17 #[.slice A n c, .int .u64 d, .int .u64 o] w (Says w (.int .i64 (nx d o l))) :=
  (callsIn_wide (n := 3)).1 (Next_in d o l A n c w hd ho hl hn hs)
end Go.Proofs.Ytalkngnejnkemaa.Ord
