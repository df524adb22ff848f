/- The contract of kept. -/
import Derived.Test.YtjedkkkhficmoaaDoorJrnD
import Derived.Test.YtjedkkkhficmoaaDoorLgrF
import Derived.Test.YtjedkkkhficmoaaDoorHeldIn
import Derived.Test.YtjedkkkhficmoaaDoorSeesN
import Derived.RangeFuncFrom
import Derived.RangeFuncBox
namespace Go.Proofs.YtjedkkkhficmoaaDoor.Jrn
open Go.RowKit Go.Shelf Go.Proofs.YtjedkkkhficmoaaDoor.Plain Go.Proofs.YtjedkkkhficmoaaDoor.Sees Go.Proofs.YtjedkkkhficmoaaDoor.Oct Go.Proofs.YtjedkkkhficmoaaDoor.Crc Go.Proofs.YtjedkkkhficmoaaDoor.Box Go.Proofs.YtjedkkkhficmoaaDoor.Held Go.Proofs.YtjedkkkhficmoaaDoor.JrnP Go.Proofs.YtjedkkkhficmoaaDoor.Open Go.Proofs.YtjedkkkhficmoaaDoor.LgrP
open Go.Proofs.YtjedkkkhficmoaaDoor.Lgr (Far)
set_option linter.unusedVariables false
set_option maxRecDepth 100000
attribute [local go_sem] Oper.semAt_some

theorem chunk_stops (F : Fence) (N : Nat) (hf : F.fn 67) (hro : F.round = none) (hN : 1 ≤ N) (X Y T q : Nat) (A : Option Addr) (n c : Nat) (w : World) (hq : 2 * q = n) (hn : n ≤ 1000000) (hc : n ≤ c) (hXT : X ≠ T) (hYT : Y ≠ T)
    (cX : Bx w X #[.slice A n c]) (cY : Bx w Y #[.int .i64 2]) :
    SeqStopsK F N Tryd.prog 67 #[.pointer (some ⟨X, 0, none⟩), .pointer (some ⟨Y, 0, none⟩)] (fun x : Fin q => #[two A x.1]) (KB T w.heap.size) (fun ys => ys = upC q q) (fun pre => pre <+: upC q q) q w := fun lo J Jx W hW hJ _ hY h0 =>
  chunk1_in F N hf hro hN lo X Y T w.heap.size q A n c hq hn hc cX.lt hXT cY.lt hYT J Jx hY (fun pre W h => hJ pre W W.drew none h ⟨rfl, rfl, rfl, Nat.le_refl _, fun _ _ _ => rfl⟩ (fun r e => by cases e)) W (cX.next hW) (cY.next hW) h0

/-- a ledger is answered, and memory made alone -/
def KP (w : World) (b m : Int) (l : List Pm) (e : Ending) (w' : World) : Prop :=
  ∃ A c, e = .returned (.agg #[.int .i64 b, .int .i64 m, .int .i64 0, .slice A l.length c]) ∧ l.length ≤ c ∧ c ≤ maxLen ∧ TS w' 54 A (pms l) ∧ Below w.heap.size w w'

theorem keeps_below {W W' : World} (h : Below W.heap.size W W') : KeepsOthers W W' := ⟨h.size, fun k o hk _ => (h.block k (Array.getElem?_eq_some_iff.1 hk).1).trans hk⟩
theorem keeps_own {W W' : World} {base : Nat} {e : TypeId} {size : Nat} {v : Value} {n : Nat} {xs : List Value} (h : W.ownsRow base e size v n xs) (hg : W.grownBy W' v.ownBlock) : KeepsOthers W W' :=
  KeepsOthers.of_grownBy hg fun j o hj ho => by
    rcases h.2 with ⟨rfl, _⟩ | ⟨g, cap, cur, rfl, _, hh, _⟩
    · simp [Value.ownBlock] at hj
    · simp [Value.ownBlock] at hj
      subst hj
      rw [hh] at ho
      injection ho with ho
      subst ho
      rfl
/-- the k-th permit of a row -/
def el (r : List Int) (k : Nat) : Pm := ⟨ofB ((r.drop (8 * k)).take 4), ofB ((r.drop (8 * k + 4)).take 4)⟩
theorem gp_el (r : List Int) : ∀ q, (List.finRange q).map (fun x => el r x.1) = gp q r := by
  have h1 : ∀ q, (List.range q).map (el r) = gp q r := by
    intro q
    induction q with
    | zero => rfl
    | succ q ih => rw [List.range_succ, List.map_append, ih, gp_snoc]; rfl
  intro q
  rw [← h1]
  apply List.ext_getElem <;> simp
theorem infoPermit : (Tryd.prog.info? 54).map (fun i => (i.zero, i.size, i.bytes)) = some (some (.agg #[.int .i64 0, .int .i64 0]), 2, 16) := by kernel_rfl
theorem own_grown {W W' : World} {base : Nat} {e : TypeId} {size : Nat} {v : Value} {n : Nat} {xs : List Value} {row : Option Nat} (h : W.ownsRow base e size v n xs) (hg : W.grownBy W' row) (hr : ∀ r, row = some r → ∃ o : Obj, W.heap[r]? = some o ∧ o.isCells = false) : W'.ownsRow base e size v n xs := by
  refine ⟨h.1, ?_⟩
  rcases h.2 with h2 | ⟨g, cap, cur, hv, hb, hh, r⟩
  · exact .inl h2
  · refine .inr ⟨g, cap, cur, hv, hb, (hg.block g (Array.getElem?_eq_some_iff.1 hh).1 (fun e => ?_)).trans hh, r⟩
    obtain ⟨o, ho, hc⟩ := hr g e.symm
    rw [hh] at ho
    injection ho with ho
    subst ho
    cases hc
theorem TS.put {W : World} {t : TypeId} {A : Option Addr} {xs : List Value} (h : TS W t A xs) {D : Nat} {o o' : Obj} (hD : W.heap[D]? = some o) (ho : o.isCells = false) : TS (W.putObj D o') t A xs := by
  rcases h with h | ⟨g, q, cur, hA, hg, hc⟩
  · exact .inl h
  · refine .inr ⟨g, q, cur, hA, (World.putObj_heap_other (fun e => ?_)).trans hg, hc⟩
    subst e
    rw [hD] at hg
    injection hg with hg
    subst hg
    cases ho
theorem ts_sets {W : World} {t : TypeId} {A : Option Addr} {n c : Nat} {xs : List Value} (h : TS W t A xs) {X : Nat} (hX : ∀ g, (Value.slice A n c).ownBlock = some g → g ≠ X) (x y z u : Value) : TS ((((W.setCell ⟨X, 0, none⟩ x).setCell ⟨X, 1, none⟩ y).setCell ⟨X, 2, none⟩ z).setCell ⟨X, 3, none⟩ u) t A xs := by
  rcases h with h | ⟨g, o, cur, hA, hg, hc⟩
  · exact .inl h
  · have hne : g ≠ X := hX g (by rw [hA]; rfl)
    exact .inr ⟨g, o, cur, hA, (Below.heap_setCell _ ⟨X, 3, none⟩ u g hne).trans ((Below.heap_setCell _ ⟨X, 2, none⟩ z g hne).trans ((Below.heap_setCell _ ⟨X, 1, none⟩ y g hne).trans ((Below.heap_setCell _ ⟨X, 0, none⟩ x g hne).trans hg))), hc⟩
theorem own_any {W : World} {base : Nat} {e : TypeId} {size : Nat} {v : Value} {n : Nat} {xs : List Value} (h : W.ownsRow base e size v n xs) : ∃ A c, v = .slice A n c := by
  rcases h.2 with ⟨rfl, rfl⟩ | ⟨g, cap, cur, rfl, _⟩
  · exact ⟨none, 0, rfl⟩
  · exact ⟨_, cap, rfl⟩
theorem row_kept {W W' : World} {base : Nat} {e : TypeId} {size : Nat} {v : Value} {n : Nat} {xs : List Value} (h : W.ownsRow base e size v n xs) (hb : Below W.heap.size W W') : W'.ownsRow base e size v n xs := own_below h hb fun k hk => (h.lt k hk).2

theorem far_own {W : World} {base n₀ : Nat} {e : TypeId} {size : Nat} {A : Option Addr} {n c : Nat} {xs : List Value} (h : W.ownsRow base e size (.slice A n c) n xs) (hn : n₀ ≤ base) : Far W n₀ A xs := Lgr.Far.own h hn

set_option maxHeartbeats 3200000 in
theorem kept_in (r1 r2 : List Int) (A1 A2 : Option Addr) (c1 c2 m q : Nat) (w : World) (hl1 : r1.length = 8) (hl2 : r2.length = m) (hm : 8 * q = m) (hq : q ≤ 100000) (hc1 : 8 ≤ c1) (hc2 : m ≤ c2)
    (hs1 : Sees w w.heap.size A1 (nums .u8 r1)) (hs2 : Sees w w.heap.size A2 (nums .u8 r2)) (hb1 : ∀ b ∈ r1, 0 ≤ b ∧ b ≤ 255) (hb2 : ∀ b ∈ r2, 0 ≤ b ∧ b ≤ 255) :
    CallsIn Fence.wide 3 Tryd.prog 48 #[.slice A1 8 c1, .slice A2 m c2] w (KP w (ofB (r1.take 4)) (ofB ((r1.drop 4).take 4)) (gp q r2)) := by
  have H1 : Hid (∀ W, Below w.heap.size w W → Calls Tryd.prog 49 #[.int .i64 4, .slice A1 8 c1] W (FN W 2 (grp 2 4 r1))) := Lib.hid fun W hW => numbers_any 4 2 8 c1 A1 r1 W (by omega) (by omega) rfl hl1 (by omega) hc1 (sees_next hs1 hW) hb1
  obtain ⟨n2, hn2⟩ : ∃ n2, 2 * q = n2 := ⟨_, rfl⟩
  have H2 : Hid (∀ W, Below w.heap.size w W → Calls Tryd.prog 49 #[.int .i64 4, .slice A2 m c2] W (FN W n2 (grp n2 4 r2))) := Lib.hid fun W hW => numbers_any 4 n2 m c2 A2 r2 W (by omega) (by omega) (by omega) hl2 (by omega) hc2 (sees_next hs2 hW) hb2
  have HC : Hid (∀ A n c W, Calls Tryd.prog 60 #[.slice A n c, .int .i64 2] W fun e w' => e = .returned (.func (.func 67) #[] #[.pointer (some ⟨W.heap.size, 0, none⟩), .pointer (some ⟨W.heap.size + 1, 0, none⟩)]) ∧ w' = (W.alloc (.cells #[.slice A n c] 89)).alloc (.cells #[.int .i64 2] 3)) := Lib.hid fun A n c W => chunk_any A n c W
  have hx : Hid ((0 ≤ ofB (r1.take 4) ∧ ofB (r1.take 4) < 4294967296) ∧ 0 ≤ ofB ((r1.drop 4).take 4) ∧ ofB ((r1.drop 4).take 4) < 4294967296) := Lib.hid (by
    have h1 := ofB_bounds (r1.take 4) (fun b hb => hb1 b (List.mem_of_mem_take hb))
    have h2 := ofB_bounds ((r1.drop 4).take 4) (fun b hb => hb1 b (List.mem_of_mem_drop (List.mem_of_mem_take hb)))
    have e1 : (r1.take 4).length = 4 := by simp; omega
    have e2 : ((r1.drop 4).take 4).length = 4 := by simp; omega
    rw [e1] at h1
    rw [e2] at h2
    omega)
  have hg : Hid (grp 2 4 r1 = [ofB (r1.take 4), ofB ((r1.drop 4).take 4)]) := Lib.hid rfl
  rw [hg.out] at H1
  generalize ofB (r1.take 4) = b at *
  generalize ofB ((r1.drop 4).take 4) = mm at *
  clear hg hl1 hs1 hs2 hb1
  have hj := Lib.hid (J.one w #[.int .i64 0, .int .i64 0, .int .i64 0, .slice none 0 0] 32)
  refine callsIn_of_wp_marks Tryd.func48 rfl trivial ?_ rfl
  simp only [Tryd.ntmps48, List.size_toArray, List.length_cons, List.length_nil, Nat.reduceAdd, Nat.reduceSub, Array.replicate_succ, Array.replicate_zero, List.push_toArray, List.append_toArray, List.nil_append, List.cons_append]
  gi_wp2_with (first
    | (refine ⟨trivial, ?_⟩; gi_at_call 49; refine (callsIn_wide.2 (H1.out _ below_box)).mono ?_; clear H1; rintro e w1 ⟨A, c, rfl, hc, hcm, ho, h1⟩; have hj1 := Lib.hid (hj.out.next h1); have HS1 := Lib.hid (Sees.own ho); clear ho h1))
  obtain ⟨g, o, rfl, hgl, g0⟩ := HS1.out.at_ (k := 0) (u := .int .u64 b) rfl
  obtain ⟨g', o', e', _, g1⟩ := HS1.out.at_ (k := 1) (u := .int .u64 mm) rfl
  injection e' with e'; injection e' with e1 e2; subst e1 e2
  rw [Nat.add_zero] at g0
  have v1 : IntKind.i64.wrap b = b := by have := hx.out; exact IntWalk.i64_in _ (by omega)
  have v2 : IntKind.i64.wrap mm = mm := by have := hx.out; exact IntWalk.i64_in _ (by omega)
  have hjS : Hid (JS w1 [] w1) := Lib.hid (J.start w1)
  have HGL := Lib.hid hgl
  clear hgl
  refine wpIn_wide.2 ?_
  refine wp_region_lay 9 _ #[.int .i64 0, .int .i64 0, .int .i64 0, .slice none 0 0] 32 _ 6 JS.closed hjS.out (by kernel_rfl) (by kernel_rfl) rfl rfl rfl (fun ρ w' => by simp [execOp, go_sem]) ?_
  simp only [List.take_succ_cons, List.take_zero, List.drop_succ_cons, List.drop_zero]
  apply Exists.intro
  refine ⟨fun w3 h3 => ?_, fun T W3 hJ3 hz3 hT hbx => ?_⟩
  · haveI := Ext.some h3
    have q0 := ext_old h3 (a := ⟨g, o, none⟩) HGL.out g0
    have q1 := ext_old h3 (a := ⟨g, o + 1, none⟩) HGL.out g1
    repeat go_big_quiet_step (fail)
    exact wpQuiet_nil rfl
  have hwT : w.heap.size + 1 ≤ T := by have := (hj1.out.bx 0 rfl).lt; omega
  have hj3 : Hid (J w W3 [(T, #[.int .i64 0, .int .i64 0, .int .i64 0, .slice none 0 0]), (w.heap.size, #[.int .i64 0, .int .i64 0, .int .i64 0, .slice none 0 0])]) := Lib.hid ((hj1.out.next (J.below hJ3)).more hbx)
  obtain ⟨f0, f1, f2, f3⟩ := hbx.f4
  obtain ⟨k0, k1, k2, k3⟩ := hbx.c4
  clear hj1 hjS hJ3 hz3 g0 g1 HS1
  have hne : ∀ x ∈ [(w.heap.size, (#[.int .i64 0, .int .i64 0, .int .i64 0, .slice none 0 0] : Array Value))], x.1 ≠ T := fun x hx => by simp at hx; subst hx; simp only; omega
  change wpList _ _ _ _ _ _
  go_wp2
  have hj4 := Lib.hid ((((hj3.out.put (by omega) hne 0 (.int .i64 b)).put (by omega) hne 1 (.int .i64 mm)).put (by omega) hne 2 (.int .i64 0)).put (by omega) hne 3 (.slice none 0 0))
  generalize (((W3.setCell ⟨T, 0, none⟩ (.int .i64 b)).setCell ⟨T, 1, none⟩ (.int .i64 mm)).setCell ⟨T, 2, none⟩ (.int .i64 0)).setCell ⟨T, 3, none⟩ (.slice none 0 0) = W4 at *
  clear hj3 hbx f0 f1 f2 f3 k0 k1 k2 k3 v1 v2
  gi_wp2_with (first
    | (refine ⟨trivial, ?_⟩; gi_at_call 49; refine (callsIn_wide.2 (H2.out _ hj4.out.below)).mono ?_; clear H2; rintro e w5 ⟨A5, c5, rfl, hc5, hcm5, ho5, h5⟩; have hj5 := Lib.hid (hj4.out.next h5); have hT5 := Lib.hid (And.intro (hj4.out.bx 0 rfl).lt (hj5.out.bx 0 rfl).lt))
    | (refine ⟨trivial, ?_⟩; gi_at_call 60; refine (callsIn_wide.2 (HC.out _ _ _ _)).mono ?_; rintro e w6 ⟨rfl, rfl⟩))
  have hw5 : T < w5.heap.size := hT5.out.2
  have cX := (Bx.new w5 #[.slice A5 n2 c5] 89).alloc (.cells #[.int .i64 2] 3)
  have cY := Bx.new (w5.alloc (.cells #[.slice A5 n2 c5] 89)) #[.int .i64 2] 3
  rw [World.size_alloc] at cY
  have hj6 : Hid (J w ((w5.alloc (.cells #[.slice A5 n2 c5] 89)).alloc (.cells #[.int .i64 2] 3)) [(T, #[.int .i64 b, .int .i64 mm, .int .i64 0, .slice none 0 0]), (w.heap.size, #[.int .i64 0, .int .i64 0, .int .i64 0, .slice none 0 0])]) := Lib.hid ((hj5.out.alloc _).alloc _)
  have HR6 : Hid (∀ x : Fin q, ∃ g o, A5 = some ⟨g, o, none⟩ ∧ T < g ∧ g < w5.heap.size ∧ w5.cell? ⟨g, o + 2 * x.1, none⟩ = some (.int .u64 (el r2 x.1).c) ∧ w5.cell? ⟨g, o + 2 * x.1 + 1, none⟩ = some (.int .u64 (el r2 x.1).p)) := Lib.hid fun x => by
    have hx1 := x.2
    have hF := far_own ho5 (n₀ := T + 1) (by have := hT5.out.1; omega)
    have l0 : (nums .u64 (grp n2 4 r2))[2 * x.1]? = some (.int .u64 (el r2 x.1).c) := by
      unfold nums
      rw [List.getElem?_map, grp_at 4 n2 r2 _ (by omega)]
      simp only [Option.map_some, el]
      rw [show 4 * (2 * x.1) = 8 * x.1 by omega]
    have l1 : (nums .u64 (grp n2 4 r2))[2 * x.1 + 1]? = some (.int .u64 (el r2 x.1).p) := by
      unfold nums
      rw [List.getElem?_map, grp_at 4 n2 r2 _ (by omega)]
      simp only [Option.map_some, el]
      rw [show 4 * (2 * x.1 + 1) = 8 * x.1 + 4 by omega]
    rcases hF with h | ⟨g, o, hA, hg1, hg2, hc⟩
    · rw [h] at l0; simp at l0
    · exact ⟨g, o, hA, hg1, hg2, hc _ _ l0, hc _ _ l1⟩
  have HE : Hid (∀ k, (0 ≤ (el r2 k).c ∧ (el r2 k).c < 4294967296) ∧ 0 ≤ (el r2 k).p ∧ (el r2 k).p < 4294967296) := Lib.hid fun k => by
    have key : ∀ j, 0 ≤ ofB ((r2.drop j).take 4) ∧ ofB ((r2.drop j).take 4) < 4294967296 := fun j => by
      have h1 := ofB_bounds ((r2.drop j).take 4) (fun b hb => hb2 b (List.mem_of_mem_drop (List.mem_of_mem_take hb)))
      have h2 : (256 : Int) ^ ((r2.drop j).take 4).length ≤ 4294967296 := by
        have h3 : ((r2.drop j).take 4).length ≤ 4 := by simp; omega
        generalize ((r2.drop j).take 4).length = d at *
        have : d = 0 ∨ d = 1 ∨ d = 2 ∨ d = 3 ∨ d = 4 := by omega
        rcases this with h | h | h | h | h <;> rw [h] <;> decide
      omega
    exact ⟨key _, key _⟩
  have HGP := Lib.hid (gp_el r2 q)
  have hsz6 : ((w5.alloc (.cells #[.slice A5 n2 c5] 89)).alloc (.cells #[.int .i64 2] 3)).heap.size = w5.heap.size + 2 := by simp
  have HB6 : Hid (Below w5.heap.size w5 ((w5.alloc (.cells #[.slice A5 n2 c5] 89)).alloc (.cells #[.int .i64 2] 3))) := Lib.hid below_two
  clear hj hj4 hj5 HC hT5 hx ho5 h5 hne
  generalize (w5.alloc (.cells #[.slice A5 n2 c5] 89)).alloc (.cells #[.int .i64 2] 3) = W6 at *
  obtain ⟨X, hX⟩ : ∃ X, w5.heap.size = X := ⟨_, rfl⟩
  rw [hX] at cX cY hsz6 hw5 ⊢
  have HX := Lib.hid hX
  clear hX
  obtain ⟨i0, hi, hz0, hz1, hz2⟩ := info_parts infoPermit
  refine wpIn_rangeFunc_ownF rfl (by omega) (gf := 67) (lb := #[.pointer (some ⟨X, 0, none⟩), .pointer (some ⟨X + 1, 0, none⟩)]) rfl trivial (enters_of Tryd.func67 (by kernel_rfl) rfl)
    (chunk_stops Fence.wide _ trivial rfl (by omega) X (X + 1) T q A5 n2 c5 W6 hn2 (by omega) hc5 (by omega) (by omega) cX cY)
    (fun h k => h.trans k) (fun W l o o' h _ _ _ => KB.put W h) (Below.refl _ _) (fun _ => rfl)
    (fun pre W => KB T W6.heap.size W6 W ∧ ∃ v, Bx W T #[.int .i64 b, .int .i64 mm, .int .i64 0, v] ∧ W.ownsRow W6.heap.size 54 2 v pre.length (pms (pre.map fun x => el r2 x.1)))
    (fun _ _ _ => False)
    (OwnFrom.and (kb_own (Nat.le_refl _) (Nat.le_refl _)) (Own.from (fun s A B row hs hg hr => by
      obtain ⟨v, h1, h2⟩ := hs
      exact ⟨v, bx_grown h1 hg hr, own_grown h2 hg hr⟩) _))
    (fun _ _ _ _ _ hs _ _ => hs)
    ⟨KB.refl _ _ _, _, hj6.out.bx 0 rfl, World.ownsRow_nil _ _ _ _⟩
    (fun x => { tmps := #[Value.slice A1 8 c1, Value.slice A2 m c2, undef, undef, Value.pointer (some { block := w.heap.size, off := 0 }), Value.slice (some { block := g, off := o }) 2 c, Value.pointer (some { block := T, off := 0 }), two A5 x.1, Value.slice A1 8 c1, Value.slice (some { block := g, off := o }) 2 c, Value.slice (some { block := g, off := o }) 2 c, Value.pointer (some { block := g, off := o }), Value.int IntKind.u64 b, Value.int IntKind.i64 b, Value.slice (some { block := g, off := o }) 2 c, Value.pointer (some { block := g, off := o + 1 }), Value.int IntKind.u64 mm, Value.int IntKind.i64 mm, Value.agg #[Value.int IntKind.i64 b, Value.int IntKind.i64 mm, Value.int IntKind.i64 0, Value.slice none 0 0], Value.slice A2 m c2, Value.slice A5 n2 c5, Value.func (Fn.func 67) #[] #[Value.pointer (some { block := X, off := 0 }), Value.pointer (some { block := X + 1, off := 0 })], two A5 x.1, undef, undef, undef, undef, undef, undef, undef, undef, undef, undef, undef, undef, undef, undef, undef], defers := [] })
    ?assign ?body ?done ?stop
  case assign =>
    intro l x W K hK
    gi_wp2
    exact hK
  case body =>
    rintro lo pre x W ⟨hK, v, hv, hrow⟩ hlen
    obtain ⟨g5, o5, rfl, hg1, hg2, d0, d1⟩ := HR6.out x
    have hg5 : g5 < W6.heap.size := by have := HX.out; omega
    have hW6 : W6.heap.size ≤ W.heap.size := hK.size
    have hkc : ∀ j, W.cell? ⟨g5, j, none⟩ = w5.cell? ⟨g5, j, none⟩ := fun j => by
      have e1 : W.heap[g5]? = w5.heap[g5]? := (hK.block g5 hg5 (by omega)).trans (HB6.out.block g5 hg2)
      simp only [World.cell?, e1]
    have d0 := (hkc _).trans d0
    have d1 := (hkc _).trans d1
    have hex := HE.out x.1
    obtain ⟨pc, pp, hel⟩ : ∃ pc pp, el r2 x.1 = ⟨pc, pp⟩ := ⟨_, _, rfl⟩
    rw [hel] at d0 d1 hex
    simp only at d0 d1 hex
    have v1 : IntKind.i64.wrap pc = pc := IntWalk.i64_in _ (by omega)
    have v2 : IntKind.i64.wrap pp = pp := IntWalk.i64_in _ (by omega)
    have htw : two (some ⟨g5, o5, none⟩) x.1 = .slice (some ⟨g5, o5 + 2 * x.1, none⟩) 2 2 := by simp [two, Addr.add_lit]
    rw [htw]
    have hWT : T < W.heap.size := hv.lt
    have HEL := Lib.hid hel
    have hq1 : pre.length < 100000 := by omega
    generalize o5 + 2 * x.1 = o6 at *
    obtain ⟨a0, a1, a2, a3⟩ := hv.c4
    have hjS : Hid (JS W [] W) := Lib.hid (J.start W)
    have hmx : Tryd.prog.follows .mixedOrders = true := by kernel_rfl
    clear hkc hex hel htw hlen a0 a1 a2 hj6 HR6
    gi_wp2
    refine wpIn_region_build 11 _ #[.int .i64 pc, .int .i64 pp] 54 1 _ 34 JS.closed hjS.out hmx (by kernel_rfl) (by kernel_rfl) (by rintro ⟨a, w, h⟩; exact h) (by kernel_rfl) rfl rfl rfl ?_
    simp only [List.take_succ_cons, List.take_zero, List.drop_succ_cons, List.drop_zero]
    apply Exists.intro
    refine ⟨fun w10 h10 => ?_, ?_, fun B W1 hJ1 hb1 hB hBx => ?_⟩
    · haveI := Ext.some h10
      have q0 := ext_old h10 (a := ⟨T, 3, none⟩) hWT a3
      have q1 := ext_old h10 (a := ⟨g5, o6, none⟩) (by simp only; omega) d0
      have q2 := ext_old h10 (a := ⟨g5, o6 + 1, none⟩) (by simp only; omega) d1
      repeat go_big_quiet_step (fail)
      exact wpQuiet_nil rfl
    · intro w'
      simp [execOp, Act.eval, go_sem]
    have hB1 : Below W.heap.size W W1 := J.below hJ1
    have hv1 := hv.next hB1
    have hrow1 := row_kept hrow hB1
    have hW1 : W6.heap.size ≤ W1.heap.size := Nat.le_trans hW6 hB1.size
    have HKp : Hid (KB T W6.heap.size W W1) := Lib.hid (KB.of_below (hB1.mono hW6))
    have HKo : Hid (KeepsOthers W W1) := Lib.hid (keeps_below hB1)
    have HK := Lib.hid hK
    have HBx := Lib.hid hBx
    clear a3 d0 d1 hJ1 hb1 hjS hB1 hv hrow hK hBx
    change wpList _ _ _ _ _ _
    go_wp2_with (at_builtin; refine wpList_append_seesN _ rfl _ _ 30 rfl W6.heap.size 54 i0 (.agg #[.int .i64 0, .int .i64 0]) 2 16 Tryd.underlying30 hi hz0 hz1 hz2 rfl (by decide) _ _ _ rfl hrow1 (B + 1) (some ⟨B, 0, none⟩) 1 1 (pms [⟨pc, pp⟩]) rfl (by simp [pms, Pm.cells]) (.inr ⟨B, 0, rfl, by omega, fun j u hu => by rw [Nat.zero_add]; exact HBx.out.cell (by simpa [pms, Pm.cells] using hu)⟩) (pms_one _) (by unfold maxLen; omega) (by omega) (by omega) ?_; intro v' w11 hown11 hg11; obtain ⟨g', c3, rfl⟩ := ownsRow_succ hown11; have hT11 : Bx w11 T #[.int .i64 b, .int .i64 mm, .int .i64 0, v] := hv1.kept (hg11.by_.block T hv1.lt (fun e => by have := (hrow1.lt T e.symm).1; omega)); obtain ⟨b0, b1, b2, b3⟩ := hT11.c4; obtain ⟨f0, f1, f2, f3⟩ := hT11.f4)
    have hkb : KB T W6.heap.size W (w11.setCell ⟨T, 3, none⟩ (.slice (some ⟨g', 0, none⟩) (pre.length + 1) c3)) := (HKp.out.grown hg11.by_ (fun r e => (hrow1.lt r e).1) hW1).set 3 (.slice (some ⟨g', 0, none⟩) (pre.length + 1) c3)
    have hko : KeepsOthers W (w11.setCell ⟨T, 3, none⟩ (.slice (some ⟨g', 0, none⟩) (pre.length + 1) c3)) := (HKo.out.trans (keeps_own hrow1 hg11.by_)).trans (KeepsOthers.setCell _ _ _)
    refine ⟨hko, hkb, HK.out.trans hkb, (.slice (some ⟨g', 0, none⟩) (pre.length + 1) c3), hT11.set (.slice (some ⟨g', 0, none⟩) (pre.length + 1) c3), ?_⟩
    have h5 := ownsRow_setCell_other hown11 (a := ⟨T, 3, none⟩) (fun e => by have := (hown11.lt T e).1; omega) (.slice (some ⟨g', 0, none⟩) (pre.length + 1) c3)
    rw [List.length_append, List.map_append, pms_append]
    simp only [List.length_cons, List.length_nil, List.map_cons, List.map_nil, HEL.out]
    exact h5
  case done =>
    rintro D ys W hD rfl ⟨hK, v, hv, hrow⟩ hdef
    rw [upC_len (Nat.le_refl _), upC_all, HGP.out] at hrow
    obtain ⟨A, c', rfl⟩ := own_any hrow
    have hc' := (own_cap hrow).1
    have hcm' := (own_cap hrow).2
    have hj7 : Hid (J w W [(w.heap.size, #[.int .i64 0, .int .i64 0, .int .i64 0, .slice none 0 0])]) := Lib.hid (hK.j (hj6.out.less (bs' := [(w.heap.size, #[.int .i64 0, .int .i64 0, .int .i64 0, .slice none 0 0])]) (by simp)) (fun x hx => by simp at hx; subst hx; exact ⟨by simp only; omega, by simp only; omega⟩) (by omega) (by omega))
    have hR7 := Lib.hid (And.intro (TS.own hrow) (hrow.lt))
    obtain ⟨a0, a1, a2, a3⟩ := hv.c4
    obtain ⟨z0, z1, z2, z3⟩ := (hj7.out.bx 0 rfl).c4
    obtain ⟨f0, f1, f2, f3⟩ := (hj7.out.bx 0 rfl).f4
    have hD7 := Lib.hid hdef
    have hDw : w.heap.size ≤ D := by omega
    have n1 : w.heap.size ≠ T := by omega
    have n2' : T ≠ w.heap.size := by omega
    have hne : ∀ x ∈ ([] : List (Nat × Array Value)), x.1 ≠ w.heap.size := fun x hx => by cases hx
    clear hrow hdef hK hv hj6 HR6 HE HGP
    gi_wp2
    have hj8 := ((((hj7.out.put (Nat.le_refl _) hne 0 (.int .i64 b)).put (Nat.le_refl _) hne 1 (.int .i64 mm)).put (Nat.le_refl _) hne 2 (.int .i64 0)).put (Nat.le_refl _) hne 3 (.slice A q c'))
    have hR8 := ts_sets hR7.out.1 (X := w.heap.size) (fun g hg => by have := (hR7.out.2 g hg).1; omega) (.int .i64 b) (.int .i64 mm) (.int .i64 0) (.slice A q c')
    have hD8 := ((((KeepsOthers.setCell W ⟨w.heap.size, 0, none⟩ (.int .i64 b)).trans (KeepsOthers.setCell _ ⟨w.heap.size, 1, none⟩ (.int .i64 mm))).trans (KeepsOthers.setCell _ ⟨w.heap.size, 2, none⟩ (.int .i64 0))).trans (KeepsOthers.setCell _ ⟨w.heap.size, 3, none⟩ (.slice A q c'))).same D _ hD7.out rfl
    generalize (((W.setCell ⟨w.heap.size, 0, none⟩ (.int .i64 b)).setCell ⟨w.heap.size, 1, none⟩ (.int .i64 mm)).setCell ⟨w.heap.size, 2, none⟩ (.int .i64 0)).setCell ⟨w.heap.size, 3, none⟩ (.slice A q c') = W7 at *
    have hj9 := J.putObj hj8 (o' := .deferred none) hD8 rfl hDw
    obtain ⟨k0, k1, k2, k3⟩ := (hj9.bx 0 rfl).c4
    have hgl := gp_len q r2
    refine ⟨by simp, .inl ⟨_, _, rfl, run_takeDeferred hD8, ?_⟩⟩
    refine ⟨.agg #[.int .i64 b, .int .i64 mm, .int .i64 0, .slice A q c'], ?_, A, c', by rw [hgl], by rw [hgl]; exact hc', hcm', hR8.put hD8 rfl, hj9.below⟩
    simp [results, Tryd.f48, go_sem, k0, k1, k2, k3]
  case stop =>
    rintro D c pre W _ _ h _
    exact h.elim

theorem kept_any (r1 r2 : List Int) (A1 A2 : Option Addr) (c1 c2 m q : Nat) (w : World) (hl1 : r1.length = 8) (hl2 : r2.length = m) (hm : 8 * q = m) (hq : q ≤ 100000) (hc1 : 8 ≤ c1) (hc2 : m ≤ c2)
    (hs1 : Sees w w.heap.size A1 (nums .u8 r1)) (hs2 : Sees w w.heap.size A2 (nums .u8 r2)) (hb1 : ∀ b ∈ r1, 0 ≤ b ∧ b ≤ 255) (hb2 : ∀ b ∈ r2, 0 ≤ b ∧ b ≤ 255) :
    Calls Tryd.prog 48 #[.slice A1 8 c1, .slice A2 m c2] w (KP w (ofB (r1.take 4)) (ofB ((r1.drop 4).take 4)) (gp q r2)) :=
  (callsIn_wide (n := 3)).1 (kept_in r1 r2 A1 A2 c1 c2 m q w hl1 hl2 hm hq hc1 hc2 hs1 hs2 hb1 hb2)

end Go.Proofs.YtjedkkkhficmoaaDoor.Jrn
