/- Who isn't passed over: the iterator's contract. -/
import Derived.Test.YtalkngnejnkemaaOrdA0
import Derived.Test.YtalkngnejnkemaaSees
import Derived.Test.YtalkngnejnkemaaHeld
import Derived.RangeFuncFrom
import Derived.RangeFuncNested
import Derived.RangeFuncBound
import Derived.RangeFuncCalls
import Derived.RangeFuncLeaves
import Derived.RangeFuncBox
import Derived.Shelf.Abstract
import Derived.Shelf.RegionOpen
import Derived.WalkKit
import Derived.OwnWalkIn
import Derived.TacticsInMore
import Derived.LoopNIn
import Derived.LoopIn
namespace Go.Proofs.Ytalkngnejnkemaa.Ord
open Go.RowKit Go.Shelf Go.Proofs.Ytalkngnejnkemaa.Plain Go.Proofs.Ytalkngnejnkemaa.OrdP Go.Proofs.Ytalkngnejnkemaa.Sees Go.Proofs.Ytalkngnejnkemaa.Box Go.Proofs.Ytalkngnejnkemaa.Held
set_option linter.unusedVariables false
set_option maxRecDepth 100000
attribute [local go_sem] Oper.semAt_some

/-- all that lay below base, but block T, is as it was -/
structure KB (T base : Nat) (W W' : World) : Prop where
  os : W'.os = W.os
  tape : W'.tape = W.tape
  output : W'.output = W.output
  size : W.heap.size ≤ W'.heap.size
  block : ∀ i, i < base → i ≠ T → W'.heap[i]? = W.heap[i]?
theorem KB.refl (T base : Nat) (W : World) : KB T base W W := ⟨rfl, rfl, rfl, Nat.le_refl _, fun _ _ _ => rfl⟩
theorem KB.trans {T base : Nat} {A B C : World} (h : KB T base A B) (k : KB T base B C) : KB T base A C :=
  ⟨k.os.trans h.os, k.tape.trans h.tape, k.output.trans h.output, Nat.le_trans h.size k.size, fun i hi hn => (k.block i hi hn).trans (h.block i hi hn)⟩
theorem KB.below {T base n₀ : Nat} {A B : World} (h : KB T base A B) (hT : n₀ ≤ T) (hb : n₀ ≤ base) : Below n₀ A B :=
  ⟨h.os, h.tape, h.output, h.size, fun i hi => h.block i (by omega) (by omega)⟩
theorem KB.of_below {T base : Nat} {A B : World} (h : Below base A B) : KB T base A B := ⟨h.os, h.tape, h.output, h.size, fun i hi _ => h.block i hi⟩
theorem KB.set {T base : Nat} {A B : World} (h : KB T base A B) (j : Nat) (u : Value) : KB T base A (B.setCell ⟨T, j, none⟩ u) :=
  h.trans ⟨rfl, rfl, rfl, by simp [World.setCell], fun i _ hn => Below.heap_setCell B _ u i hn⟩
theorem KB.drew {T base : Nat} {A B : World} (h : KB T base A B) : KB T base A B.drew := h.trans ⟨rfl, rfl, rfl, Nat.le_refl _, fun _ _ _ => rfl⟩
theorem KB.grown {T base : Nat} {A B C : World} {row : Option Nat} (h : KB T base A B) (hg : B.grownBy C row) (hr : ∀ r, row = some r → base ≤ r) (hbB : base ≤ B.heap.size) : KB T base A C :=
  h.trans ⟨hg.os, hg.tape, hg.output, hg.size, fun i hi _ => hg.block i (by omega) (fun e => by have := hr i e.symm; omega)⟩
theorem KB.bx {T base X : Nat} {A B : World} {cs : Array Value} (h : KB T base A B) (hx : Bx A X cs) (hX : X < base) (hT : X ≠ T) : Bx B X cs := hx.kept (h.block X hX hT)
theorem KB.sees {T base n₀ : Nat} {A B : World} {a : Option Addr} {xs : List Value} (h : KB T base A B) (hs : Sees A n₀ a xs) (hT : n₀ ≤ T) (hb : n₀ ≤ base) : Sees B n₀ a xs := hs.below (h.below hT hb) (Nat.le_refl _)
theorem KB.put {T base l : Nat} {o' : Obj} (W : World) (h : base ≤ l) : KB T base W (W.putObj l o') :=
  KB.of_below (by exact ⟨rfl, rfl, rfl, by simp [World.putObj], fun i hi => World.putObj_heap_other (by omega)⟩)
theorem kb_own {β : Type} {T base B : Nat} {W₀ : World} (h0 : base ≤ W₀.heap.size) (hB : base ≤ B) : OwnFrom B (fun (_ : β) W => KB T base W₀ W) :=
  fun s X Y row hs hg hr => hs.grown hg (fun r e => Nat.le_trans hB (hr r e).1) (Nat.le_trans h0 hs.size)
theorem bx_grown {W W' : World} {X : Nat} {cs : Array Value} {row : Option Nat} (h : Bx W X cs) (hg : W.grownBy W' row) (hr : ∀ r, row = some r → ∃ o : Obj, W.heap[r]? = some o ∧ o.isCells = false) : Bx W' X cs := by
  obtain ⟨t, h⟩ := h
  refine ⟨t, (hg.block X (Array.getElem?_eq_some_iff.1 h).1 (fun e => ?_)).trans h⟩
  obtain ⟨o, ho, hc⟩ := hr X e.symm
  rw [h] at ho; cases ho; cases hc

theorem fp_take {p : Nat} {l : List Int} {k : Nat} {x : Int} (h : l[k]? = some x) : fp p (l.take (k + 1)) = if (inb x && !hb p x) = true then fp p (l.take k) ++ [x] else fp p (l.take k) := by
  rw [List.take_add_one, h]
  exact fp_snoc p _ x
theorem fp_prefix (p : Nat) (l : List Int) (k : Nat) : fp p (l.take k) <+: fp p l := by
  have := List.take_prefix k l
  unfold fp
  exact this.filter _

theorem not_u64 (p : Nat) (h : p < 18446744073709551616) : bits .xor .u64 IntKind.u64.max p = ((18446744073709551615 - p : Nat) : Int) := by
  have h1 := u64_xor_nat 18446744073709551615 p (by decide) h
  rw [show IntKind.u64.max = ((18446744073709551615 : Nat) : Int) by decide, h1]
  congr 1
  refine ext64 fun k => ?_
  rw [Nat.testBit_xor, not_bit p h, show 18446744073709551615 = 2 ^ 64 - 1 by decide, Nat.testBit_two_pow_sub_one]
  by_cases hk : k < 64
  · simp [hk]
  · rw [bit_big h (by omega)]; simp [hk]

set_option maxHeartbeats 3200000 in
/-- for every body that keeps what lay, but for one block -/
theorem left1_in (N : Nat) (hN : 1 ≤ N) (lo X Y T base n₀ : Nat) (l : List Int) (p : Nat) (hp : p < 18446744073709551616) (A : Option Addr) (n c : Nat) (hl : l.length = n) (hn : n ≤ maxLen) (hX : X < base) (hXT : X ≠ T) (hY' : Y < base) (hYT : Y ≠ T) (hT : n₀ ≤ T) (hbs : n₀ ≤ base) (J Jx : List Int → World → Prop)
    (hY : ∀ pre x W, J pre W → pre.length < n → YieldAt Fence.wide (N - 1) Try.prog lo #[.int .i64 x] W fun e W' =>
      (e = .returned (.bool true) ∧ J (pre ++ [x]) W' ∧ KB T base W W') ∨ (e = .returned (.bool false) ∧ Jx (pre ++ [x]) W'))
    (W : World) (cX : Bx W X #[.slice A n c]) (cY : Bx W Y #[.int .u64 p]) (hs : Sees W n₀ A (nums .i64 l)) (h0 : J [] W) :
    CallsIn Fence.wide N Try.prog 26 #[.func (.yield lo) #[] #[], .pointer (some ⟨X, 0, none⟩), .pointer (some ⟨Y, 0, none⟩)] W fun e W' => (∃ v, e = .returned v) ∧
      ((∃ ys, ys = fp p l ∧ J ys W') ∨ (∃ pre, pre <+: fp p l ∧ Jx pre W')) := by
  unfold maxLen at hn
  have HL := Lib.hid hl
  clear hl
  have c0 := cX.c1
  refine callsIn_of_wp Try.func26 rfl trivial ?_ rfl
  simp only [Try.ntmps26, List.size_toArray, List.length_cons, List.length_nil, Nat.reduceAdd, Nat.reduceSub, Array.replicate_succ, Array.replicate_zero, List.push_toArray, List.append_toArray, List.nil_append, List.cons_append]
  gi_wp2
  gi_loopw [8] (fun x wr => ∃ k : Nat, x = .int .i64 k ∧ k ≤ n ∧ J (fp p (l.take k)) wr ∧ Hid (Bx wr X #[.slice A n c] ∧ Bx wr Y #[.int .u64 p] ∧ Sees wr n₀ A (nums .i64 l)))
    (fun x _ => n - (intOf x).toNat)
  case atStart => exact ⟨0, rfl, Nat.zero_le _, h0, Lib.hid ⟨cX, cY, hs⟩⟩
  case round =>
    clear c0
    obtain ⟨k, rfl, hk, hJs, hM⟩ := hrel
    have c1 := hM.out.2.1.c1
    by_cases hlt : k < n
    · obtain ⟨x, hx⟩ : ∃ x, l[k]? = some x := ⟨_, List.getElem?_eq_getElem (by rw [HL.out]; omega)⟩
      obtain ⟨b, o, rfl, hbB, k0⟩ := hM.out.2.2.at_ (k := k) (u := .int .i64 x) (by unfold nums; rw [List.getElem?_map, hx]; rfl)
      have HF := Lib.hid (fp_take (p := p) hx)
      have hlen : (fp p (l.take k)).length < n := by
        have h1 : (fp p (l.take k)).length ≤ (l.take k).length := List.length_filter_le _ _
        rw [List.length_take] at h1
        omega
      have HB := Lib.hid (fun W => Has_any (18446744073709551615 - p) x W (by omega))
      rw [hb_not hp] at HB
      have hq := not_u64 p hp
      generalize 18446744073709551615 - p = q at *
      have hi : (k : Int) < (n : Int) := by omega
      clear hx
      cases hh : inb x && !hb p x
      · rw [hh] at HB HF
        clear hh
        have HF' : Hid (fp p (l.take (k + 1)) = fp p (l.take k)) := Lib.hid (by rw [HF.out]; rfl)
        clear HF
        gi_wp2_with (first
          | (refine ⟨trivial, ?_⟩; gi_at_call 13; refine (callsIn_wide.2 (HB.out _)).mono ?_; rintro e w' ⟨rfl, rfl⟩))
        refine ⟨fun f hf => (by cases hf), ?_⟩
        gi_wp2
        go_roundw
        case rel => exact ⟨k + 1, rfl, by omega, by rw [HF'.out]; exact hJs, hM⟩
        case measure => simp [intOf]; omega
      · rw [hh] at HB HF
        clear hh
        have HF' : Hid (fp p (l.take (k + 1)) = fp p (l.take k) ++ [x]) := Lib.hid (by rw [HF.out]; rfl)
        clear HF
        have HP := Lib.hid (fp_prefix p l (k + 1))
        obtain ⟨fn, tmps, assign, body, hy, hR⟩ := hY _ x wr hJs hlen
        gi_wp2_with (first
          | (refine ⟨trivial, ?_⟩; gi_at_call 13; refine (callsIn_wide.2 (HB.out _)).mono ?_; rintro e w' ⟨rfl, rfl⟩))
        refine hR.mono ?_
        rintro e W3 (⟨rfl, hJ3, hk3⟩ | ⟨rfl, hJx3⟩)
        · have HN := Lib.hid (And.intro (hk3.bx hM.out.1 hX hXT) (And.intro (hk3.bx hM.out.2.1 hY' hYT) (hk3.sees hM.out.2.2 hT hbs)))
          gi_wp2
          go_roundw
          case rel => exact ⟨k + 1, rfl, by omega, by rw [HF'.out]; exact hJ3, HN⟩
          case measure => simp [intOf]; omega
        · gi_wp2
          refine bodyPost_ret (results_none rfl _ _ _) rfl ?_
          exact ⟨⟨_, rfl⟩, .inr ⟨_, HP.out, by rw [HF'.out]; exact hJx3⟩⟩
    · obtain rfl : k = n := by omega
      gi_wp2
      go_end0
      exact ⟨⟨_, rfl⟩, .inl ⟨_, by rw [List.take_of_length_le (by rw [HL.out]; exact Nat.le_refl _)], hJs⟩⟩

theorem left_stops (N : Nat) (hN : 1 ≤ N) (X Y T n₀ : Nat) (l : List Int) (p : Nat) (hp : p < 18446744073709551616) (A : Option Addr) (n c : Nat) (w : World) (hl : l.length = n) (hn : n ≤ maxLen) (hXT : X ≠ T) (hYT : Y ≠ T) (hT : n₀ ≤ T) (hbs : n₀ ≤ w.heap.size)
    (cX : Bx w X #[.slice A n c]) (cY : Bx w Y #[.int .u64 p]) (hs : Sees w n₀ A (nums .i64 l)) :
    SeqStopsK Fence.wide N Try.prog 26 #[.pointer (some ⟨X, 0, none⟩), .pointer (some ⟨Y, 0, none⟩)] (fun x : Int => #[Value.int .i64 x]) (KB T w.heap.size) (fun ys => ys = fp p l) (fun pre => pre <+: fp p l) n w := fun lo J Jx W hW _ _ hY h0 =>
  left1_in N hN lo X Y T w.heap.size n₀ l p hp A n c hl hn cX.lt hXT cY.lt hYT hT hbs J Jx hY W (cX.next hW) (cY.next hW) (hs.below (hW.mono hbs) (Nat.le_refl _)) h0

end Go.Proofs.Ytalkngnejnkemaa.Ord
