/- The floors whose bits are in a row: the iterator's contract. -/
import Derived.Test.YtojioadonbiiaaaCalA
import Derived.RangeFuncFrom
import Derived.RangeFuncNested
import Derived.RangeFuncBound
import Derived.RangeFuncCalls
import Derived.RangeFuncLeaves
import Derived.RangeFuncBox
import Derived.Shelf.Abstract
import Derived.Shelf.RegionOpen
import Derived.Sort.BigQuietIn
import Derived.WalkKit
import Derived.OwnWalkIn
import Derived.TacticsInMore
import Derived.LoopNIn
import Derived.LoopIn
namespace Go.Proofs.Ytojioadonbiiaaa.Cal
open Go.RowKit Go.Shelf Go.Proofs.Ytojioadonbiiaaa.CalP Go.Proofs.Ytojioadonbiiaaa.Box Go.Proofs.Ytojioadonbiiaaa.Held
set_option linter.unusedVariables false
set_option maxRecDepth 100000
attribute [local go_sem] Oper.semAt_some

/-- block X is as it was -/
structure KX (X : Nat) (W W' : World) : Prop where
  size : W.heap.size ≤ W'.heap.size
  block : W'.heap[X]? = W.heap[X]?
theorem KX.refl (X : Nat) (W : World) : KX X W W := ⟨Nat.le_refl _, rfl⟩
theorem KX.trans {X : Nat} {A B C : World} (h : KX X A B) (k : KX X B C) : KX X A C := ⟨Nat.le_trans h.size k.size, k.block.trans h.block⟩
theorem KX.set {X Y j : Nat} {u : Value} {A B : World} (h : KX X A B) (hY : X ≠ Y) : KX X A (B.setCell ⟨Y, j, none⟩ u) :=
  h.trans ⟨by simp [World.setCell], Below.heap_setCell B _ u X hY⟩
theorem KX.drew {X : Nat} {A B : World} (h : KX X A B) : KX X A B.drew := h.trans ⟨Nat.le_refl _, rfl⟩
theorem KX.put {X l : Nat} {o' : Obj} (W : World) (h : X < l) : KX X W (W.putObj l o') := ⟨by simp [World.putObj], World.putObj_heap_other (by omega)⟩
theorem KX.below {X n : Nat} {A B C : World} (h : KX X A B) (hb : Below n B C) (hX : X < n) : KX X A C := h.trans ⟨hb.size, hb.block X hX⟩
theorem bx_grown {W W' : World} {X : Nat} {cs : Array Value} {row : Option Nat} (h : Bx W X cs) (hg : W.grownBy W' row) (hr : ∀ r, row = some r → ∃ o : Obj, W.heap[r]? = some o ∧ o.isCells = false) : Bx W' X cs := by
  obtain ⟨t, h⟩ := h
  refine ⟨t, (hg.block X (Array.getElem?_eq_some_iff.1 h).1 (fun e => ?_)).trans h⟩
  obtain ⟨o, ho, hc⟩ := hr X e.symm
  rw [h] at ho; cases ho; cases hc
theorem grown_drew (W : World) : W.grownBy W.drew none := ⟨rfl, rfl, rfl, Nat.le_refl _, fun _ _ _ => rfl⟩

/-- the iterator is made: a box -/
theorem floors_any (b : Nat) (w : World) : Calls Try.prog 28 #[.int .u32 b] w fun e w' => e = .returned (.func (.func 30) #[] #[.pointer (some ⟨w.heap.size, 0, none⟩)]) ∧ w' = w.alloc (.cells #[.int .u32 b] 23) := by
  have hmf : ∀ (fn : Fn) (first cap : Array Value) (w : World), (Instr.makeFunc fn first cap).run Try.prog w = .ok (.func fn first cap) w := fun _ _ _ _ => rfl
  go_enter Try.func28, Try.ntmps28
  go_wp2
  go_ret
  exact ⟨rfl, rfl⟩

theorem yes_or {P Q : Prop} {e : Ending} (h : (e = .returned (.bool true) ∧ P) ∨ (e = .returned (.bool false) ∧ Q)) : ∃ v : Bool, e = .returned (.bool v) ∧ Hid ((v = true ∧ P) ∨ (v = false ∧ Q)) := by
  rcases h with ⟨h1, h2⟩ | ⟨h1, h2⟩
  · exact ⟨true, h1, Lib.hid (.inl ⟨rfl, h2⟩)⟩
  · exact ⟨false, h1, Lib.hid (.inr ⟨rfl, h2⟩)⟩
theorem AbidesN {J : List (Fin 32) → World → Prop} (h : ∀ l W, J l W → J l W.drew) : ∀ n l W, J l W → J l (W.drewN n) := by
  intro n
  induction n with
  | zero => exact fun l W hJ => by rw [World.drewN_zero]; exact hJ
  | succ n ih => exact fun l W hJ => by rw [show W.drewN (n + 1) = (W.drewN n).drew from rfl]; exact h _ _ (ih l W hJ)

set_option maxHeartbeats 3200000 in
/-- for every body that keeps the iterator's box -/
theorem floors1_in (N : Nat) (hN : 1 ≤ N) (lo X : Nat) (b : Nat) (hbl : b < 4294967296) (J Jx : List (Fin 32) → World → Prop) (hJd : ∀ l W, J l W → J l W.drew)
    (hY : ∀ pre x W, J pre W → pre.length < 32 → YieldAt Fence.wide (N - 1) Try.prog lo #[.int .i64 (tI x)] W fun e W' =>
      (e = .returned (.bool true) ∧ J (pre ++ [x]) W' ∧ KX X W W') ∨ (e = .returned (.bool false) ∧ Jx (pre ++ [x]) W'))
    (W : World) (cX : Bx W X #[.int .u32 b]) (h0 : J [] W) :
    CallsIn Fence.wide N Try.prog 30 #[.func (.yield lo) #[] #[], .pointer (some ⟨X, 0, none⟩)] W fun e W' => (∃ v, e = .returned v) ∧
      ((∃ ys, ys = fkF b 32 ∧ J ys W') ∨ (∃ pre, pre <+: fkF b 32 ∧ Jx pre W')) := by
  have c0 := cX.c1
  have hmx : Try.prog.follows .mixedOrders = true := by kernel_rfl
  refine callsIn_of_wp Try.func30 rfl trivial ?_ rfl
  simp only [Try.ntmps30, List.size_toArray, List.length_cons, List.length_nil, Nat.reduceAdd, Nat.reduceSub, Array.replicate_succ, Array.replicate_zero, List.push_toArray, List.append_toArray, List.nil_append, List.cons_append]
  gi_wp2
  gi_loopw [4] (fun x wr => ∃ k : Nat, x = .int .i64 k ∧ k ≤ 32 ∧ J (fkF b k) wr ∧ Hid (Bx wr X #[.int .u32 b]))
    (fun x _ => 32 - (intOf x).toNat)
  case atStart => exact ⟨0, rfl, Nat.zero_le _, h0, Lib.hid cX⟩
  case round =>
    clear c0
    obtain ⟨k, rfl, hk, hJs, hM⟩ := hrel
    have c1 := hM.out.c1
    have c2 := hM.out.drew.c1
    by_cases hlt : k < 32
    · have HF := Lib.hid (fkF_succ b hlt)
      have hlen : (fkF b k).length < 32 := by have := fkF_len b k; omega
      have HB := Lib.hid (fun W => bit_any (k : Int) W)
      have hand : bits .and .u32 b (bt (k : Int) : Nat) = ((b &&& bt (k : Int) : Nat) : Int) := u32_and_nat _ _ hbl (bt_lt _)
      have hne := and_bt b (k : Int)
      generalize bt (k : Int) = d at *
      generalize b &&& d = x at *
      have i1 : (k : Int) < 32 := by omega
      have e1 : IntKind.i64.wrap ((k : Int) + 1) = ((k + 1 : Nat) : Int) := by rw [IntWalk.i64_in _ (by omega)]; rfl
      have HD := Lib.hid hJd
      cases hh : hb b k
      · rw [hh] at HF hne
        clear hh
        have HF' : Hid (fkF b (k + 1) = fkF b k) := Lib.hid (by rw [HF.out]; rfl)
        clear HF
        have hx0 : x = 0 := of_decide_eq_true hne
        subst hx0
        clear hne
        gi_wp2
        have hfw : ∀ f, Fence.wide.fn f := fun _ => trivial
        gi_big_quiet_th (first | (gi_at_call 23; refine CallsIn.quiet_of_same ((callsIn_wide.2 (HB.out _)).mono fun _ _ h => ⟨h.1, h.2.symm⟩)))
        have HN := Lib.hid (And.intro (hM.out.drewN nq) (AbidesN hJd nq (fkF b k) wr hJs))
        gi_wp2
        go_roundw
        case rel => exact ⟨k + 1, rfl, by omega, by rw [HF'.out]; exact HN.out.2, Lib.hid HN.out.1⟩
        case measure => simp [intOf]; omega
      · rw [hh] at HF hne
        clear hh
        have HF' : Hid (fkF b (k + 1) = fkF b k ++ [⟨k, hlt⟩]) := Lib.hid (by rw [HF.out]; rfl)
        clear HF
        have hx0 : ¬ x = 0 := of_decide_eq_false hne
        have hx1 : ((x : Int) != 0) = true := by simpa using hx0
        clear hne
        have HP := Lib.hid (fkF_prefix b (k + 1))
        obtain ⟨fn, tmps, assign, body, hy, hR⟩ := hY _ ⟨k, hlt⟩ wr.drew (hJd _ _ hJs) hlen
        have e2 : tI ⟨k, hlt⟩ = (k : Int) := rfl
        rw [e2] at hy
        have hR' := hR.mono (fun e W' h => yes_or h)
        clear hR
        gi_wp2
        gi_region_with_o (first
          | (refine ⟨trivial, ?_⟩; gi_at_call 23; refine (callsIn_wide.2 (HB.out _)).mono ?_; rintro e w' ⟨rfl, rfl⟩)
          | (gi_at_call 23; refine (callsIn_wide.2 (HB.out _)).mono ?_; rintro e w' ⟨rfl, rfl⟩)
          | (refine hR'.mono ?_; rintro e W3 ⟨v, rfl, hv⟩))
        all_goals
          rcases hv.out with ⟨rfl, hJ3, hk3⟩ | ⟨rfl, hJx3⟩
          · have HN := Lib.hid (And.intro (hM.out.drew.kept hk3.block) hJ3)
            clear hJ3 hk3 hv
            gi_wp2
            go_roundw
            case rel => exact ⟨k + 1, rfl, by omega, by rw [HF'.out]; exact HN.out.2, Lib.hid HN.out.1⟩
            case measure => simp [intOf]; omega
          · clear hv
            gi_wp2
            refine bodyPost_ret (results_none rfl _ _ _) rfl ?_
            exact ⟨⟨_, rfl⟩, .inr ⟨_, HP.out, by rw [HF'.out]; exact hJx3⟩⟩
    · obtain rfl : k = 32 := by omega
      gi_wp2
      go_end0
      exact ⟨⟨_, rfl⟩, .inl ⟨_, rfl, hJs⟩⟩

theorem floors_stops (N : Nat) (hN : 1 ≤ N) (X : Nat) (b : Nat) (hbl : b < 4294967296) (w : World) (cX : Bx w X #[.int .u32 b]) :
    SeqStopsK Fence.wide N Try.prog 30 #[.pointer (some ⟨X, 0, none⟩)] (fun x : Fin 32 => #[Value.int .i64 (tI x)]) (KX X) (fun ys => ys = fkF b 32) (fun pre => pre <+: fkF b 32) 32 w := fun lo J Jx W hW hA _ hY h0 =>
  floors1_in N hN lo X b hbl J Jx (fun l W' h => hA l W' _ none h (grown_drew W') (fun r e => by cases e)) hY W (cX.next hW) h0
end Go.Proofs.Ytojioadonbiiaaa.Cal
