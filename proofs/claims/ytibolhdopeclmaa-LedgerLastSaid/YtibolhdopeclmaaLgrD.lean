/- Permits from the last one back: the iterator's contract. -/
import Derived.Test.YtibolhdopeclmaaLgrA
import Derived.RangeFuncNested
import Derived.RangeFuncBound
import Derived.RangeFuncCalls
import Derived.RangeFuncLeaves
import Derived.Shelf.Abstract
import Derived.Shelf.RegionOpen
import Derived.WalkKit
import Derived.OwnWalkIn
import Derived.TacticsInMore
import Derived.LoopNIn
import Derived.LoopIn
import Derived.Maps.AppendAt
namespace Go.Proofs.Ytibolhdopeclmaa.Lgr
open Go.RowKit Go.Shelf Go.Proofs.Ytibolhdopeclmaa.LgrP Go.Proofs.Ytibolhdopeclmaa.Open Go.Proofs.Ytibolhdopeclmaa.Sees Go.Proofs.Ytibolhdopeclmaa.Box Go.Proofs.Ytibolhdopeclmaa.Held
set_option linter.unusedVariables false
attribute [local go_sem] Oper.semAt_some

/-- what has come when k rounds are over -/
def upB (l : List Pm) (k : Nat) : List (Int × Pm) := (List.range k).map fun j => (((l.length - 1 - j : Nat) : Int), l[l.length - 1 - j]?.getD ⟨0, 0⟩)
theorem upB_len (l : List Pm) (k : Nat) : (upB l k).length = k := by simp [upB]
theorem upB_succ (l : List Pm) (k : Nat) : upB l (k + 1) = upB l k ++ [(((l.length - 1 - k : Nat) : Int), l[l.length - 1 - k]?.getD ⟨0, 0⟩)] := by simp [upB, List.range_succ]
theorem upB_at (l : List Pm) (k i : Nat) (q : Pm) (hi : i + k + 1 = l.length) (hq : l[i]? = some q) : upB l (k + 1) = upB l k ++ [((i : Int), q)] := by
  have e : l.length - 1 - k = i := by omega
  rw [upB_succ, e, hq]; rfl
theorem upB_all (l : List Pm) : (upB l l.length).map (fun x => x.2.c) = l.reverse.map Pm.c := by
  apply List.ext_getElem?
  intro j
  unfold upB
  rw [List.getElem?_map, List.getElem?_map, List.getElem?_map]
  by_cases hj : j < l.length
  · rw [List.getElem?_range hj, List.getElem?_reverse hj]
    have h2 : l.length - 1 - j < l.length := by omega
    simp [List.getElem?_eq_getElem h2]
  · rw [List.getElem?_eq_none (by simpa using hj), List.getElem?_eq_none (by simpa using hj)]; rfl

/-- all that lay below base, but block T, is as it was -/
structure KB (T base : Nat) (W W' : World) : Prop where
  os : W'.os = W.os
  tape : W'.tape = W.tape
  output : W'.output = W.output
  size : W.heap.size ≤ W'.heap.size
  block : ∀ i, i < base → i ≠ T → W'.heap[i]? = W.heap[i]?
theorem KB.refl (T base : Nat) (W : World) : KB T base W W := ⟨rfl, rfl, rfl, Nat.le_refl _, fun _ _ _ => rfl⟩
theorem KB.trans {T base : Nat} {A B C : World} (h : KB T base A B) (k : KB T base B C) : KB T base A C :=
  ⟨k.os.trans h.os, k.tape.trans h.tape, k.output.trans h.output, Nat.le_trans h.size k.size, fun i hi hn => (k.block i hi hn).trans (h.block i hi hn)⟩
theorem KB.below {T base n₀ : Nat} {A B : World} (h : KB T base A B) (hT : n₀ ≤ T) (hb : n₀ ≤ base) : Below n₀ A B :=
  ⟨h.os, h.tape, h.output, h.size, fun i hi => h.block i (by omega) (by omega)⟩
theorem KB.of_below {T base : Nat} {A B : World} (h : Below base A B) : KB T base A B := ⟨h.os, h.tape, h.output, h.size, fun i hi _ => h.block i hi⟩
theorem KB.set {T base : Nat} {A B : World} (h : KB T base A B) (u : Value) : KB T base A (B.setCell ⟨T, 0, none⟩ u) :=
  h.trans ⟨rfl, rfl, rfl, by simp [World.setCell], fun i _ hn => Below.heap_setCell B _ u i hn⟩
theorem KB.grown {T base : Nat} {A B C : World} {row : Option Nat} (h : KB T base A B) (hg : B.grownBy C row) (hr : ∀ r, row = some r → base ≤ r) (hbB : base ≤ B.heap.size) : KB T base A C :=
  h.trans ⟨hg.os, hg.tape, hg.output, hg.size, fun i hi _ => hg.block i (by omega) (fun e => by have := hr i e.symm; omega)⟩
theorem KB.bx {T base X : Nat} {A B : World} {cs : Array Value} (h : KB T base A B) (hx : Bx A X cs) (hX : X < base) (hT : X ≠ T) : Bx B X cs := hx.kept (h.block X hX hT)
theorem KB.sees {T base n₀ : Nat} {A B : World} {a : Option Addr} {xs : List Value} (h : KB T base A B) (hs : Sees A n₀ a xs) (hT : n₀ ≤ T) (hb : n₀ ≤ base) : Sees B n₀ a xs := hs.below (h.below hT hb) (Nat.le_refl _)
theorem KB.put {T base l : Nat} {o' : Obj} (W : World) (h : base ≤ l) : KB T base W (W.putObj l o') :=
  KB.of_below (by exact ⟨rfl, rfl, rfl, by simp [World.putObj], fun i hi => World.putObj_heap_other (by omega)⟩)

theorem back_any (A : Option Addr) (n c : Nat) (w : World) : Calls Try.prog 16 #[.slice A n c] w fun e w' => e = .returned (.func (.func 20) #[] #[.pointer (some ⟨w.heap.size, 0, none⟩)]) ∧ w' = w.alloc (.cells #[.slice A n c] 24) := by
  have hmf : ∀ (fn : Fn) (first cap : Array Value) (w : World), (Instr.makeFunc fn first cap).run Try.prog w = .ok (.func fn first cap) w := fun _ _ _ _ => rfl
  go_enter Try.func16, Try.ntmps16
  go_wp2
  go_ret
  exact ⟨rfl, rfl⟩

set_option maxRecDepth 100000 in
set_option maxHeartbeats 2000000 in
/-- for every body that keeps what lay, but for one block -/
theorem back1_in (F : Fence) (N : Nat) (hf : F.fn 20) (hro : F.round = none) (hN : 1 ≤ N) (lo X T base n₀ : Nat) (l : List Pm) (A : Option Addr) (n c : Nat) (hl : l.length = n) (hn : n ≤ maxLen) (hX : X < base) (hXT : X ≠ T) (hT : n₀ ≤ T) (hb : n₀ ≤ base) (J Jx : List (Int × Pm) → World → Prop)
    (hY : ∀ pre x W, J pre W → pre.length < n → YieldAt F (N - 1) Try.prog lo #[.int .i64 x.1, .agg #[.int .i64 x.2.c, .int .i64 x.2.p]] W fun e W' =>
      (e = .returned (.bool true) ∧ J (pre ++ [x]) W' ∧ KB T base W W') ∨ (e = .returned (.bool false) ∧ Jx (pre ++ [x]) W'))
    (W : World) (cX : Bx W X #[.slice A n c]) (hs : Sees W n₀ A (pms l)) (h0 : J [] W) :
    CallsIn F N Try.prog 20 #[.func (.yield lo) #[] #[], .pointer (some ⟨X, 0, none⟩)] W fun e W' => (∃ v, e = .returned v) ∧
      ((∃ ys, ys = upB l n ∧ J ys W') ∨ (∃ pre, pre <+: upB l n ∧ Jx pre W')) := by
  unfold maxLen at hn
  have HL := Lib.hid hl
  clear hl
  have e1 : IntKind.i64.wrap ((n : Int) - 1) = (n : Int) - 1 := IntWalk.i64_in _ (by omega)
  have c0 := cX.c1
  refine callsIn_of_wp Try.func20 rfl hf ?_ hro
  simp only [Try.ntmps20, List.size_toArray, List.length_cons, List.length_nil, Nat.reduceAdd, Nat.reduceSub, Array.replicate_succ, Array.replicate_zero, List.push_toArray, List.append_toArray, List.nil_append, List.cons_append]
  gi_wp2
  gi_loopw [3] (fun x wr => ∃ (k : Nat) (z : Int), x = .int .i64 z ∧ z + k + 1 = n ∧ -1 ≤ z ∧ J (upB l k) wr ∧ Hid (Bx wr X #[.slice A n c] ∧ Sees wr n₀ A (pms l)))
    (fun x _ => (intOf x + 1).toNat)
  case atStart => exact ⟨0, (n : Int) - 1, rfl, by omega, by omega, h0, Lib.hid ⟨cX, hs⟩⟩
  case round =>
    clear c0 e1
    obtain ⟨k, z, rfl, hz, hz1, hJs, hM⟩ := hrel
    have c0 := hM.out.1.c1
    have e1 : IntKind.i64.wrap (z - 1) = z - 1 := IntWalk.i64_in _ (by omega)
    by_cases hlt : 0 ≤ z
    · obtain ⟨i, rfl⟩ : ∃ i : Nat, z = i := ⟨z.toNat, by omega⟩
      obtain ⟨q, hq⟩ : ∃ q, l[i]? = some q := ⟨_, List.getElem?_eq_getElem (by rw [HL.out]; omega)⟩
      obtain ⟨bb, o, rfl, hbb, k0, k1⟩ := pm_cells hM.out.2 i q hq
      obtain ⟨fn, tmps, assign, body, hy, hR⟩ := hY _ ((i : Int), q) wr hJs (by rw [upB_len]; omega)
      dsimp only at hy
      have HU := Lib.hid (upB_at l k i q (by rw [HL.out]; omega) hq)
      have i1 : (i : Int) < (n : Int) := by omega
      have HZ := Lib.hid hz
      clear hq hz
      gi_wp2
      refine hR.mono ?_
      rintro e W3 (⟨rfl, hJ3, hk3⟩ | ⟨rfl, hJx3⟩)
      · have HN := Lib.hid (And.intro (hk3.bx hM.out.1 hX hXT) (hk3.sees hM.out.2 hT hb))
        gi_wp2
        go_roundw
        case rel => exact ⟨k + 1, (i : Int) - 1, rfl, by have := HZ.out; simp only [Int.natCast_add]; omega, by omega, by rw [HU.out]; exact hJ3, HN⟩
        case measure => simp [intOf]
      · gi_wp2
        refine bodyPost_ret (results_none rfl _ _ _) rfl ?_
        refine ⟨⟨_, rfl⟩, .inr ⟨_, ?_, by rw [← HU.out] at hJx3; exact hJx3⟩⟩
        have h3 := HZ.out
        have e : upB l n = upB l (k + 1) ++ ((upB l n).drop (k + 1)) := by
          have h4 : upB l (k + 1) = (upB l n).take (k + 1) := by
            unfold upB
            rw [← List.map_take, List.take_range, Nat.min_eq_left (by omega)]
          rw [h4, List.take_append_drop]
        exact ⟨_, e.symm⟩
    · obtain rfl : k = n := by omega
      gi_wp2
      go_end0
      exact ⟨⟨_, rfl⟩, .inl hJs⟩

theorem back_stops (F : Fence) (N : Nat) (hf : F.fn 20) (hro : F.round = none) (hN : 1 ≤ N) (X T n₀ : Nat) (l : List Pm) (A : Option Addr) (n c : Nat) (w : World) (hl : l.length = n) (hn : n ≤ maxLen) (hXT : X ≠ T) (hT : n₀ ≤ T) (hb : n₀ ≤ w.heap.size)
    (cX : Bx w X #[.slice A n c]) (hs : Sees w n₀ A (pms l)) :
    SeqStopsK F N Try.prog 20 #[.pointer (some ⟨X, 0, none⟩)] (fun x : Int × Pm => #[Value.int .i64 x.1, .agg #[.int .i64 x.2.c, .int .i64 x.2.p]]) (KB T w.heap.size) (fun ys => ys = upB l n) (fun pre => pre <+: upB l n) n w := fun lo J Jx W hW _ _ hY h0 =>
  back1_in F N hf hro hN lo X T w.heap.size n₀ l A n c hl hn cX.lt hXT hT hb J Jx hY W (cX.next hW) (hs.below (hW.mono hb) (Nat.le_refl _)) h0

end Go.Proofs.Ytibolhdopeclmaa.Lgr
