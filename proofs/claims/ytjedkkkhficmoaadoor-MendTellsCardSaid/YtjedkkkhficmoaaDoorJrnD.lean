/- Numbers two by two: the iterator's contract. -/
import Derived.Test.YtjedkkkhficmoaaDoorJrnC
import Derived.RangeFuncNested
import Derived.RangeFuncBound
import Derived.RangeFuncCalls
import Derived.RangeFuncLeaves
import Derived.Shelf.Abstract
import Derived.Shelf.RegionOpen
import Derived.WalkKit
import Derived.OwnWalkIn
import Derived.TacticsInMore
import Derived.LoopNIn
import Derived.LoopIn
import Derived.Maps.AppendAt
namespace Go.Proofs.YtjedkkkhficmoaaDoor.Jrn
open Go.RowKit Go.Shelf Go.Proofs.YtjedkkkhficmoaaDoor.Plain Go.Proofs.YtjedkkkhficmoaaDoor.Sees Go.Proofs.YtjedkkkhficmoaaDoor.Oct Go.Proofs.YtjedkkkhficmoaaDoor.Crc Go.Proofs.YtjedkkkhficmoaaDoor.Box Go.Proofs.YtjedkkkhficmoaaDoor.Held Go.Proofs.YtjedkkkhficmoaaDoor.JrnP
set_option linter.unusedVariables false
set_option maxRecDepth 100000
attribute [local go_sem] Oper.semAt_some

/-- all that lay below base, but block T, is as it was -/
structure KB (T base : Nat) (W W' : World) : Prop where
  os : W'.os = W.os
  tape : W'.tape = W.tape
  output : W'.output = W.output
  size : W.heap.size ≤ W'.heap.size
  block : ∀ i, i < base → i ≠ T → W'.heap[i]? = W.heap[i]?
theorem KB.refl (T base : Nat) (W : World) : KB T base W W := ⟨rfl, rfl, rfl, Nat.le_refl _, fun _ _ _ => rfl⟩
theorem KB.trans {T base : Nat} {A B C : World} (h : KB T base A B) (k : KB T base B C) : KB T base A C :=
  ⟨k.os.trans h.os, k.tape.trans h.tape, k.output.trans h.output, Nat.le_trans h.size k.size, fun i hi hn => (k.block i hi hn).trans (h.block i hi hn)⟩
theorem KB.below {T base n₀ : Nat} {A B : World} (h : KB T base A B) (hT : n₀ ≤ T) (hb : n₀ ≤ base) : Below n₀ A B :=
  ⟨h.os, h.tape, h.output, h.size, fun i hi => h.block i (by omega) (by omega)⟩
theorem KB.of_below {T base : Nat} {A B : World} (h : Below base A B) : KB T base A B := ⟨h.os, h.tape, h.output, h.size, fun i hi _ => h.block i hi⟩
theorem KB.set {T base : Nat} {A B : World} (h : KB T base A B) (j : Nat) (u : Value) : KB T base A (B.setCell ⟨T, j, none⟩ u) :=
  h.trans ⟨rfl, rfl, rfl, by simp [World.setCell], fun i _ hn => Below.heap_setCell B _ u i hn⟩
theorem KB.drew {T base : Nat} {A B : World} (h : KB T base A B) : KB T base A B.drew := h.trans ⟨rfl, rfl, rfl, Nat.le_refl _, fun _ _ _ => rfl⟩
theorem KB.grown {T base : Nat} {A B C : World} {row : Option Nat} (h : KB T base A B) (hg : B.grownBy C row) (hr : ∀ r, row = some r → base ≤ r) (hbB : base ≤ B.heap.size) : KB T base A C :=
  h.trans ⟨hg.os, hg.tape, hg.output, hg.size, fun i hi _ => hg.block i (by omega) (fun e => by have := hr i e.symm; omega)⟩
theorem KB.bx {T base X : Nat} {A B : World} {cs : Array Value} (h : KB T base A B) (hx : Bx A X cs) (hX : X < base) (hT : X ≠ T) : Bx B X cs := hx.kept (h.block X hX hT)
theorem KB.put {T base l : Nat} {o' : Obj} (W : World) (h : base ≤ l) : KB T base W (W.putObj l o') :=
  KB.of_below (by exact ⟨rfl, rfl, rfl, by simp [World.putObj], fun i hi => World.putObj_heap_other (by omega)⟩)
theorem KB.j {T base : Nat} {w A B : World} {bs : List (Nat × Array Value)} (h : KB T base A B) (hj : J w A bs) (hlt : ∀ x ∈ bs, x.1 < base ∧ x.1 ≠ T) (hT : w.heap.size ≤ T) (hb : w.heap.size ≤ base) : J w B bs :=
  ⟨hj.below.trans (h.below hT hb), fun x hx => h.bx (hj.at_ x hx) (hlt x hx).1 (hlt x hx).2⟩
theorem bx_grown {W W' : World} {X : Nat} {cs : Array Value} {row : Option Nat} (h : Bx W X cs) (hg : W.grownBy W' row) (hr : ∀ r, row = some r → ∃ o : Obj, W.heap[r]? = some o ∧ o.isCells = false) : Bx W' X cs := by
  obtain ⟨t, h⟩ := h
  refine ⟨t, (hg.block X (Array.getElem?_eq_some_iff.1 h).1 (fun e => ?_)).trans h⟩
  obtain ⟨o, ho, hc⟩ := hr X e.symm
  rw [h] at ho; cases ho; cases hc
theorem kb_own {β : Type} {T base B : Nat} {W₀ : World} (h0 : base ≤ W₀.heap.size) (hB : base ≤ B) : OwnFrom B (fun (_ : β) W => KB T base W₀ W) :=
  fun s X Y row hs hg hr => hs.grown hg (fun r e => Nat.le_trans hB (hr r e).1) (Nat.le_trans h0 hs.size)
theorem J.putObj {w W : World} {bs : List (Nat × Array Value)} (h : J w W bs) {D : Nat} {o o' : Obj} (hD : W.heap[D]? = some o) (ho : o.isCells = false) (hw : w.heap.size ≤ D) : J w (W.putObj D o') bs :=
  ⟨h.below.trans ⟨rfl, rfl, rfl, by simp [World.putObj], fun i hi => World.putObj_heap_other (by omega)⟩, fun x hx => bx_grown (h.at_ x hx) (grownBy_putObj' W D o') (fun r e => by cases e; exact ⟨o, hD, ho⟩)⟩

/-- what has come when k rounds are over -/
def upC (q k : Nat) : List (Fin q) := (List.finRange q).take k
theorem upC_len {q k : Nat} (h : k ≤ q) : (upC q k).length = k := by simp [upC]; omega
theorem upC_succ {q k : Nat} (h : k < q) : upC q (k + 1) = upC q k ++ [⟨k, h⟩] := by
  unfold upC
  rw [List.take_add_one, List.getElem?_eq_getElem (by simpa using h)]
  simp
theorem upC_all (q : Nat) : upC q q = List.finRange q := by unfold upC; exact List.take_of_length_le (by simp)

theorem chunk_any (A : Option Addr) (n c : Nat) (w : World) : Calls Tryd.prog 60 #[.slice A n c, .int .i64 2] w fun e w' => e = .returned (.func (.func 67) #[] #[.pointer (some ⟨w.heap.size, 0, none⟩), .pointer (some ⟨w.heap.size + 1, 0, none⟩)]) ∧ w' = (w.alloc (.cells #[.slice A n c] 89)).alloc (.cells #[.int .i64 2] 3) := by
  have hmf : ∀ (fn : Fn) (first cap : Array Value) (w : World), (Instr.makeFunc fn first cap).run Tryd.prog w = .ok (.func fn first cap) w := fun _ _ _ _ => rfl
  go_enter Tryd.func60, Tryd.ntmps60
  go_wp2
  go_ret
  exact ⟨rfl, rfl⟩

/-- the k-th two -/
def two (A : Option Addr) (k : Nat) : Value := .slice (A.map (·.add (2 * k))) 2 2
/-- numbers cut at their head; two of them -/
theorem slice_loN (A : Option Addr) (n cap s : Nat) (h : s ≤ n) : ∃ A3 : Option Addr, ∀ W, (Instr.slice 89 (.slice A n cap) (some (.int .i64 (s : Int))) none none).run Tryd.prog W = .ok (.slice A3 (n - s) (cap - s)) W := by
  have hu : Tryd.prog.underlying 89 = some (.slice (Tryd.prog.elem 89)) := by kernel_rfl
  refine ⟨if cap = s then A else A.map (·.add s), fun W => ?_⟩
  have hs : (sizeOf (Tryd.prog.elem 89)).run Tryd.prog W = .ok 1 W := by kernel_rfl
  rw [run_slice_l W 89 A n cap hu .i64 (s : Int) (by omega) (by omega), hs]
  simp [Result.andThen, sliced]
theorem slice_two (A : Option Addr) (n cap k s e : Nat) (hs : 2 * k = s) (he : s + 2 = e) (hc : e ≤ cap) (W : World) : (Instr.slice 89 (.slice A n cap) (some (.int .i64 (s : Int))) (some (.int .i64 (e : Int))) (some (.int .i64 (e : Int)))).run Tryd.prog W = .ok (two A k) W := by
  have hu : Tryd.prog.underlying 89 = some (.slice (Tryd.prog.elem 89)) := by kernel_rfl
  have hz : (sizeOf (Tryd.prog.elem 89)).run Tryd.prog W = .ok 1 W := by kernel_rfl
  rw [run_slice_lhm W 89 A n cap hu .i64 .i64 .i64 (s : Int) (e : Int) (e : Int) (by omega) (by omega) (by omega) (by omega), hz]
  unfold two
  simp only [Result.andThen, sliced]
  simp [hs]
  omega

set_option maxHeartbeats 3200000 in
/-- for every body that keeps what lay, but for one block -/
theorem chunk1_in (F : Fence) (N : Nat) (hf : F.fn 67) (hro : F.round = none) (hN : 1 ≤ N) (lo X Y T base : Nat) (q : Nat) (A : Option Addr) (n c : Nat) (hq : 2 * q = n) (hn : n ≤ 1000000) (hc : n ≤ c) (hX : X < base) (hXT : X ≠ T) (hY' : Y < base) (hYT : Y ≠ T) (J Jx : List (Fin q) → World → Prop)
    (hY : ∀ pre x W, J pre W → pre.length < q → YieldAt F (N - 1) Tryd.prog lo #[two A x.1] W fun e W' =>
      (e = .returned (.bool true) ∧ J (pre ++ [x]) W' ∧ KB T base W W') ∨ (e = .returned (.bool false) ∧ Jx (pre ++ [x]) W'))
    (hd : ∀ pre W, J pre W → J pre W.drew)
    (W : World) (cX : Bx W X #[.slice A n c]) (cY : Bx W Y #[.int .i64 2]) (h0 : J [] W) :
    CallsIn F N Tryd.prog 67 #[.func (.yield lo) #[] #[], .pointer (some ⟨X, 0, none⟩), .pointer (some ⟨Y, 0, none⟩)] W fun e W' => (∃ v, e = .returned v) ∧
      ((∃ ys, ys = upC q q ∧ J ys W') ∨ (∃ pre, pre <+: upC q q ∧ Jx pre W')) := by
  refine callsIn_of_wp Tryd.func67 rfl hf ?_ hro
  simp only [Tryd.ntmps67, List.size_toArray, List.length_cons, List.length_nil, Nat.reduceAdd, Nat.reduceSub, Array.replicate_succ, Array.replicate_zero, List.push_toArray, List.append_toArray, List.nil_append, List.cons_append]
  gi_wp2
  gi_loopw [4] (fun x wr => ∃ k s : Nat, x = .int .i64 s ∧ Hid (2 * k = s) ∧ k ≤ q ∧ J (upC q k) wr ∧ Hid (Bx wr X #[.slice A n c] ∧ Bx wr Y #[.int .i64 2]))
    (fun x _ => n - (intOf x).toNat)
  case atStart => exact ⟨0, 0, rfl, Lib.hid rfl, Nat.zero_le _, h0, Lib.hid ⟨cX, cY⟩⟩
  case round =>
    obtain ⟨k, s, rfl, hs, hk, hJs, hM⟩ := hrel
    have c0 := hM.out.1.c1
    have c1 := hM.out.2.c1
    by_cases hlt : s < n
    · obtain ⟨e, he⟩ : ∃ e, s + 2 = e := ⟨_, rfl⟩
      have hen : e ≤ n := by have := hs.out; omega
      obtain ⟨A3, k1⟩ := slice_loN A n c s (by omega)
      have k2 := slice_two A n c k s e hs.out he (by omega)
      have e1 : IntKind.i64.wrap ((s : Int) + 2) = (e : Int) := by rw [IntWalk.i64_in _ (by omega)]; omega
      obtain ⟨r, hr⟩ : ∃ r, n - s = r := ⟨_, rfl⟩
      rw [hr] at k1
      have mn : ∀ W, (Builtin.min_ #[3, 3] 3 #[.int .i64 2, .int .i64 (r : Int)]).run Tryd.prog W = .ok (.int .i64 2) W := fun W => by
        rw [run_min_int2]; congr 2; split <;> omega
      have hkq : k < q := by have := hs.out; omega
      obtain ⟨fn, tmps, assign, body, hy, hR⟩ := hY _ ⟨k, hkq⟩ wr.drew (hd _ _ hJs) (by rw [upC_len hk]; exact hkq)
      have HE := Lib.hid he
      have HU := Lib.hid (upC_succ hkq)
      clear he hr
      gi_wp2
      gi_region
      all_goals
        gi_wp2
        refine hR.mono ?_
        rintro e W3 (⟨rfl, hJ3, hk3⟩ | ⟨rfl, hJx3⟩)
        · have HN := Lib.hid (And.intro (hk3.bx hM.out.1.drew hX hXT) (hk3.bx hM.out.2.drew hY' hYT))
          have c1' := HN.out.2.c1
          gi_wp2
          go_roundw
          case rel => exact ⟨k + 1, e, rfl, Lib.hid (by have := hs.out; have := HE.out; omega), hkq, by rw [HU.out]; exact hJ3, HN⟩
          case measure => have := HE.out; simp [intOf]; omega
        · gi_wp2
          refine bodyPost_ret (results_none rfl _ _ _) rfl ?_
          refine ⟨⟨_, rfl⟩, .inr ⟨_, ?_, by rw [← HU.out] at hJx3; exact hJx3⟩⟩
          have h4 : upC q (k + 1) = (upC q q).take (k + 1) := by
            rw [upC_all]
            rfl
          rw [h4]
          exact List.take_prefix _ _
    · obtain rfl : k = q := by have := hs.out; omega
      gi_wp2
      go_end0
      exact ⟨⟨_, rfl⟩, .inl ⟨_, rfl, hJs⟩⟩

end Go.Proofs.YtjedkkkhficmoaaDoor.Jrn
