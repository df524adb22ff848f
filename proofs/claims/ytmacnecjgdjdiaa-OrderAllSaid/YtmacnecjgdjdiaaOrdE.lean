/- awake of layer 19; Next and Left at letters. -/
import Derived.Test.YtmacnecjgdjdiaaOrdC
import Derived.Test.YtmacnecjgdjdiaaOrdR
import Derived.Test.YtmacnecjgdjdiaaOpen
namespace Go.Proofs.Ytmacnecjgdjdiaa.Ord
open Go.RowKit Go.Proofs.Ytmacnecjgdjdiaa.Plain Go.Proofs.Ytmacnecjgdjdiaa.OrdP Go.Proofs.Ytmacnecjgdjdiaa.Sees Go.Proofs.Ytmacnecjgdjdiaa.Box Go.Proofs.Ytmacnecjgdjdiaa.Held
set_option linter.unusedVariables false

/-- memory alone was made since w -/
def Bw (w W : World) : Prop := Below w.heap.size w W
theorem Bw.refl (w : World) : Bw w w := Below.refl _ _
theorem Bw.next {w W W' : World} (h : Bw w W) (k : Below W.heap.size W W') : Bw w W' := below_more h k (Nat.le_refl _)
/-- a call that answers v and makes memory alone -/
def On (w : World) (v : Value) (e : Ending) (w' : World) : Prop := e = .returned v ∧ Hid (Bw w w')
theorem on_says {f : FuncId} {args : Array Value} {w W : World} {v : Value} (hW : Hid (Bw w W)) (h : Calls Try.prog f args W (Says W v)) : Calls Try.prog f args W (On w v) :=
  h.mono fun e w' ⟨h1, h2⟩ => ⟨h1, Lib.hid (hW.out.next h2)⟩
theorem on_same {f : FuncId} {args : Array Value} {w W : World} {v : Value} (hW : Hid (Bw w W)) (h : Calls Try.prog f args W fun e w' => e = .returned v ∧ W = w') : Calls Try.prog f args W (On w v) :=
  h.mono fun e w' ⟨h1, h2⟩ => ⟨h1, h2 ▸ hW⟩
theorem sees_bw {w W : World} {A : Option Addr} {xs : List Value} (h : Sees w w.heap.size A xs) (hW : Bw w W) : Sees W W.heap.size A xs := (h.below hW (Nat.le_refl _)).more hW.size
theorem sees_bx {W : World} {b n₀ : Nat} {xs : List Value} (h : Bx W b xs.toArray) (hb : b < n₀) : Sees W n₀ (some ⟨b, 0, none⟩) xs :=
  .inr ⟨b, 0, rfl, hb, fun j u hu => by rw [Nat.zero_add]; exact h.cell (by simpa using hu)⟩

theorem next_on {w : World} {l : List Int} {A : Option Addr} {n c : Nat} (hl : l.length = n) (hn : n ≤ 1000) (hs : Sees w w.heap.size A (nums .i64 l)) (d o : Nat) (hd : d < 18446744073709551616) (ho : o < 18446744073709551616) (x : Int) (hx : nx d o l = x) (W : World) (hW : Hid (Bw w W)) :
    Calls Try.prog 11 #[.slice A n c, .int .u64 d, .int .u64 o] W (On w (.int .i64 x)) :=
  on_says hW (hx ▸ Next_any d o l A n c W hd ho hl (by unfold maxLen; omega) (sees_bw hs hW.out))
theorem left_on {w : World} {l : List Int} {A : Option Addr} {n c : Nat} (hl : l.length = n) (hn : n ≤ 1000) (hs : Sees w w.heap.size A (nums .i64 l)) (d o : Nat) (hd : d < 18446744073709551616) (ho : o < 18446744073709551616) (x : Nat) (hx : lf d o l = x) (W : World) (hW : Hid (Bw w W)) :
    Calls Try.prog 12 #[.slice A n c, .int .u64 d, .int .u64 o] W (On w (.int .i64 x)) :=
  on_says hW (hx ▸ Left_any d o l A n c W hd ho hl (by unfold maxLen; omega) (sees_bw hs hW.out))

set_option maxHeartbeats 1600000 in
theorem awake_any (w : World) : Calls Try.prog 7 #[] w (Says w (.bool true)) := by
  have hs : Sees (w.alloc (.cells #[.int .i64 2, .int .i64 0, .int .i64 1] 3)) (w.alloc (.cells #[.int .i64 2, .int .i64 0, .int .i64 1] 3)).heap.size (some ⟨w.heap.size, 0, none⟩) (nums .i64 [2, 0, 1]) := sees_bx (Bx.new w _ _) (by simp)
  have hb : Below w.heap.size w (w.alloc (.cells #[.int .i64 2, .int .i64 0, .int .i64 1] 3)) := below_box
  obtain ⟨w0, hw0⟩ : ∃ w0, w.alloc (.cells #[.int .i64 2, .int .i64 0, .int .i64 1] 3) = w0 := ⟨_, rfl⟩
  rw [hw0] at hs hb
  have K0 : Hid (Bw w0 (w.alloc (.cells #[.int .i64 2, .int .i64 0, .int .i64 1] 3))) := Lib.hid (hw0 ▸ Bw.refl _)
  have H1 : Hid (∀ W, Hid (Bw w0 W) → Calls Try.prog 11 #[.slice (some ⟨w.heap.size, 0, none⟩) 3 3, .int .u64 4, .int .u64 0] W (On w0 (.int .i64 0))) := Lib.hid fun W hW => next_on (l := [2, 0, 1]) rfl (by decide) hs 4 0 (by decide) (by decide) 0 (by decide +kernel) W hW
  have H2 : Hid (∀ W, Hid (Bw w0 W) → Calls Try.prog 11 #[.slice (some ⟨w.heap.size, 0, none⟩) 3 3, .int .u64 4, .int .u64 1] W (On w0 (.int .i64 1))) := Lib.hid fun W hW => next_on (l := [2, 0, 1]) rfl (by decide) hs 4 1 (by decide) (by decide) 1 (by decide +kernel) W hW
  have H3 : Hid (∀ W, Hid (Bw w0 W) → Calls Try.prog 12 #[.slice (some ⟨w.heap.size, 0, none⟩) 3 3, .int .u64 4, .int .u64 0] W (On w0 (.int .i64 2))) := Lib.hid fun W hW => left_on (l := [2, 0, 1]) rfl (by decide) hs 4 0 (by decide) (by decide) 2 (by decide +kernel) W hW
  have H4 : Hid (∀ W, Calls Try.prog 14 #[.int .u64 0, .int .i64 2] W fun e w' => e = .returned (.int .u64 4) ∧ W = w') := Lib.hid fun W => With_any 0 2 W (by decide)
  have H5 : Hid (∀ W, Hid (Bw w0 W) → Calls Try.prog 11 #[.slice (some ⟨w.heap.size, 0, none⟩) 3 3, .int .u64 7, .int .u64 0] W (On w0 (.int .i64 (-1)))) := Lib.hid fun W hW => next_on (l := [2, 0, 1]) rfl (by decide) hs 7 0 (by decide) (by decide) (-1) (by decide +kernel) W hW
  have HB := Lib.hid hb
  clear hs hb hw0
  go_enter Try.func7, Try.ntmps7
  go_wp2_with (first
    | (go_at_call 11; ((with_reducible refine (H1.out _ K0).mono ?_); clear H1; rintro e w1 ⟨rfl, K1⟩))
    | (go_at_call 11; ((with_reducible refine (H2.out _ K1).mono ?_); clear H2; rintro e w2 ⟨rfl, K2⟩))
    | (go_at_call 12; ((with_reducible refine (H3.out _ K2).mono ?_); rintro e w3 ⟨rfl, K3⟩))
    | (go_at_call 14; refine (H4.out _).mono ?_; rintro e w' ⟨rfl, rfl⟩)
    | (go_at_call 11; ((with_reducible refine (H5.out _ K3).mono ?_); rintro e w4 ⟨rfl, K4⟩)))
  go_ret
  exact ⟨rfl, below_more HB.out K4.out (Nat.le_refl _)⟩
end Go.Proofs.Ytmacnecjgdjdiaa.Ord
