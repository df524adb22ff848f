/- awake of layer 21: the document's example. -/
import Derived.Test.YtdmihhjbbodjoaaDoorPhaE
import Derived.Test.YtdmihhjbbodjoaaDoorPhaD
import Derived.Deep.DeepMust
namespace Go.Proofs.YtdmihhjbbodjoaaDoor.Pha
open Go.RowKit Go.Proofs.YtdmihhjbbodjoaaDoor.Plain Go.Proofs.YtdmihhjbbodjoaaDoor.PhaP Go.Proofs.YtdmihhjbbodjoaaDoor.Sees Go.Proofs.YtdmihhjbbodjoaaDoor.Open Go.Proofs.YtdmihhjbbodjoaaDoor.Box Go.Proofs.YtdmihhjbbodjoaaDoor.Held
set_option linter.unusedVariables false
set_option maxRecDepth 100000

theorem sees_bx {W : World} {b n₀ : Nat} {xs : List Value} (h : Bx W b xs.toArray) (hb : b < n₀) : Sees W n₀ (some ⟨b, 0, none⟩) xs :=
  .inr ⟨b, 0, rfl, hb, fun j u hu => by rw [Nat.zero_add]; exact h.cell (by simpa using hu)⟩
theorem ac_doc : Ac [[0, 0], [1, 1], [2, 2]] 2 := by
  refine ⟨by decide, fun j hj => ?_, fun _ => by decide⟩
  match j, hj with
  | 0, _ => decide
  | 1, _ => decide

/-- three rows of two in memory of the call's own -/
def w3 (w : World) (a b c d e f : Int) : World := (((w.alloc (.cells #[.int .i64 a, .int .i64 b] 3)).alloc (.cells #[.int .i64 c, .int .i64 d] 3)).alloc (.cells #[.int .i64 e, .int .i64 f] 3)).alloc
  (.cells #[.slice (some ⟨w.heap.size, 0, none⟩) 2 2, .slice (some ⟨w.heap.size + 1, 0, none⟩) 2 2, .slice (some ⟨w.heap.size + 2, 0, none⟩) 2 2] 22)
theorem doc_any (w : World) (h : Lay w) : Calls Tryd.prog 17 #[.slice (some ⟨w.heap.size + 3, 0, none⟩) 3 3] (w3 w 0 0 1 1 2 2) (On w (.int .i64 2)) := by
  have hj := (J.three w #[.int .i64 0, .int .i64 0] #[.int .i64 1, .int .i64 1] #[.int .i64 2, .int .i64 2] 3 3 3).push #[.slice (some ⟨w.heap.size, 0, none⟩) 2 2, .slice (some ⟨w.heap.size + 1, 0, none⟩) 2 2, .slice (some ⟨w.heap.size + 2, 0, none⟩) 2 2] 22
  have hsz : (((w.alloc (.cells #[.int .i64 0, .int .i64 0] 3)).alloc (.cells #[.int .i64 1, .int .i64 1] 3)).alloc (.cells #[.int .i64 2, .int .i64 2] 3)).heap.size = w.heap.size + 3 := by simp
  rw [hsz] at hj
  have b0 := hj.bx 3 rfl
  have b1 := hj.bx 2 rfl
  have b2 := hj.bx 1 rfl
  have b3 := hj.bx 0 rfl
  have hsz' : (w3 w 0 0 1 1 2 2).heap.size = w.heap.size + 4 := by unfold w3; simp
  refine on_says (w := w) (Lib.hid hj.below) (Accept_any [⟨some ⟨w.heap.size, 0, none⟩, 2, [0, 0]⟩, ⟨some ⟨w.heap.size + 1, 0, none⟩, 2, [1, 1]⟩, ⟨some ⟨w.heap.size + 2, 0, none⟩, 2, [2, 2]⟩] _ 3 3 2 _ (h.next hj.below) rfl (by unfold maxLen; omega)
    (sees_bx b3 b3.lt) (fun r hr => ?_) ac_doc)
  rcases List.mem_cons.1 hr with rfl | hr
  · exact ⟨sees_bx b0 b0.lt, by unfold maxLen; simp⟩
  rcases List.mem_cons.1 hr with rfl | hr
  · exact ⟨sees_bx b1 b1.lt, by unfold maxLen; simp⟩
  rcases List.mem_cons.1 hr with rfl | hr
  · exact ⟨sees_bx b2 b2.lt, by unfold maxLen; simp⟩
  cases hr

set_option maxHeartbeats 1600000 in
theorem awake_any (w : World) (h : Lay w) : Calls Tryd.prog 8 #[] w (Says w (.bool true)) := by
  have H1 : Hid (∀ W, Hid (Bw w W) → Calls Tryd.prog 11 #[.int .i64 1, .int .i64 2] W (On w (.bool true))) := Lib.hid fun W hW => on_same hW (May_any 1 2 W (h.bw hW.out))
  have H2 : Hid (∀ W, Hid (Bw w W) → Calls Tryd.prog 11 #[.int .i64 0, .int .i64 2] W (On w (.bool false))) := Lib.hid fun W hW => on_same hW (May_any 0 2 W (h.bw hW.out))
  have H3 : Hid (∀ W, Bw w W → Calls Tryd.prog 17 #[.slice (some ⟨W.heap.size + 3, 0, none⟩) 3 3] (w3 W 0 0 1 1 2 2) (On W (.int .i64 2))) := Lib.hid fun W hW => doc_any W (h.bw hW)
  have H4 : Hid (∀ W, Hid (Bw w W) → Calls Tryd.prog 9 #[.int .i64 5] W (On w (.string ⟨#[111, 117, 116]⟩))) := Lib.hid fun W hW => on_same hW (Name_any 5 W (h.bw hW.out))
  have K0 : Hid (Bw w w) := Lib.hid (Bw.refl w)
  unfold w3 at H3
  clear h
  go_enter Tryd.func8, Tryd.ntmps8
  go_wp2_with (first
    | (go_at_call 11; ((with_reducible refine (H1.out _ K0).mono ?_); clear H1; rintro e w1 ⟨rfl, K1⟩))
    | (go_at_call 11; ((with_reducible refine (H2.out _ K1).mono ?_); clear H2; rintro e w2 ⟨rfl, K2⟩))
    | (go_at_call 17; go_must (refine (H3.out _ K2.out).mono ?_); rintro e w4 ⟨rfl, K3⟩; have K4 := Lib.hid (K2.out.next K3.out))
    | (go_at_call 9; ((with_reducible refine (H4.out _ K4).mono ?_); rintro e w5 ⟨rfl, K5⟩)))
  go_ret
  exact ⟨rfl, K5.out⟩
end Go.Proofs.YtdmihhjbbodjoaaDoor.Pha
