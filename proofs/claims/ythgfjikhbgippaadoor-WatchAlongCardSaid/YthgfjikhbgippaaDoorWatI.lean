/- awake of layer 25: the document's example. -/
import Derived.Test.YthgfjikhbgippaaDoorWatH
namespace Go.Proofs.YthgfjikhbgippaaDoor.Wat
open Go.RowKit Go.Proofs.YthgfjikhbgippaaDoor.Plain Go.Proofs.YthgfjikhbgippaaDoor.WatP Go.Proofs.YthgfjikhbgippaaDoor.OrdP Go.Proofs.YthgfjikhbgippaaDoor.PhaP Go.Proofs.YthgfjikhbgippaaDoor.FedP Go.Proofs.YthgfjikhbgippaaDoor.Open Go.Proofs.YthgfjikhbgippaaDoor.Sees Go.Proofs.YthgfjikhbgippaaDoor.Box Go.Proofs.YthgfjikhbgippaaDoor.Held Go.Proofs.YthgfjikhbgippaaDoor.Pha Go.Proofs.YthgfjikhbgippaaDoor.Ato
open Go.Proofs.YthgfjikhbgippaaDoor.Fed (hs hs_succ an_hs karr kval)
set_option linter.unusedVariables false
set_option linter.unusedSimpArgs false
set_option maxRecDepth 100000

theorem sees_bx {W : World} {b n₀ : Nat} {xs : List Value} (h : Bx W b xs.toArray) (hb : b < n₀) : Sees W n₀ (some ⟨b, 0, none⟩) xs :=
  .inr ⟨b, 0, rfl, hb, fun j u hu => by rw [Nat.zero_add]; exact h.cell (by simpa using hu)⟩
def f0 : Fc := ⟨2, 5, 4, ⟨none, 0, []⟩, 2⟩
theorem rok_nil (W : World) : Rok W ⟨none, 0, []⟩ := ⟨.inl rfl, Nat.zero_le _⟩
/-- the example as one fact in new memory -/
theorem sh_one (W : World) : Sh (W.alloc (.cells #[.int .i64 2, .int .i64 5, .int .i64 4, .slice none 0 0, .int .u64 2] 40)) (some ⟨W.heap.size, 0, none⟩) [f0] :=
  ⟨sees_bx (Bx.new W _ _) (Bx.new W #[.int .i64 2, .int .i64 5, .int .i64 4, .slice none 0 0, .int .u64 2] 40).lt, fun x hx => by rw [List.mem_singleton.1 hx]; exact rok_nil _, fun x hx => by rw [List.mem_singleton.1 hx]; decide⟩
theorem sh_nil (W : World) : Sh W none [] := ⟨.inl rfl, fun x hx => (by cases hx), fun x hx => (by cases hx)⟩
theorem e_over : Fi (ov 0 [f0]) 0 1 0 := Fi.here (by decide) (by decide)
theorem e_breaks : Fi (br [f0]) 0 1 (-1) := (Fi.none _ (Nat.le_refl 1)).on (by decide)
theorem e_one : Fi (rst [f0] 1) 0 1 0 := Fi.here (by decide) (by decide)
theorem e_none : Fi (rst [f0] 0) 0 1 (-1) := (Fi.none _ (Nat.le_refl 1)).on (by decide)
/-- the watch, and the fact -/
def AW (w : World) (X : Nat) (T : List Int) (b : Bool) (v : Value) (d : Int) (W : World) : Prop := J w W [(w.heap.size, #[.int .i64 2, .int .i64 5, .int .i64 4, .slice none 0 0, .int .u64 2]), (X, wc 0 T b v d)]
theorem AW.on {w W W' : World} {X : Nat} {T : List Int} {b : Bool} {v : Value} {d : Int} (h : AW w X T b v d W) (k : Below W.heap.size W W') : AW w X T b v d W' := J.next h k
theorem awake_new (w : World) : Calls Tryd.prog 15 #[.int .i64 0] (w.alloc (.cells #[.int .i64 2, .int .i64 5, .int .i64 4, .slice none 0 0, .int .u64 2] 40)) fun e w' => ∃ X, e = .returned (.pointer (some ⟨X, 0, none⟩)) ∧ Hid ((w.alloc (.cells #[.int .i64 2, .int .i64 5, .int .i64 4, .slice none 0 0, .int .u64 2] 40)).heap.size ≤ X) ∧ Hid (J (w.alloc (.cells #[.int .i64 2, .int .i64 5, .int .i64 4, .slice none 0 0, .int .u64 2] 40)) w' [(X, wc 0 (kt 0 []) false (RowN.val ⟨none, 0, []⟩) 0)]) ∧ Hid (AW w X (kt 0 []) false (.slice none 0 0) 0 w') := by
  refine (wNew_any 0 0 (by decide) _).mono ?_
  rintro e w' ⟨X, rfl, h1, h2⟩
  have h3 : J (w.alloc (.cells #[.int .i64 2, .int .i64 5, .int .i64 4, .slice none 0 0, .int .u64 2] 40)) w' [(X, wc 0 (kt 0 []) false (RowN.val ⟨none, 0, []⟩) 0)] := h2.out
  exact ⟨X, rfl, Lib.hid h1, Lib.hid h3, Lib.hid (J.less (((J.one w #[.int .i64 2, .int .i64 5, .int .i64 4, .slice none 0 0, .int .u64 2] 40).next h3.below).more (h3.bx 0 rfl)) (bs' := [(w.heap.size, #[.int .i64 2, .int .i64 5, .int .i64 4, .slice none 0 0, .int .u64 2]), (X, wc 0 (kt 0 []) false (.slice none 0 0) 0)]) (fun x hx => by simp only [List.mem_cons, List.not_mem_nil, or_false] at hx ⊢; rcases hx with rfl | rfl; exact .inr rfl; exact .inl rfl))⟩
theorem awake_tell (w W : World) (X : Nat) (hL : Lay w) (hX : Hid ((w.alloc (.cells #[.int .i64 2, .int .i64 5, .int .i64 4, .slice none 0 0, .int .u64 2] 40)).heap.size ≤ X)) (hJ : Hid (J (w.alloc (.cells #[.int .i64 2, .int .i64 5, .int .i64 4, .slice none 0 0, .int .u64 2] 40)) W [(X, wc 0 (kt 0 []) false (RowN.val ⟨none, 0, []⟩) 0)])) :
    Calls Tryd.prog 16 #[.pointer (some ⟨X, 0, none⟩), .agg #[.int .i64 2, .int .i64 5, .int .i64 4, .slice none 0 0, .int .u64 2]] W fun e w' => ∃ v, e = .returned (.bool false) ∧ Hid (AW w X (kt 0 (kx f0 [])) true v 1 w') := by
  refine (tell_any 0 (by decide) [] X _ W hX.out (hL.next below_box) false ⟨none, 0, []⟩ (fun h => by cases h) 0 (by decide) f0 (rok_nil _) (by decide) hJ.out 1 (by decide)).mono ?_
  rintro e w' ⟨r, h1, rfl, h2, h3⟩
  exact ⟨r.val, rfl, Lib.hid (J.less (((J.one w #[.int .i64 2, .int .i64 5, .int .i64 4, .slice none 0 0, .int .u64 2] 40).next h2.out.below).more (h2.out.bx 0 rfl)) (bs' := [(w.heap.size, #[.int .i64 2, .int .i64 5, .int .i64 4, .slice none 0 0, .int .u64 2]), (X, wc 0 (kt 0 (kx f0 [])) true r.val 1)]) (fun x hx => by simp only [List.mem_cons, List.not_mem_nil, or_false] at hx ⊢; rcases hx with rfl | rfl; exact .inr rfl; exact .inl rfl))⟩
theorem one_on {f : FuncId} {args : Array Value} {W : World} {v : Value} (h : Calls Tryd.prog f args (W.alloc (.cells #[.int .i64 2, .int .i64 5, .int .i64 4, .slice none 0 0, .int .u64 2] 40)) (Says (W.alloc (.cells #[.int .i64 2, .int .i64 5, .int .i64 4, .slice none 0 0, .int .u64 2] 40)) v)) : Calls Tryd.prog f args (W.alloc (.cells #[.int .i64 2, .int .i64 5, .int .i64 4, .slice none 0 0, .int .u64 2] 40)) (Says W v) :=
  h.mono fun e w' ⟨h1, h2⟩ => ⟨h1, below_box.trans (h2.mono (by simp))⟩

set_option maxHeartbeats 3200000 in
theorem awake_any (w : World) (h : Lay w) : Calls Tryd.prog 6 #[] w (Says w (.bool true)) := by
  have HN := Lib.hid (awake_new w)
  have HT := Lib.hid fun X W hX hJ => awake_tell w W X h hX hJ
  have H1 : Hid (∀ W, Calls Tryd.prog 11 #[.int .i64 0, .slice (some ⟨W.heap.size, 0, none⟩) 1 1] (W.alloc (.cells #[.int .i64 2, .int .i64 5, .int .i64 4, .slice none 0 0, .int .u64 2] 40)) (Says W (.int .i64 0))) := Lib.hid fun W => one_on (Over_any 0 0 (by decide) [f0] _ 1 1 _ rfl (by decide) (sh_one W) 0 e_over)
  have H2 : Hid (∀ W, Calls Tryd.prog 11 #[.int .i64 0, .slice none 0 0] W (Says W (.int .i64 (-1)))) := Lib.hid fun W => Over_any 0 0 (by decide) [] none 0 0 W rfl (by decide) (sh_nil W) (-1) (Fi.none _ (Nat.le_refl 0))
  have H3 : Hid (∀ W, Hid (Bw w W) → Calls Tryd.prog 12 #[.slice (some ⟨W.heap.size, 0, none⟩) 1 1] (W.alloc (.cells #[.int .i64 2, .int .i64 5, .int .i64 4, .slice none 0 0, .int .u64 2] 40)) (Says W (.int .i64 (-1)))) := Lib.hid fun W hW => one_on (Breaks_any [f0] _ 1 1 _ ((h.bw hW.out).next below_box) rfl (by decide) (sh_one W) (-1) e_breaks)
  have H4 : Hid (∀ W, Calls Tryd.prog 13 #[.int .i64 1, .int .i64 0, .slice (some ⟨W.heap.size, 0, none⟩) 1 1] (W.alloc (.cells #[.int .i64 2, .int .i64 5, .int .i64 4, .slice none 0 0, .int .u64 2] 40)) (Says W (.int .i64 0))) := Lib.hid fun W => one_on (Frees_any [f0] _ 1 1 1 0 (by decide) 0 rfl _ rfl (by decide) (sh_one W) 0 e_one)
  have H5 : Hid (∀ W, Calls Tryd.prog 13 #[.int .i64 0, .int .i64 0, .slice (some ⟨W.heap.size, 0, none⟩) 1 1] (W.alloc (.cells #[.int .i64 2, .int .i64 5, .int .i64 4, .slice none 0 0, .int .u64 2] 40)) (Says W (.int .i64 (-1)))) := Lib.hid fun W => one_on (Frees_any [f0] _ 1 1 0 0 (by decide) 0 rfl _ rfl (by decide) (sh_one W) (-1) e_none)
  clear h
  go_enter Tryd.func6, Tryd.ntmps6
  go_wp2_with (first
    | (go_at_call 15; ((with_reducible refine HN.out.mono ?_); clear HN; rintro e w1 ⟨X, rfl, hX, hJ, hA⟩; obtain ⟨a0, a1, a2, a3, a4⟩ := Bx.c5 (J.bx hA.out 0 rfl)))
    | (go_at_call 16; ((with_reducible refine (HT.out _ _ hX hJ).mono ?_); clear HT; rintro e w2 ⟨v, rfl, hB⟩; obtain ⟨b0, b1, b2, b3, b4⟩ := Bx.c5 (J.bx hB.out 0 rfl); clear a0 a1 a2 a3 a4))
    | (go_at_call 11; ((with_reducible refine (H1.out _).mono ?_); clear H1; rintro e w3 ⟨rfl, k3⟩; have h3 := Lib.hid (hB.out.on k3)))
    | (go_at_call 11; ((with_reducible refine (H2.out _).mono ?_); clear H2; rintro e w4 ⟨rfl, k4⟩; have h4 := Lib.hid (h3.out.on k4); have hbw : Hid (Bw w w4) := Lib.hid (J.below h4.out); obtain ⟨d0, d1, d2, d3, d4⟩ := Bx.c5 (J.bx h4.out 0 rfl)))
    | (go_at_call 12; ((with_reducible refine (H3.out _ hbw).mono ?_); clear H3; rintro e w5 ⟨rfl, k5⟩; have h5 := Lib.hid (h4.out.on k5); obtain ⟨g0, g1, g2, g3, g4⟩ := Bx.c5 (J.bx h5.out 0 rfl)))
    | (go_at_call 13; ((with_reducible refine (H4.out _).mono ?_); clear H4; rintro e w6 ⟨rfl, k6⟩; have h6 := Lib.hid (h5.out.on k6); obtain ⟨l0, l1, l2, l3, l4⟩ := Bx.c5 (J.bx h6.out 0 rfl)))
    | (go_at_call 13; ((with_reducible refine (H5.out _).mono ?_); clear H5; rintro e w7 ⟨rfl, k7⟩; have h7 := Lib.hid (h6.out.on k7); have k11 := (J.bx h7.out 1 rfl).cell (j := 11) rfl))
    | (go_at_call 17; refine (bad_any X 1 _ k11).mono ?_; rintro e w' ⟨rfl, rfl⟩))
  go_ret
  exact ⟨rfl, J.below h7.out⟩
end Go.Proofs.YthgfjikhbgippaaDoor.Wat
