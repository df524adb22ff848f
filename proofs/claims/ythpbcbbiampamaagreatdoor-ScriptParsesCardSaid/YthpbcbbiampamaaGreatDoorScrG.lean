/- An event's words, by its form. -/
import Derived.Test.YthpbcbbiampamaaGreatDoorScrF
namespace Go.Proofs.YthpbcbbiampamaaGreatDoor.Scr
open Go.RowKit Go.Maps Go.Proofs.YthpbcbbiampamaaGreatDoor.ScrP Go.Proofs.YthpbcbbiampamaaGreatDoor.Box Go.Proofs.YthpbcbbiampamaaGreatDoor.Held Go.Proofs.YthpbcbbiampamaaGreatDoor.Sees
set_option linter.unusedVariables false
set_option linter.unusedSimpArgs false
set_option maxRecDepth 100000

theorem j_grown {w W W' : World} {bs : List (Nat × Array Value)} {v : Value} (hj : J w W bs) (hg : W.grownBy W' v.ownBlock) (hB : ∀ g, v.ownBlock = some g → w.heap.size ≤ g) (hne : ∀ x ∈ bs, v.ownBlock ≠ some x.1) : J w W' bs :=
  ⟨hj.below.grown hg hj.below.size hB, fun x hx => (hj.at_ x hx).kept (hg.block _ (hj.at_ x hx).lt (fun e => hne x hx e.symm))⟩
def evv (e : E) : Value := .agg #[.int .i64 e.k, .int .i64 e.c, .int .i64 e.n]
theorem one_s (s : ByteArray) : ∀ u ∈ [Value.string s], u.oneCell' = true := by
  intro u hu
  simp at hu
  subst hu
  rfl
/-- behind an append of one word -/
structure Ap (w : World) (bs : List (Nat × Array Value)) (l : List By) (v : Value) (W : World) : Prop where
  own : W.ownsRow w.heap.size 9 1 v l.length (strs l)
  j : J w W bs
  ne : ∀ x ∈ bs, v.ownBlock ≠ some x.1
theorem Ap.next {w W W' : World} {bs : List (Nat × Array Value)} {l : List By} {v : Value} (h : Ap w bs l v W) (hb : Below W.heap.size W W') : Ap w bs l v W' :=
  ⟨own_below h.own hb fun k hk => (h.own.lt k hk).2, h.j.next hb, h.ne⟩
theorem Ap.alloc {w W : World} {bs : List (Nat × Array Value)} {l : List By} {v : Value} (h : Ap w bs l v W) (o : Obj) : Ap w bs l v (W.alloc o) := h.next below_box
theorem Ap.app {w W W' : World} {bs : List (Nat × Array Value)} {l r : List By} {v v' : Value} {n : Nat} (h : Ap w bs l v W) (hr : r.length = n) (ho : W'.ownsRow w.heap.size 9 1 v' (l.length + n) (strs l ++ strs r)) (hg : W.grownBy W' v.ownBlock) (hat : v'.ownBlock = v.ownBlock ∨ v'.ownBlock = some W.heap.size) : Ap w bs (l ++ r) v' W' := by
  refine ⟨?_, j_grown h.j hg (fun g hg => (h.own.lt g hg).1) h.ne, fun x hx => ?_⟩
  · rw [List.length_append, strs_app, hr]; exact ho
  · rcases hat with e | e
    · rw [e]; exact h.ne x hx
    · rw [e]
      intro e2
      have := (h.j.at_ x hx).lt
      injection e2 with e2
      omega

set_option maxHeartbeats 3200000 in
theorem Fput_any (k : Int) (wd : By) (b1 b2 : Bool) (e : E) (he : e.In) (w : World) (hE : Env w) :
    Calls Tryz.prog 20 #[fv (k, b1, b2), .string (S wd), evv e] w (Rw w 9 1 (wd :: ((if b1 then [Lib.itoa e.c] else []) ++ (if b2 then [Lib.itoa e.n] else []))).length (strs (wd :: ((if b1 then [Lib.itoa e.c] else []) ++ (if b2 then [Lib.itoa e.n] else []))))) := by
  obtain ⟨i1, hj, hy0, hy1, hy2⟩ := info_parts info_string
  have HC := Lib.hid (fun W (h : Env W) => Itoa_any e.c he.1 W h)
  have HN := Lib.hid (fun W (h : Env W) => Itoa_any e.n he.2 W h)
  have hj3 := J.three w #[.int .i64 k, .bool b1, .bool b2] #[.int .i64 e.k, .int .i64 e.c, .int .i64 e.n] #[.string (S wd)] 58 49 9
  have A0 : Hid (Ap w [(w.heap.size + 1, #[.int .i64 e.k, .int .i64 e.c, .int .i64 e.n]), (w.heap.size, #[.int .i64 k, .bool b1, .bool b2])] [wd] (.slice (some ⟨w.heap.size + 2, 0, none⟩) 1 1) _) := Lib.hid
    ⟨by
      have := World.ownsRow_lit (base := w.heap.size) (e := 9) (size := 1) ((w.alloc (.cells #[.int .i64 k, .bool b1, .bool b2] 58)).alloc (.cells #[.int .i64 e.k, .int .i64 e.c, .int .i64 e.n] 49)) #[.string (S wd)] 1 (by simp; omega) (by unfold maxLen; omega) rfl
      rw [show ((w.alloc (.cells #[.int .i64 k, .bool b1, .bool b2] 58)).alloc (.cells #[.int .i64 e.k, .int .i64 e.c, .int .i64 e.n] 49)).heap.size = w.heap.size + 2 by simp] at this
      exact this, hj3.less (fun x hx => List.mem_cons_of_mem _ hx), fun x hx => by
      simp only [List.mem_cons, List.not_mem_nil, or_false] at hx
      rcases hx with rfl | rfl <;> (simp only [Value.ownBlock]; intro e; injection e with e; omega)⟩
  have HE := Lib.hid hE
  have hEn : Hid (∀ W, Below w.heap.size w W → Env W) := Lib.hid fun W h => hE.next h
  clear hE hj3
  unfold fv evv
  simp only
  generalize hs1 : S wd = s1 at *
  generalize hs2 : S (Lib.itoa e.c) = s2 at *
  generalize hs3 : S (Lib.itoa e.n) = s3 at *
  have HS := Lib.hid (And.intro hs1 (And.intro hs2 hs3))
  clear hs1 hs2 hs3
  cases b1 <;> cases b2
  · go_enter Tryz.func20, Tryz.ntmps20
    go_wp2
    go_ret
    exact ⟨_, rfl, A0.out.own, A0.out.j.below⟩
  · go_enter Tryz.func20, Tryz.ntmps20
    go_wp2_with (first
      | (go_at_call 17; refine (HN.out _ (hEn.out _ A0.out.j.below)).mono ?_; rintro e' w1 ⟨rfl, h1⟩; have A1 := Lib.hid (A0.out.next h1); have A2 := Lib.hid (A1.out.alloc (.cells #[.string s3] 9)); have u1 := A2.out.own; have z1 := A0.out.j.below.size; have z2 := A1.out.j.below.size)
      | (at_builtin; refine wpList_append_own_at _ rfl (.tmp 20) (.tmp 24) 54 rfl w.heap.size 9 i1 (.string ByteArray.empty) 1 16 Tryz.underlying54 hj hy0 hy1 hy2 rfl (by omega) _ 1 _ rfl u1 ⟨w1.heap.size, 0, none⟩ 1 1 [.string s3] rfl rfl (new_cell _ _ _) (one_s _) (by unfold maxLen; omega) (by omega) (by simp; omega) ?_; intro v2 w2 hown2 hg2 _ hat2))
    go_ret
    have A3 := A2.out.app (r := [Lib.itoa e.n]) rfl (by have := hown2; rw [← HS.out.2.2] at this; exact this) hg2 hat2
    exact ⟨_, rfl, A3.own, A3.j.below⟩
  · go_enter Tryz.func20, Tryz.ntmps20
    go_wp2_with (first
      | (go_at_call 17; refine (HC.out _ (hEn.out _ A0.out.j.below)).mono ?_; rintro e' w1 ⟨rfl, h1⟩; have A1 := Lib.hid (A0.out.next h1); have A2 := Lib.hid (A1.out.alloc (.cells #[.string s2] 9)); have u1 := A2.out.own; have z1 := A0.out.j.below.size; have z2 := A1.out.j.below.size; obtain ⟨p0, p1, p2⟩ := (A2.out.j.bx 1 rfl).c3)
      | (at_builtin; refine wpList_append_own_at _ rfl (.tmp 12) (.tmp 16) 54 rfl w.heap.size 9 i1 (.string ByteArray.empty) 1 16 Tryz.underlying54 hj hy0 hy1 hy2 rfl (by omega) _ 1 _ rfl u1 ⟨w1.heap.size, 0, none⟩ 1 1 [.string s2] rfl rfl (new_cell _ _ _) (one_s _) (by unfold maxLen; omega) (by omega) (by simp; omega) ?_; intro v2 w2 hown2 hg2 _ hat2; have A3 := Lib.hid (A2.out.app (r := [Lib.itoa e.c]) rfl (by have := hown2; rw [← HS.out.2.1] at this; exact this) hg2 hat2); obtain ⟨p0, p1, p2⟩ := (A3.out.j.bx 1 rfl).c3))
    go_ret
    exact ⟨_, rfl, A3.out.own, A3.out.j.below⟩
  · go_enter Tryz.func20, Tryz.ntmps20
    go_wp2_with (first
      | (go_at_call 17; refine (HC.out _ (hEn.out _ A0.out.j.below)).mono ?_; clear HC; rintro e' w1 ⟨rfl, h1⟩; have A1 := Lib.hid (A0.out.next h1); have A2 := Lib.hid (A1.out.alloc (.cells #[.string s2] 9)); have u1 := A2.out.own; have z1 := A0.out.j.below.size; have z2 := A1.out.j.below.size; obtain ⟨p0, p1, p2⟩ := (A2.out.j.bx 1 rfl).c3)
      | (at_builtin; refine wpList_append_own_at _ rfl (.tmp 12) (.tmp 16) 54 rfl w.heap.size 9 i1 (.string ByteArray.empty) 1 16 Tryz.underlying54 hj hy0 hy1 hy2 rfl (by omega) _ 1 _ rfl u1 ⟨w1.heap.size, 0, none⟩ 1 1 [.string s2] rfl rfl (new_cell _ _ _) (one_s _) (by unfold maxLen; omega) (by omega) (by simp; omega) ?_; intro v2 w2 hown2 hg2 _ hat2; have A3 := Lib.hid (A2.out.app (r := [Lib.itoa e.c]) rfl (by have := hown2; rw [← HS.out.2.1] at this; exact this) hg2 hat2); clear u1; obtain ⟨p0, p1, p2⟩ := (A3.out.j.bx 1 rfl).c3; obtain ⟨r0, r1, r2⟩ := (A3.out.j.bx 0 rfl).c3; obtain ⟨t0, t1, t2⟩ := (A3.out.j.bx 1 rfl).c3)
      | (go_at_call 17; refine (HN.out _ (hEn.out _ A3.out.j.below)).mono ?_; rintro e' w3 ⟨rfl, h3⟩; have A4 := Lib.hid (A3.out.next h3); have A5 := Lib.hid (A4.out.alloc (.cells #[.string s3] 9)); have u5 := A5.out.own; have z5 := A3.out.j.below.size; have z4 := A4.out.j.below.size)
      | (at_builtin; refine wpList_append_own_at _ rfl (.tmp 20) (.tmp 24) 54 rfl w.heap.size 9 i1 (.string ByteArray.empty) 1 16 Tryz.underlying54 hj hy0 hy1 hy2 rfl (by omega) _ 2 _ rfl u5 ⟨w3.heap.size, 0, none⟩ 1 1 [.string s3] rfl rfl (new_cell _ _ _) (one_s _) (by unfold maxLen; omega) (by omega) (by simp; omega) ?_; intro v6 w6 hown6 hg6 _ hat6))
    go_ret
    have A7 := A5.out.app (r := [Lib.itoa e.n]) rfl (by have := hown6; rw [← HS.out.2.2] at this; exact this) hg6 hat6
    exact ⟨_, rfl, A7.own, A7.j.below⟩
end Go.Proofs.YthpbcbbiampamaaGreatDoor.Scr
