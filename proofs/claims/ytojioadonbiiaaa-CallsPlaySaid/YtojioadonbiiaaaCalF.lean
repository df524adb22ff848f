/- Contracts of calls' copied, New, Hall, Car, Done: what is told lies in new memory. -/
import Derived.Test.YtojioadonbiiaaaCalE
namespace Go.Proofs.Ytojioadonbiiaaa.Cal
open Go.RowKit Go.Proofs.Ytojioadonbiiaaa.Sees Go.Proofs.Ytojioadonbiiaaa.CalP Go.Proofs.Ytojioadonbiiaaa.Box Go.Proofs.Ytojioadonbiiaaa.Held
set_option linter.unusedVariables false

theorem info_u32 : (Try.prog.info? 23).map (fun i => (i.zero, i.size, i.bytes)) = some (some (.int .u32 0), 1, 4) := by kernel_rfl
theorem jrow {w W : World} {bs : List (Nat × Array Value)} {X : Nat} {cs : Array Value} (h : J w W ((X, cs) :: bs)) (cs' : Array Value) (hX : w.heap.size ≤ X) (hne : ∀ x ∈ bs, x.1 ≠ X) : J w (W.setRow X cs') ((X, cs') :: bs) := by
  refine ⟨below_setRow h.below hX cs', fun x hx => ?_⟩
  rcases List.mem_cons.1 hx with rfl | hx
  · obtain ⟨t, ht⟩ := h.at_ (X, cs) List.mem_cons_self
    exact ⟨t, setRow_heap W X _ _ t _ ht⟩
  · exact (h.at_ x (List.mem_cons_of_mem _ hx)).kept (setRow_other W X x.1 cs' (hne x hx))

/-- copy of a whole row into the first block, which is as long -/
theorem wpList_copy_whole {P : Program} {w W : World} {ops : Array Oper} {rest : List Oper} {o : Oper} {a : Act} {Q : Exit → Act → World → Prop} (hgd : o.guard = none) (d s : Operand) (dT sT : TypeId)
    (ho : o.op = .call { callee := .builtin .copy, args := #[d, s], argTypes := #[dT, sT] }) (elem : TypeId) (hu : P.underlying dT = some (.slice elem)) (hsz : (P.info? elem).map (·.size) = some 1)
    (X n dCap sCap : Nat) (sp : Option Addr) (hd : a.eval d = .slice (some ⟨X, 0, none⟩) n dCap) (hs : a.eval s = .slice sp n sCap)
    (bs : List (Nat × Array Value)) (cur : Array Value) (hJ : JS w ((X, cur) :: bs) W) (hX : w.heap.size ≤ X) (hne : ∀ x ∈ bs, x.1 ≠ X) (hcur : cur.size = n) (B : Nat) (xs : List Value) (hxs : xs.length = n) (hsee : Sees W B sp xs)
    (h1 : ∀ v ∈ xs, v.oneCell' = true) (a' : Act) (ha : a.put o.dst (.int .i64 n) = a') (h : ∀ W', Hid (JS w ((X, xs.toArray) :: bs) W') → wpList P ops Q rest a' W') :
    wpList P ops Q (o :: rest) a W := by
  subst ha
  rcases hsee with h0 | ⟨b, p, rfl, hb, hc⟩
  · subst h0
    obtain rfl : n = 0 := by simpa using hxs.symm
    obtain rfl : cur = #[] := by simpa using hcur
    exact wpList_copy_nothing hgd d s dT sT ho elem hu hsz _ _ _ _ _ _ hd hs rfl (h _ (Lib.hid hJ))
  · obtain ⟨t, ht⟩ := hJ.at_ _ List.mem_cons_self
    refine wpList_copy_own hgd d s dT sT ho elem hu hsz X 0 n dCap ⟨b, p, none⟩ n sCap hd hs cur t ht xs (by rw [hxs]; simp) (fun j v hj => by rw [Addr.add_lit]; exact hc j v hj) (by omega) h1 ?_
    have e : (cur.toList.take 0 ++ (xs ++ cur.toList.drop (0 + xs.length))).toArray = xs.toArray := by
      rw [List.take_zero, Nat.zero_add, List.drop_of_length_le (by rw [Array.length_toList]; omega)]; simp
    rw [e, hxs]
    exact h _ (Lib.hid (jrow hJ _ hX hne))

/-- what a call answers that tells calls in new memory, d blocks on -/
def Told (w : World) (d : Nat) (l : List Nat) (v : Value) (e : Ending) (w' : World) : Prop := e = .returned v ∧ Below w.heap.size w w' ∧ Bx w' (w.heap.size + d) (un l).toArray

set_option maxHeartbeats 1600000 in
theorem copied_any (h : Nat) (l : List Nat) (A : Option Addr) (n cap : Nat) (hn : l.length = n) (hN : n ≤ 65536) (w : World) (hsee : Sees w w.heap.size A (un l)) :
    Calls Try.prog 21 #[val h A n cap] w (Told w 2 l (val h (some ⟨w.heap.size + 2, 0, none⟩) n n)) := by
  have hmk : ∀ W, (Instr.makeSlice 25 (.int .i64 (n : Int)) (.int .i64 (n : Int))).run Try.prog W = .ok (.slice (some ⟨W.heap.size, 0, none⟩) n n) (W.alloc (.cells (madeCells #[.int .u32 0] n) 23)) := fun W =>
    run_make_row' (P := Try.prog) 25 23 (.int .u32 0) 4 Try.underlying25 info_u32 rfl .i64 .i64 n (by omega) (by omega) W
  have hj : Hid (JS w _ _) := Lib.hid (J.three w #[.int .u32 h, .slice A n cap] #[.int .u32 0, .slice none 0 0] (madeCells #[.int .u32 0] n) 27 27 23)
  have hsz : (madeCells #[Value.int .u32 0] n).size = n := by unfold madeCells; simp
  have HS := Lib.hid (hsee.below hj.out.below (Nat.le_refl _))
  have HL := Lib.hid (show (un l).length = n by rw [un_len, hn])
  have HZ := Lib.hid hsz
  unfold val
  clear hsee hsz
  obtain ⟨xs, hxs⟩ : ∃ xs, un l = xs := ⟨_, rfl⟩
  have H1 := Lib.hid (un_one l)
  rw [hxs] at HS HL H1
  have HX := Lib.hid hxs
  clear hxs
  generalize madeCells #[Value.int .u32 0] n = cur at *
  go_enter Try.func21, Try.ntmps21
  go_wp2_with (with_reducible refine wpList_copy_whole rfl (.tmp 8) (.tmp 10) 25 25 rfl 23 (by kernel_rfl) (by kernel_rfl) (w.heap.size + 2) n n cap A (by simp [Act.eval]) (by simp [Act.eval]) _ cur hj.out (by omega) (by simp) HZ.out w.heap.size xs HL.out HS.out H1.out _ (by simp [Act.put]; rfl) ?_; intro W2 hj2; obtain ⟨b0, b1⟩ := (JS.bx hj2.out 2 rfl).c2; obtain ⟨g0, g1⟩ := (JS.bx hj2.out 2 rfl).f2; obtain ⟨r0, r1⟩ := (JS.bx hj2.out 1 rfl).c2; obtain ⟨q0, q1⟩ := (JS.bx hj2.out 1 rfl).f2)
  have hj3 := ((J.set hj2.out 1 (.slice (some ⟨w.heap.size + 2, 0, none⟩) n n) (X := w.heap.size) (Nat.le_refl _)).set 0 (.int .u32 h) (X := w.heap.size + 1) (by omega)).set 1 (.slice (some ⟨w.heap.size + 2, 0, none⟩) n n) (X := w.heap.size + 1) (by omega)
  simp at hj3
  have hend : Told w 2 l (.agg #[.int .u32 h, .slice (some ⟨w.heap.size + 2, 0, none⟩) n n]) (.returned (.agg #[.int .u32 h, .slice (some ⟨w.heap.size + 2, 0, none⟩) n n])) _ := ⟨rfl, hj3.below, by rw [HX.out]; exact hj3.bx 0 rfl⟩
  refine bodyPost_ret (v := .agg #[.int .u32 h, .slice (some ⟨w.heap.size + 2, 0, none⟩) n n]) (by simp [results, Try.results21, go_sem, *]) rfl hend

theorem made_un (n : Nat) : madeCells #[Value.int .u32 0] n = (un (List.replicate n 0)).toArray := by
  unfold madeCells un
  rw [List.map_replicate]
  apply Array.ext
  · simp
  · intro i h1 h2
    simp [Nat.mod_one]

theorem New_in (n : Nat) (hn : n ≤ 64) (w : World) : Calls Try.prog 9 #[.int .i64 n] w (Told w 1 (List.replicate n 0) (val 0 (some ⟨w.heap.size + 1, 0, none⟩) n n)) := by
  have hmk : ∀ W, (Instr.makeSlice 25 (.int .i64 (n : Int)) (.int .i64 (n : Int))).run Try.prog W = .ok (.slice (some ⟨W.heap.size, 0, none⟩) n n) (W.alloc (.cells (un (List.replicate n 0)).toArray 23)) := fun W => by
    rw [← made_un]
    exact run_make_row' (P := Try.prog) 25 23 (.int .u32 0) 4 Try.underlying25 info_u32 rfl .i64 .i64 n (by omega) (by omega) W
  have hj := J.two w #[.int .u32 0, .slice (some ⟨w.heap.size + 1, 0, none⟩) n n] (un (List.replicate n 0)).toArray 27 23
  have i1 : ¬ (n : Int) < 0 := by omega
  have i2 : ¬ (64 : Int) < (n : Int) := by omega
  unfold val
  have hend : ∀ W, J w W [(w.heap.size + 1, (un (List.replicate n 0)).toArray), (w.heap.size, #[.int .u32 0, .slice (some ⟨w.heap.size + 1, 0, none⟩) n n])] → Told w 1 (List.replicate n 0) (.agg #[.int .u32 0, .slice (some ⟨w.heap.size + 1, 0, none⟩) n n]) (.returned (.agg #[.int .u32 0, .slice (some ⟨w.heap.size + 1, 0, none⟩) n n])) W := fun W h => ⟨rfl, h.below, h.bx 0 rfl⟩
  have HE := Lib.hid hend
  clear hend
  generalize (un (List.replicate n 0)).toArray = cur at *
  generalize List.replicate n 0 = l at *
  go_enter Try.func9, Try.ntmps9
  go_wp2
  refine bodyPost_ret (v := .agg #[.int .u32 0, .slice (some ⟨w.heap.size + 1, 0, none⟩) n n]) (by simp [results, Try.results9, go_sem, *]) rfl (HE.out _ ?_)
  exact hj
theorem New_out (n : Int) (hn : ¬ (0 ≤ n ∧ n ≤ 64)) (w : World) : Calls Try.prog 9 #[.int .i64 n] w (Says w (val 0 none 0 0)) := by
  unfold val
  by_cases h : n < 0
  · go_enter Try.func9, Try.ntmps9
    go_wp2
    refine bodyPost_ret (v := .agg #[.int .u32 0, .slice none 0 0]) (by simp [results, Try.results9, go_sem, *]) rfl ⟨rfl, below_box⟩
  · have h2 : 64 < n := by omega
    go_enter Try.func9, Try.ntmps9
    go_wp2
    refine bodyPost_ret (v := .agg #[.int .u32 0, .slice none 0 0]) (by simp [results, Try.results9, go_sem, *]) rfl ⟨rfl, below_box⟩
end Go.Proofs.Ytojioadonbiiaaa.Cal
