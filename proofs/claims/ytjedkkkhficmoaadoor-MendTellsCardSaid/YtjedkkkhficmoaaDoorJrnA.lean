/- Rows of bytes: Clone, Grow, Concat; what a place holds of whose bytes the first n came through. -/
import Derived.Test.YtjedkkkhficmoaaDoorCrcA
import Derived.Test.YtjedkkkhficmoaaDoorConv
import Derived.Test.YtjedkkkhficmoaaDoorTy
import Derived.Test.YtjedkkkhficmoaaDoorJrnP
import Derived.Lib.AppendZeros
import Derived.Lib.SliceRun
namespace Go.Proofs.YtjedkkkhficmoaaDoor.Jrn
open Go.RowKit Go.Proofs.YtjedkkkhficmoaaDoor.Plain Go.Proofs.YtjedkkkhficmoaaDoor.Sees Go.Proofs.YtjedkkkhficmoaaDoor.Oct Go.Proofs.YtjedkkkhficmoaaDoor.Crc Go.Proofs.YtjedkkkhficmoaaDoor.Box Go.Proofs.YtjedkkkhficmoaaDoor.JrnP
set_option linter.unusedVariables false
set_option maxRecDepth 100000

/-- a row of bytes is answered, and memory made alone -/
def FB (w : World) (n : Nat) (bs : List Int) (e : Ending) (w' : World) : Prop :=
  ∃ A c, e = .returned (.slice A n c) ∧ n ≤ c ∧ c ≤ maxLen ∧ TS w' 5 A (nums .u8 bs) ∧ Below w.heap.size w w'
theorem own_cap {W : World} {base : Nat} {e : TypeId} {size : Nat} {A : Option Addr} {n c : Nat} {xs : List Value} (h : W.ownsRow base e size (.slice A n c) n xs) : n ≤ c ∧ c ≤ maxLen := by
  rcases h.2 with ⟨hv, h0⟩ | ⟨g, cap2, cur, hv, _, _, h1, h2, _⟩
  · injection hv; omega
  · injection hv; omega
theorem fb_own {w w' : World} {base n : Nat} {v : Value} {bs : List Int} (h : w'.ownsRow base 5 1 v n (nums .u8 bs)) (hb : Below w.heap.size w w') : FB w n bs (.returned v) w' := by
  obtain ⟨A, c, rfl, hc, hs, _⟩ := own_form h
  exact ⟨A, c, rfl, (own_cap h).1, (own_cap h).2, TS.own h, hb⟩
theorem sees_next {W W' : World} {A : Option Addr} {xs : List Value} (h : Sees W W.heap.size A xs) (hb : Below W.heap.size W W') : Sees W' W'.heap.size A xs := (h.below hb (Nat.le_refl _)).more hb.size
theorem OwnPost.fb {w w' : World} {n : Nat} {bs : List Int} {e : Ending} (h : OwnPost w n bs e w') : FB w n bs e w' := by
  obtain ⟨v, rfl, ho, hb⟩ := h
  exact fb_own ho hb

set_option maxHeartbeats 1600000 in
theorem bClone_any (bs : List Int) (A : Option Addr) (n c : Nat) (w : World) (hl : bs.length = n) (hn : n ≤ 100000000) (hs : Sees w w.heap.size A (nums .u8 bs)) :
    Calls Tryd.prog 23 #[.slice A n c] w (FB w n bs) := by
  obtain ⟨i0, hi, hz0, hz1, hz2⟩ := info_parts info_u8
  have q22 : ∀ (w : World) (a : Option Addr) (n c n' c' : Nat), (binOp .eql 22 (.slice a n c) (.slice none n' c')).run Tryd.prog w = .ok (.bool a.isNone) w := fun w a n c n' c' => Lib.run_eql_slice_nil w _ _ a n c n' c' Tryd.underlying22
  rcases A with _ | ad
  · have hp : bs = [] := by
      rcases hs with h | ⟨b, o, h, _⟩
      · simpa [nums] using h
      · cases h
    subst hp
    obtain rfl : n = 0 := by simpa using hl.symm
    go_enter Tryd.func23, Tryd.ntmps23
    go_wp2
    go_ret
    exact ⟨none, 0, rfl, Nat.le_refl _, Nat.zero_le _, .inl rfl, Below.refl _ _⟩
  · have HS := Lib.hid hs
    have HL := Lib.hid hl
    clear hs hl
    go_enter Tryd.func23, Tryd.ntmps23
    go_wp2_with (at_builtin; refine wpList_append_sees _ rfl _ _ 22 rfl w.heap.size 5 i0 (.int .u8 0) 1 Tryd.underlying22 hi hz0 hz1 hz2 rfl _ _ _ rfl (World.ownsRow_made w #[] 0 (Nat.le_refl _) (Nat.zero_le _) (by simp)) w.heap.size (some ad) n c (nums .u8 bs) rfl (by rw [nums_length, HL.out]) (HS.out.below below_box (Nat.le_refl _)) (nums_one _ _) (by unfold maxLen; omega) (by omega) (by simp) ?_; intro v' w1 hown hg)
    go_ret
    refine fb_own (by simpa using hown) (below_box.trans (hg.below (B := w.heap.size) (by simp) (by intro g hg'; simp [Value.ownBlock, go_sem] at hg'; omega)))

/-- append of so many zeros onto nothing -/
theorem wpList_append_zeros {P : Program} (w : World) {ops : Array Oper} {rest : List Oper} {o : Oper} {a : Act} {Q : Exit → Act → World → Prop} (hgd : o.guard = none) (s x : Operand) (t tn : TypeId)
    (ho : o.op = .call { callee := .builtin .append, args := #[s, x], argTypes := #[t, tn] })
    (e : TypeId) (i : TypeInfo) (z : Value) (kn : IntKind) (ht : P.underlying t = some (.slice e)) (htn : P.underlying tn = some (.int kn)) (hi : P.info? e = some i) (hz : i.zero = some z) (hsize : i.size = 1) (hby : i.bytes = 1) (hzs : z.cells.size = 1)
    (n : Nat) (h0 : 0 < n) (hn : n ≤ 100000000) (hs : a.eval s = .slice none 0 0) (hx : a.eval x = .int .i64 n)
    (h : ∀ c w', n ≤ c → w'.ownsRow w.heap.size e 1 (.slice (some ⟨w.heap.size, 0, none⟩) 0 c) 0 [] → Below w.heap.size w w' → wpList P ops Q rest (a.put o.dst (.slice (some ⟨w.heap.size, 0, none⟩) n c)) w') : wpList P ops Q (o :: rest) a w := by
  have hr := Lib.run_append_nil_zeros (P := P) w t tn o.type e i z .i64 kn ht htn hi hz n h0 (by omega) (by omega) (by rw [hby]; omega)
  have hge := grownCap_ge w n 0 e
  have hcm : grownCap w n 0 e ≤ maxLen := grownCap_le_maxLen w n 0 e (by unfold maxLen; omega)
  refine wpList_plain hgd fun K hK => ?_
  unfold Oper.wp execOp
  simp only [ho, resolve, invoke, builtin, Sem.run_bind, Sem.run_pure, Result.andThen_ok, List.map_toArray, List.map_cons, List.map_nil, hs, hx, hr]
  refine hK _ _ (h _ _ hge ⟨rfl, .inr ⟨w.heap.size, _, _, rfl, Nat.le_refl _, heap_alloc_new w.drew _, Nat.zero_le _, hcm, ?_, rfl⟩⟩ ((Below.refl _ _).drew.alloc (Nat.le_refl _) _))
  simp only [Array.size_append, size_zeroCells, hzs, Nat.mul_one]
  omega

/-- Grow of nothing: a row of the call's own, with room for so many -/
theorem bGrow_nil (n : Nat) (w : World) (hn : n ≤ 100000000) :
    Calls Tryd.prog 55 #[.slice none 0 0, .int .i64 n] w fun e w' => ∃ v, e = .returned v ∧ w'.ownsRow w.heap.size 5 1 v 0 [] ∧ Below w.heap.size w w' := by
  obtain ⟨i0, hi, hz0, hz1, hz2⟩ := info_parts info_u8
  by_cases h0 : n = 0
  · subst h0
    go_enter Tryd.func55, Tryd.ntmps55
    go_wp2
    go_ret
    exact ⟨_, rfl, World.ownsRow_nil _ _ _ _, Below.refl _ _⟩
  · have h0' : 0 < n := by omega
    go_enter Tryd.func55, Tryd.ntmps55
    go_wp2_with (at_builtin; refine wpList_append_zeros _ rfl _ _ 22 3 rfl 5 i0 (.int .u8 0) .i64 Tryd.underlying22 Tryd.underlying3 hi hz0 hz1 hz2 rfl n h0' hn rfl rfl ?_; intro c w' hc hown hb)
    go_ret
    exact ⟨_, rfl, hown, hb⟩

/-- how many bytes rows have -/
def tots (rs : List RowV) : Nat := (flatB rs).length
theorem tots_snoc (rs : List RowV) (k : Nat) (h : k < rs.length) : tots (rs.take (k + 1)) = tots (rs.take k) + rs[k].bs.length := by
  unfold tots
  rw [flatB_snoc rs k h, List.length_append]
theorem tots_le (rs : List RowV) (k : Nat) : tots (rs.take k) ≤ tots rs := by
  have h : flatB rs = flatB (rs.take k) ++ flatB (rs.drop k) := by
    unfold flatB
    rw [← List.flatten_append, ← List.map_append, List.take_append_drop]
  unfold tots
  rw [h, List.length_append]
  omega

set_option maxHeartbeats 1600000 in
theorem bConcat_any (m c N : Nat) (a : Option Addr) (rs : List RowV) (w : World) (hlen : rs.length = m) (hm : m ≤ 1000000) (hN : tots rs = N) (hN6 : N ≤ 50000000)
    (hsee : Sees w w.heap.size a (rs.map RowV.val)) (hok : ∀ r ∈ rs, r.Ok w w.heap.size) :
    Calls Tryd.prog 42 #[.slice a m c] w (FB w N (flatB rs)) := by
  obtain ⟨i0, hi, hz0, hz1, hz2⟩ := info_parts info_u8
  have HG : Hid (∀ W, Calls Tryd.prog 55 #[.slice none 0 0, .int .i64 N] W fun e w' => ∃ v, e = .returned v ∧ w'.ownsRow W.heap.size 5 1 v 0 [] ∧ Below W.heap.size W w') := Lib.hid fun W => bGrow_nil N W (by omega)
  have HN := Lib.hid hN
  have HL := Lib.hid hlen
  clear hN hlen
  go_enter Tryd.func42, Tryd.ntmps42
  go_wp2
  go_loop [3, 11] (fun s i => ∃ k T : Nat, k ≤ m ∧ i = .int .i64 k ∧ s = .int .i64 T ∧ Hid (T = tots (rs.take k))) (fun _ i => m - (intOf i).toNat)
  case atStart => exact ⟨0, 0, Nat.zero_le _, rfl, rfl, Lib.hid (by simp [tots, flatB])⟩
  case round =>
    obtain ⟨k, T, hk, rfl, rfl, hT⟩ := hrel
    by_cases hlt : k < m
    · have hk' : k < rs.length := by rw [HL.out]; exact hlt
      have hel : (rs.map RowV.val)[k]? = some (rs[k].val) := by simp [hk']
      obtain ⟨b, o, rfl, hbB, hc⟩ := hsee.at_ hel
      have HT := Lib.hid (tots_snoc rs k hk')
      have HT2 := Lib.hid (tots_le rs (k + 1))
      generalize rs[k] = r at *
      obtain ⟨A, C, bs⟩ := r
      simp only [RowV.val] at hc
      generalize hL : bs.length = L at *
      have HLL := Lib.hid hL
      obtain ⟨T2, hT2⟩ : ∃ T2, T + L = T2 := ⟨_, rfl⟩
      have hb2 : T2 ≤ 50000000 := by have := HT.out; have := HT2.out; have := hT.out; have := HN.out; simp only at *; omega
      have e1 : IntKind.i64.wrap ((T : Int) + (L : Int)) = (T2 : Int) := by rw [IntWalk.i64_in _ (by omega)]; omega
      have HT3 := Lib.hid hT2
      clear hL hel hT2
      go_wp2
      go_round
      case rel => exact ⟨k + 1, T2, by omega, by go_num, rfl, Lib.hid (by have := HT.out; have := hT.out; have := HT3.out; have := HLL.out; simp only at *; omega)⟩
      case measure => simp [intOf]; omega
    · obtain rfl : k = m := by omega
      have hTN : T = N := by have := hT.out; rw [List.take_of_length_le (by rw [HL.out]; exact Nat.le_refl _), HN.out] at this; exact this
      subst hTN
      clear hT
      go_wp2_with (go_at_call 55; (with_reducible refine (HG.out _).mono ?_); rintro e w1 ⟨v1, rfl, hown1, hb1⟩)
      go_loopw [6, 27] (fun b i wr => ∃ j M : Nat, j ≤ k ∧ i = .int .i64 j ∧ Hid (M = tots (rs.take j)) ∧ wr.ownsRow w.heap.size 5 1 b M (nums .u8 (flatB (rs.take j))) ∧ Hid (Below w.heap.size w wr)) (fun _ i _ => k - (intOf i).toNat)
      case atStart => exact ⟨0, 0, Nat.zero_le _, rfl, Lib.hid (by simp [tots, flatB]), by simpa [flatB, nums] using hown1, Lib.hid hb1⟩
      case round =>
        obtain ⟨j, M, hj, rfl, hM, hown, hbel⟩ := hrel
        have hsz := hbel.out.size
        by_cases hlt2 : j < k
        · have hk' : j < rs.length := by rw [HL.out]; exact hlt2
          have hel : (rs.map RowV.val)[j]? = some (rs[j].val) := by simp [hk']
          obtain ⟨b, o, rfl, hbB, hc⟩ := (hsee.below hbel.out (Nat.le_refl _)).at_ hel
          have hokr := hok rs[j] (List.getElem_mem hk')
          have HT := Lib.hid (tots_snoc rs j hk')
          have HT2 := Lib.hid (tots_le rs (j + 1))
          have HF := Lib.hid (flatB_snoc rs j hk')
          generalize rs[j] = r at *
          obtain ⟨A, C, bs⟩ := r
          simp only [RowV.val] at hc
          have hsr := hokr.see.below hbel.out (Nat.le_refl _)
          simp only at hsr
          generalize hL : bs.length = L at *
          have HLL := Lib.hid hL
          have hb2 : M + L ≤ 50000000 := by have := HT.out; have := HT2.out; have := hM.out; have := HN.out; simp only at *; omega
          clear hL hel
          go_wp2_with (at_builtin; refine wpList_append_sees _ rfl _ _ 22 rfl w.heap.size 5 i0 (.int .u8 0) 1 Tryd.underlying22 hi hz0 hz1 hz2 rfl _ M _ rfl hown w.heap.size A L C (nums .u8 bs) rfl (by rw [nums_length, HLL.out]) hsr (nums_one _ _) (by unfold maxLen; omega) (by omega) hsz ?_; intro v2 w2 hown2 hg2)
          go_roundw
          case rel => exact ⟨j + 1, M + L, by omega, by go_num, Lib.hid (by have := HT.out; have := hM.out; have := HLL.out; simp only at *; omega), by rw [HF.out, nums_append]; exact hown2, Lib.hid (hbel.out.trans (hg2.below hsz (fun g hg => (hown.lt g hg).1)))⟩
          case measure => simp [intOf]; omega
        · obtain rfl : j = k := by omega
          have hMN : M = T := by have := hM.out; rw [List.take_of_length_le (by rw [HL.out]; exact Nat.le_refl _), HN.out] at this; exact this
          subst hMN
          have hown' : wr.ownsRow w.heap.size 5 1 u6 M (nums .u8 (flatB rs)) := by rwa [List.take_of_length_le (by rw [HL.out]; exact Nat.le_refl _)] at hown
          clear hown hM
          go_wp2
          go_ret
          exact fb_own hown' hbel.out

end Go.Proofs.YtjedkkkhficmoaaDoor.Jrn
