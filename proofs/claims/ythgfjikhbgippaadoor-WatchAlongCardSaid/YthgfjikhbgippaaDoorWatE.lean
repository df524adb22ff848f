/- Contracts of watch's Over and Breaks. -/
import Derived.Test.YthgfjikhbgippaaDoorWatD
import Derived.OwnWalk
namespace Go.Proofs.YthgfjikhbgippaaDoor.Wat
open Go.RowKit Go.Proofs.YthgfjikhbgippaaDoor.Plain Go.Proofs.YthgfjikhbgippaaDoor.WatP Go.Proofs.YthgfjikhbgippaaDoor.OrdP Go.Proofs.YthgfjikhbgippaaDoor.PhaP Go.Proofs.YthgfjikhbgippaaDoor.FedP Go.Proofs.YthgfjikhbgippaaDoor.Open Go.Proofs.YthgfjikhbgippaaDoor.Sees Go.Proofs.YthgfjikhbgippaaDoor.Box Go.Proofs.YthgfjikhbgippaaDoor.Held Go.Proofs.YthgfjikhbgippaaDoor.Pha
open Go.Proofs.YthgfjikhbgippaaDoor.Fed (hs hs_succ an_hs karr kval jfill9x New_any)
set_option linter.unusedVariables false
set_option linter.unusedSimpArgs false
set_option maxRecDepth 100000

theorem kx_hs {l : List Fc} {i : Nat} {x : Fc} (h : l[i]? = some x) : kx x (hs (cs l) i) = hs (cs l) (i + 1) := by
  rw [hs_succ (cs l) i (v := x.cp) (by unfold cs; rw [List.getElem?_map, h]; rfl)]; rfl
theorem ox_ov {n : Nat} {l : List Fc} {i : Nat} {x : Fc} (h : l[i]? = some x) : ox n x (hs (cs l) i) = ov n l i := by
  rw [ov_at h]; unfold ox; rw [kx_hs h]

set_option maxHeartbeats 3200000 in
theorem firstO_any (k : Nat) (hk : k ≤ 8) (l : List Fc) (A : Option Addr) (n c : Nat) (T O : Nat) (w0 w : World) (hT : w0.heap.size ≤ T) (hO : w0.heap.size ≤ O) (hTO : T ≠ O) (b0 : Bool) (hl : l.length = n) (hn : n ≤ maxLen) (hs_ : Sh w0 A l)
    (hJ : J w0 w [(T, karr k (kt k (hs (cs l) 0))), (O, #[.bool b0])]) (v : Int) (hv : Fi (ov k l) 0 n v) :
    Calls Tryd.prog 22 #[.slice A n c, .int .i64 0, .func (.func 23) #[] #[.pointer (some ⟨T, 0, none⟩), .pointer (some ⟨O, 0, none⟩)]] w fun e w' => e = .returned (.int .i64 v) ∧ Hid (Bw w0 w') := by
  have HF : Hid (∀ (x : Fc) (i : Nat) (b : Bool) (W : World), l[i]? = some x → Hid (J w0 W [(T, karr k (kt k (hs (cs l) i))), (O, #[.bool b])]) →
      Calls Tryd.prog 23 #[fcv x, .pointer (some ⟨T, 0, none⟩), .pointer (some ⟨O, 0, none⟩)] W fun e w' => e = .returned (.bool (ov k l i)) ∧ Hid (J w0 w' [(T, karr k (kt k (hs (cs l) (i + 1)))), (O, #[.bool (ov k l i)])])) := Lib.hid fun x i b W hx hW => by
    have := over1_any k hk (hs (cs l) i) x b w0 W T O hT hO hTO hW.out
    rwa [kx_hs hx, ox_ov hx] at this
  have HS := Lib.hid hs_
  have HN := Lib.hid hn
  have HL := Lib.hid hl
  have HV := Lib.hid hv
  have HJ := Lib.hid hJ
  clear hl hs_ hn hv hJ hk hT hO hTO
  go_enter Tryd.func22, Tryd.ntmps22
  go_wp2
  go_loopw [7] (fun i wr => ∃ (q : Nat) (b : Bool), i = .int .i64 q ∧ Hid (J w0 wr [(T, karr k (kt k (hs (cs l) q))), (O, #[.bool b])]) ∧ Hid (∀ t, 0 ≤ t → t < q → ov k l t = false)) (fun i _ => n - (intOf i).toNat)
  case atStart => exact ⟨0, b0, rfl, HJ, Lib.hid fun t a b => by omega⟩
  case round =>
    clear HJ
    obtain ⟨q, b, rfl, K, hM⟩ := hrel
    by_cases hlt : q < n
    · obtain ⟨x, hx⟩ : ∃ x, l[q]? = some x := ⟨_, List.getElem?_eq_getElem (by rw [HL.out]; omega)⟩
      obtain ⟨bb, o, rfl, hbb, c0, c1, c2, c3, c4⟩ := facts_at (HS.out.bw K.out.below).see q hx
      have HA := Lib.hid (HF.out x q b wr hx K)
      obtain ⟨pw, dr, cp, r, rs⟩ := x
      unfold fcv at HA
      simp only at HA c0 c1 c2 c3 c4
      generalize r.val = rv at *
      have i1 : (q : Int) < (n : Int) := by omega
      have e3 : IntKind.i64.wrap ((q : Int) + 1) = ((q + 1 : Nat) : Int) := by rw [IntWalk.i64_in _ (by have := HN.out; unfold maxLen at this; omega)]; rfl
      clear hx HF
      cases hh : ov k l q
      · rw [hh] at HA
        have HM2 : Hid (∀ t, 0 ≤ t → t < q + 1 → ov k l t = false) := Lib.hid fun t a b => by
          by_cases e : t = q
          · subst e; exact hh
          · exact hM.out t a (by omega)
        clear hh
        go_wp2_with (go_at_call 23; ((with_reducible refine HA.out.mono ?_); rintro e w1 ⟨rfl, K1⟩))
        go_roundw
        case rel => exact ⟨q + 1, _, rfl, K1, HM2⟩
        case measure => simp [intOf]; omega
      · rw [hh] at HA
        have HE : Hid (v = q) := Lib.hid (HV.out.one ((Fi.here hlt hh).from (Nat.zero_le _) hM.out))
        clear hh
        go_wp2_with (go_at_call 23; ((with_reducible refine HA.out.mono ?_); rintro e w1 ⟨rfl, K1⟩))
        go_ret
        exact ⟨ret_int HE.out.symm, Lib.hid K1.out.below⟩
    · have i1 : ¬ (q : Int) < (n : Int) := by omega
      have HE : Hid (v = -1) := Lib.hid (HV.out.one ((Fi.none _ (Nat.le_of_not_lt hlt)).from (Nat.zero_le _) hM.out))
      go_wp2
      go_ret
      exact ⟨ret_int HE.out.symm, Lib.hid K.out.below⟩

set_option maxHeartbeats 3200000 in
theorem Over_any (lag : Int) (n : Nat) (hk : bo lag 0 8 = n) (l : List Fc) (A : Option Addr) (m c : Nat) (w : World) (hl : l.length = m) (hn : m ≤ maxLen) (hs_ : Sh w A l) (v : Int) (hv : Fi (ov n l) 0 m v) :
    Calls Tryd.prog 11 #[.int .i64 lag, .slice A m c] w (Says w (.int .i64 v)) := by
  have hn8 : n ≤ 8 := by unfold bo at hk; omega
  have HN := Lib.hid fun W => New_any lag n hk W
  have h0 : kt n (hs (cs l) 0) = [0, 0, 0, 0, 0, 0, 0, 0] := kt_nil n hn8
  have HF : Hid (∀ (T O : Nat) (W : World), Hid (w.heap.size ≤ T) → Hid (w.heap.size ≤ O) → Hid (T ≠ O) → Hid (J w W [(T, #[.int .i64 n, .int .i64 0, .int .i64 0, .int .i64 0, .int .i64 0, .int .i64 0, .int .i64 0, .int .i64 0, .int .i64 0]), (O, #[.bool false])]) →
      Calls Tryd.prog 22 #[.slice A m c, .int .i64 0, .func (.func 23) #[] #[.pointer (some ⟨T, 0, none⟩), .pointer (some ⟨O, 0, none⟩)]] W fun e w' => e = .returned (.int .i64 v) ∧ Hid (Bw w w')) := Lib.hid fun T O W hT hO hTO hJ =>
    firstO_any n hn8 l A m c T O w W hT.out hO.out hTO.out false hl hn hs_ (by rw [h0]; exact hJ.out) v hv
  unfold kval karr at HN
  simp only [List.map_cons, List.map_nil] at HN
  clear hk hn8 hl hn hs_ hv h0
  generalize (n : Int) = z at *
  go_enter Tryd.func11, Tryd.ntmps11
  go_wp2_with (first
    | (go_at_call 21; ((with_reducible refine (HN.out _).mono ?_); rintro e w1 ⟨rfl, k1⟩; have hj1 := Lib.hid ((((J.start w).next k1).push #[.int .i64 z, .int .i64 0, .int .i64 0, .int .i64 0, .int .i64 0, .int .i64 0, .int .i64 0, .int .i64 0, .int .i64 0] 50).push #[.bool false] 4); have hsz := Lib.hid (World.size_alloc w1 (.cells #[.int .i64 z, .int .i64 0, .int .i64 0, .int .i64 0, .int .i64 0, .int .i64 0, .int .i64 0, .int .i64 0, .int .i64 0] 50)); rw [hsz.out] at hj1; have hle := Lib.hid k1.size; have hle1 : Hid (w.heap.size ≤ w1.heap.size + 1) := Lib.hid (Nat.le_succ_of_le hle.out); have hne1 : Hid (w1.heap.size ≠ w1.heap.size + 1) := Lib.hid (Nat.ne_of_lt (Nat.lt_succ_self w1.heap.size)); have hj4 := Lib.hid (J.less hj1.out (bs' := [(w1.heap.size, #[.int .i64 z, .int .i64 0, .int .i64 0, .int .i64 0, .int .i64 0, .int .i64 0, .int .i64 0, .int .i64 0, .int .i64 0]), (w1.heap.size + 1, #[.bool false])]) (by simp))))
    | (go_at_call 22; (with_reducible refine (HF.out _ _ _ hle hle1 hne1 hj4).mono ?_); rintro e w2 ⟨rfl, k2⟩))
  go_ret
  exact ⟨rfl, k2.out⟩

theorem info_rr : (Tryd.prog.info? 37).map (fun i => (i.zero, i.size, i.bytes)) = some (some (.slice none 0 0), 1, 24) := by kernel_rfl
theorem slice_one (A : Option Addr) (n c : Nat) : ∀ u ∈ [Value.slice A n c], u.oneCell' = true := by simp [Value.oneCell']
theorem rv_snoc {l : List Fc} {q : Nat} {x : Fc} (h : l[q]? = some x) : (l.take (q + 1)).map (fun y => y.r.val) = (l.take q).map (fun y => y.r.val) ++ [x.r.val] := by
  rw [List.take_add_one, h]; simp

set_option maxHeartbeats 6400000 in
theorem Breaks_any (l : List Fc) (A : Option Addr) (n c : Nat) (w : World) (hL : Lay w) (hl : l.length = n) (hn : n ≤ 1000) (hs_ : Sh w A l) (v : Int) (hv : Fi (br l) 0 n v) :
    Calls Tryd.prog 12 #[.slice A n c] w (Says w (.int .i64 v)) := by
  obtain ⟨i0, hi, hz0, hz1, hz2⟩ := info_parts info_rr
  obtain ⟨k, hk⟩ := ac_ex (zs l)
  have hzl : (zs l).length = n := by unfold zs; rw [List.length_map, hl]
  have HV : Hid ((k < n ∧ v = k) ∨ (k = n ∧ v = -1)) := Lib.hid (by
    have h1 := fi_ac hk
    rw [hzl] at h1
    have h2 := hv.one h1
    have h3 := hk.le
    rw [hzl] at h3
    by_cases e : k < n
    · rw [if_pos e] at h2; exact .inl ⟨e, h2⟩
    · rw [if_neg e] at h2; exact .inr ⟨by omega, h2⟩)
  have HA : Hid (∀ (B : Option Addr) (cb : Nat) (W : World), Bw w W → Sees W W.heap.size B (l.map fun y => y.r.val) → Calls Tryd.prog 25 #[.slice B n cb] W (Says W (.int .i64 k))) := Lib.hid fun B cb W hW hS => by
    have hm : (l.map (fun y => y.r)).map RowN.val = l.map fun y => y.r.val := by rw [List.map_map]; rfl
    have hz : zz (l.map fun y => y.r) = zs l := by unfold zz zs; rw [List.map_map]; rfl
    exact Accept_any (l.map fun y => y.r) B n cb k W (hL.bw hW) (by rw [List.length_map, hl]) (by unfold maxLen; omega) (by rw [hm]; exact hS) (fun r hr => by
      obtain ⟨x, hx, rfl⟩ := List.mem_map.1 hr
      exact (hs_.rows x hx).bw hW) (by rw [hz]; exact hk)
  have HS := Lib.hid hs_
  have HL := Lib.hid hl
  have K0 : Hid (Bw w w) := Lib.hid (Bw.refl w)
  clear hl hs_ hL hk hzl hv
  go_enter Tryd.func12, Tryd.ntmps12
  go_wp2_with (at_make; go_loud (refine wpList_make_own _ rfl _ _ 55 rfl w.heap.size 37 i0 (.slice none 0 0) 1 Tryd.underlying55 hi hz0 hz1 _ _ _ n rfl rfl rfl (by rw [hz2]; omega) (by unfold maxLen; omega) (Nat.le_refl _) ?_); intro w0 hown0 hgrow0; have K1 : Hid (Bw w w0) := Lib.hid ((Below.refl _ _).grown hgrow0 (Nat.le_refl _) (fun k h => by cases h)))
  go_loopw [3, 5, 12] (fun v _ i wr => ∃ q : Nat, q ≤ n ∧ i = .int .i64 q ∧ Hid (Bw w wr) ∧ wr.ownsRow w.heap.size 37 1 v q ((l.take q).map fun y => y.r.val)) (fun _ _ i _ => n - (intOf i).toNat)
  case atStart => exact ⟨0, Nat.zero_le _, rfl, K1, by simpa using hown0⟩
  case round =>
    clear K0 K1 hown0 hgrow0
    obtain ⟨q, hq, rfl, K, hown⟩ := hrel
    have hwr : w.heap.size ≤ wr.heap.size := K.out.size
    by_cases hlt : q < n
    · obtain ⟨x, hx⟩ : ∃ x, l[q]? = some x := ⟨_, List.getElem?_eq_getElem (by rw [HL.out]; omega)⟩
      obtain ⟨bb, o, rfl, hbb, c0, c1, c2, c3, c4⟩ := facts_at (HS.out.bw K.out).see q hx
      have HT := Lib.hid (rv_snoc hx)
      obtain ⟨pw, dr, cp, ⟨Ar, cr, zs⟩, rs⟩ := x
      unfold RowN.val at c3
      simp only at c0 c1 c2 c3 c4
      have HT2 : Hid ((l.take (q + 1)).map (fun y => y.r.val) = (l.take q).map (fun y => y.r.val) ++ [.slice Ar zs.length cr]) := HT
      generalize zs.length = qr at *
      have i1 : (q : Int) < (n : Int) := by omega
      have e3 : IntKind.i64.wrap ((q : Int) + 1) = ((q + 1 : Nat) : Int) := by rw [IntWalk.i64_in _ (by omega)]; rfl
      have HLT := Lib.hid hlt
      have K2 := Lib.hid (K.out.next (below_box : Below wr.heap.size wr (wr.alloc (.cells #[.int .i64 pw, .int .i64 dr, .int .i64 cp, .slice Ar qr cr, .int .u64 (rs : Nat)] 40))))
      have hb0 : Bx (wr.alloc (.cells #[.int .i64 pw, .int .i64 dr, .int .i64 cp, .slice Ar qr cr, .int .u64 (rs : Nat)] 40)) wr.heap.size _ := Bx.new wr _ _
      obtain ⟨d0, d1, d2, d3, d4⟩ := hb0.c5
      have hrow0 := Lib.hid (hown.alloc (.cells #[.int .i64 pw, .int .i64 dr, .int .i64 cp, .slice Ar qr cr, .int .u64 (rs : Nat)] 40))
      clear hx HT hown hb0
      go_wp2_with (at_builtin; go_loud (refine wpList_append_own_at _ rfl (.tmp 16) (.tmp 19) 55 rfl w.heap.size 37 i0 (.slice none 0 0) 1 24 Tryd.underlying55 hi hz0 hz1 hz2 rfl (by decide) _ _ _ rfl (hrow0.out.alloc _) ⟨wr.heap.size + 1, 0, none⟩ 1 1 [.slice Ar qr cr] rfl rfl (by intro j u hj; rw [Addr.add_lit, Nat.zero_add]; have := World.cell?_alloc_new (wr.alloc (.cells #[.int .i64 pw, .int .i64 dr, .int .i64 cp, .slice Ar qr cr, .int .u64 (rs : Nat)] 40)) #[.slice Ar qr cr] 37 j; rw [World.size_alloc] at this; rw [this]; simpa using hj) (slice_one _ _ _) (by unfold maxLen; omega) (by omega) (by simp; omega) ?_); go_loud (intro v' w11 hown11 hg11 _ hat11; have K3 := Lib.hid ((K2.out.next below_box).grown hg11 (by simp; omega) (fun g e => (hrow0.out.lt g e).1))))
      go_roundw
      case rel => exact ⟨q + 1, by omega, rfl, K3, by rw [HT2.out]; exact hown11⟩
      case measure => have := HLT.out; simp [intOf]; omega
    · obtain rfl : q = n := by omega
      rw [List.take_of_length_le (by rw [HL.out]; exact Nat.le_refl _)] at hown
      obtain ⟨B, cb, rfl, _, hsee, _⟩ := own_formN hown (by decide)
      have HC := Lib.hid (HA.out B cb wr K.out hsee)
      clear hsee hown
      rcases HV.out with ⟨h1, h2⟩ | ⟨h1, h2⟩
      · have i1 : (k : Int) < (q : Int) := by omega
        have H2 := Lib.hid h2
        clear h2
        go_wp2_with (go_at_call 25; ((with_reducible refine HC.out.mono ?_); rintro e w1 ⟨rfl, k1⟩; have K3 := Lib.hid (K.out.next k1)))
        go_ret
        exact ⟨ret_int H2.out.symm, K3.out⟩
      · have i1 : ¬ (k : Int) < (q : Int) := by omega
        have H2 := Lib.hid h2
        clear h2
        go_wp2_with (go_at_call 25; ((with_reducible refine HC.out.mono ?_); rintro e w1 ⟨rfl, k1⟩; have K3 := Lib.hid (K.out.next k1)))
        go_ret
        exact ⟨ret_int H2.out.symm, K3.out⟩
end Go.Proofs.YthgfjikhbgippaaDoor.Wat
