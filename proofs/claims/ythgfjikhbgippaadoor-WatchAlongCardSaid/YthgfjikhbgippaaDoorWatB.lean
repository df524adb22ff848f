/- Contracts of layer 25's short and all, of the reference. -/
import Derived.Test.YthgfjikhbgippaaDoorWatA
import Derived.Test.YthgfjikhbgippaaDoorPhaD
import Derived.Maps.AppendAt
import Derived.BigRegion
namespace Go.Proofs.YthgfjikhbgippaaDoor.Wat
open Go.RowKit Go.Proofs.YthgfjikhbgippaaDoor.Plain Go.Proofs.YthgfjikhbgippaaDoor.WatP Go.Proofs.YthgfjikhbgippaaDoor.OrdP Go.Proofs.YthgfjikhbgippaaDoor.PhaP Go.Proofs.YthgfjikhbgippaaDoor.FedP Go.Proofs.YthgfjikhbgippaaDoor.Open Go.Proofs.YthgfjikhbgippaaDoor.Sees Go.Proofs.YthgfjikhbgippaaDoor.Box Go.Proofs.YthgfjikhbgippaaDoor.Held Go.Proofs.YthgfjikhbgippaaDoor.Pha
set_option linter.unusedVariables false
set_option linter.unusedSimpArgs false
set_option maxRecDepth 100000

/-- facts are few, and their rows -/
structure Few (l : List Fc) : Prop where
  len : l.length ≤ 60
  row : ∀ x ∈ l, x.r.zs.length ≤ 64
/-- what short answers -/
def ShortP (w : World) (l : List Fc) (e : Ending) (w' : World) : Prop := ∃ b, e = .returned (.bool b) ∧ w = w' ∧ (b = true → Few l)
theorem short_any (l : List Fc) (A : Option Addr) (n c : Nat) (w : World) (hl : l.length = n) (hn : n ≤ maxLen) (hs : Sh w A l) :
    Calls Tryd.prog 7 #[.slice A n c] w (ShortP w l) := by
  unfold maxLen at hn
  have HS := Lib.hid hs
  have HN := Lib.hid hn
  have HL := Lib.hid hl
  clear hl hs hn
  go_enter Tryd.func7, Tryd.ntmps7
  go_wp2
  go_loop [3] (fun i => ∃ k : Nat, i = .int .i64 k ∧ k ≤ n ∧ Hid (∀ (t : Nat) (x : Fc), t < k → l[t]? = some x → x.r.zs.length ≤ 64)) (fun i => n - (intOf i).toNat)
  case atStart => exact ⟨0, rfl, Nat.zero_le _, Lib.hid fun t x h => by omega⟩
  case round =>
    obtain ⟨k, rfl, hk, hM⟩ := hrel
    by_cases hlt : k < n
    · obtain ⟨x, hx⟩ : ∃ x, l[k]? = some x := ⟨_, List.getElem?_eq_getElem (by rw [HL.out]; omega)⟩
      obtain ⟨b, o, rfl, hbb, c0, c1, c2, c3, c4⟩ := facts_at HS.out.see k hx
      obtain ⟨q, hq⟩ : ∃ q, x.r.zs.length = q := ⟨_, rfl⟩
      unfold RowN.val at c3
      rw [hq] at c3
      have i1 : (k : Int) < (n : Int) := by omega
      have e3 : IntKind.i64.wrap ((k : Int) + 1) = ((k + 1 : Nat) : Int) := by rw [IntWalk.i64_in _ (by have := HN.out; omega)]; rfl
      clear c0 c1 c2 c4
      by_cases h64 : 64 < q
      · have i2 : (64 : Int) < (q : Int) := by omega
        clear hx hq
        go_wp2
        go_ret
        exact ⟨false, rfl, rfl, fun h => by cases h⟩
      · have i2 : ¬ (64 : Int) < (q : Int) := by omega
        have hM2 : Hid (∀ (t : Nat) (x : Fc), t < k + 1 → l[t]? = some x → x.r.zs.length ≤ 64) := Lib.hid fun t y ht hy => by
          by_cases e : t = k
          · subst e
            obtain rfl := Option.some.inj (hx.symm.trans hy)
            omega
          · exact hM.out t y (by omega) hy
        clear hx hq
        go_wp2
        go_round
        case rel => exact ⟨k + 1, rfl, by omega, hM2⟩
        case measure => simp [intOf]; omega
    · obtain rfl : k = n := by omega
      by_cases h60 : k ≤ 60
      · have i1 : (k : Int) ≤ 60 := by omega
        go_wp2
        go_ret
        refine ⟨true, rfl, rfl, fun _ => ⟨by rw [HL.out]; exact h60, fun x hx => ?_⟩⟩
        obtain ⟨t, ht⟩ := List.mem_iff_getElem?.1 hx
        exact hM.out t x (by have := (List.getElem?_eq_some_iff.1 ht).1; have := HL.out; omega) ht
      · have i1 : ¬ (k : Int) ≤ 60 := by omega
        go_wp2
        go_ret
        exact ⟨false, rfl, rfl, fun h => by cases h⟩

theorem info_rF : (Tryd.prog.info? 44).map (fun i => (i.zero, i.size, i.bytes)) = some (some (.agg #[.int .i64 0, .int .i64 0, .int .i64 0, .slice none 0 0, .int .u64 0]), 5, 56) := by kernel_rfl
theorem bx5 {W : World} {B : Nat} {a b c d f : Value} (h : Bx W B #[a, b, c, d, f]) : ∀ j u, [a, b, c, d, f][j]? = some u → W.cell? ((⟨B, 0, none⟩ : Addr).add j) = some u := by
  intro j u hj
  rw [Addr.add_lit, Nat.zero_add]
  exact h.cell (by simpa using hj)
theorem five_one (a b c : Int) (r : RowN) (d : Int) : ∀ u ∈ [Value.int .i64 a, .int .i64 b, .int .i64 c, r.val, .int .u64 d], u.oneCell' = true := by
  intro u hu
  simp only [List.mem_cons, List.not_mem_nil, or_false] at hu
  rcases hu with rfl | rfl | rfl | rfl | rfl <;> rfl
theorem own_formN {w : World} {base size : Nat} {e : TypeId} {v : Value} {n : Nat} {xs : List Value} (h : w.ownsRow base e size v n xs) (hs : 0 < size) :
    ∃ A c, v = .slice A n c ∧ n ≤ c ∧ Sees w w.heap.size A xs ∧ ∀ g, v.ownBlock = some g → base ≤ g ∧ g < w.heap.size := by
  have hl := h.lt
  rcases h.2 with ⟨hv, h0⟩ | ⟨g, cap, cur, hv, hb, hg, hn, _⟩
  · subst hv; subst h0
    have : xs = [] := List.eq_nil_of_length_eq_zero (by have := h.1; simpa using this)
    exact ⟨none, 0, rfl, Nat.le_refl _, .inl this, hl⟩
  · subst hv
    refine ⟨_, cap, rfl, hn, .inr ⟨g, 0, rfl, (Array.getElem?_eq_some_iff.1 hg).1, fun j u hu => ?_⟩, hl⟩
    have := h.cells (g := g) rfl j u hu
    rwa [Addr.add_lit] at this
theorem fcc_snoc {l : List Fc} {q : Nat} {x : Fc} (h : l[q]? = some x) : ((l.take (q + 1)).map fcc).flatten = ((l.take q).map fcc).flatten ++ fcc x := by
  rw [List.take_add_one, h]; simp

set_option maxHeartbeats 6400000 in
theorem all_any (l : List Fc) (A : Option Addr) (n c : Nat) (w : World) (hl : l.length = n) (hn : n ≤ 1000) (hs : Sh w A l) :
    Calls Tryd.prog 8 #[.slice A n c] w fun e w' => ∃ B k, e = .returned (.slice B n k) ∧ Hid (Bw w w') ∧ Hid (Sees w' w'.heap.size B (l.map fcc).flatten) := by
  obtain ⟨i0, hi, hz0, hz1, hz2⟩ := info_parts info_rF
  have HS := Lib.hid hs
  have HL := Lib.hid hl
  have K0 : Hid (Bw w w) := Lib.hid (Bw.refl w)
  clear hl hs
  go_enter Tryd.func8, Tryd.ntmps8
  go_wp2
  go_loopw [3, 4] (fun v i wr => ∃ q : Nat, q ≤ n ∧ i = .int .i64 q ∧ Hid (Bw w wr) ∧ wr.ownsRow w.heap.size 44 5 v q ((l.take q).map fcc).flatten) (fun _ i _ => n - (intOf i).toNat)
  case atStart => exact ⟨0, Nat.zero_le _, rfl, K0, by simpa using World.ownsRow_nil _ _ _ _⟩
  case round =>
    clear K0
    obtain ⟨q, hq, rfl, K, hown⟩ := hrel
    have hwr : w.heap.size ≤ wr.heap.size := K.out.size
    by_cases hlt : q < n
    · obtain ⟨x, hx⟩ : ∃ x, l[q]? = some x := ⟨_, List.getElem?_eq_getElem (by rw [HL.out]; omega)⟩
      obtain ⟨bb, o, rfl, hbb, c0, c1, c2, c3, c4⟩ := facts_at (HS.out.bw K.out).see q hx
      obtain ⟨pw, dr, cp, ⟨Ar, cr, zs⟩, rs⟩ := x
      have HT : Hid (((l.take (q + 1)).map fcc).flatten = ((l.take q).map fcc).flatten ++ [.int .i64 pw, .int .i64 dr, .int .i64 cp, .slice Ar zs.length cr, .int .u64 (rs : Nat)]) := Lib.hid (fcc_snoc hx)
      have H5 := Lib.hid (five_one pw dr cp ⟨Ar, cr, zs⟩ (rs : Nat))
      unfold RowN.val at c3 H5
      simp only at c0 c1 c2 c3 c4 H5
      generalize zs.length = qr at *
      have i1 : (q : Int) < (n : Int) := by omega
      have e3 : IntKind.i64.wrap ((q : Int) + 1) = ((q + 1 : Nat) : Int) := by rw [IntWalk.i64_in _ (by omega)]; rfl
      have HLT := Lib.hid hlt
      have hjS : Hid (JS wr [] wr) := Lib.hid (J.start wr)
      have hmx : Tryd.prog.follows .mixedOrders = true := by kernel_rfl
      clear hx
      go_wp2
      refine wp_region_build 27 _ #[.int .i64 pw, .int .i64 dr, .int .i64 cp, .slice Ar qr cr, .int .u64 (rs : Nat)] 44 1 _ 38 JS.closed hjS.out hmx (by kernel_rfl) (by kernel_rfl) rfl rfl rfl ?_
      simp only [List.take_succ_cons, List.take_zero, List.drop_succ_cons, List.drop_zero]
      apply Exists.intro
      refine ⟨fun w10 h10 => ?_, ?_, fun B W1 hJ1 hb1 hB hBx => ?_⟩
      · haveI := Ext.some h10
        have q0 := ext_old h10 (a := ⟨bb, o + q * 5, none⟩) hbb c0
        have q1 := ext_old h10 (a := ⟨bb, o + q * 5 + 1, none⟩) hbb c1
        have q2 := ext_old h10 (a := ⟨bb, o + q * 5 + 2, none⟩) hbb c2
        have q3 := ext_old h10 (a := ⟨bb, o + q * 5 + 3, none⟩) hbb c3
        have q4 := ext_old h10 (a := ⟨bb, o + q * 5 + 4, none⟩) hbb c4
        repeat go_big_quiet_step (fail)
        exact wpQuiet_nil rfl
      · intro w'
        simp [execOp, Act.eval, go_sem]
      have hB1 : Below wr.heap.size wr W1 := J.below hJ1
      have K1 := Lib.hid (K.out.next hB1)
      have hrow1 := own_below hown hB1 (fun k hk => (hown.lt k hk).2)
      have hW1 : w.heap.size ≤ W1.heap.size := K1.out.size
      have HBx := Lib.hid hBx
      clear c0 c1 c2 c3 c4 hJ1 hb1 hjS hB1 hown hBx K
      change wpList _ _ _ _ _ _
      go_wp2_with (at_builtin; go_loud (refine wpList_append_own_at _ rfl (.tmp 11) (.tmp 38) 25 rfl w.heap.size 44 i0 (.agg #[.int .i64 0, .int .i64 0, .int .i64 0, .slice none 0 0, .int .u64 0]) 5 56 Tryd.underlying25 hi hz0 hz1 hz2 rfl (by decide) _ _ _ rfl hrow1 ⟨B, 0, none⟩ 1 1 [.int .i64 pw, .int .i64 dr, .int .i64 cp, .slice Ar qr cr, .int .u64 (rs : Nat)] rfl rfl (bx5 HBx.out) H5.out (by unfold maxLen; omega) (by omega) hW1 ?_); go_loud (intro v' w11 hown11 hg11 _ hat11; have K2 := Lib.hid (K1.out.grown hg11 hW1 (fun g e => (hrow1.lt g e).1))))
      go_roundw
      case rel => exact ⟨q + 1, by omega, rfl, K2, by rw [HT.out]; exact hown11⟩
      case measure => have := HLT.out; simp [intOf]; omega
    · obtain rfl : q = n := by omega
      rw [List.take_of_length_le (by rw [HL.out]; exact Nat.le_refl _)] at hown
      obtain ⟨B, k, rfl, _, hsee, _⟩ := own_formN hown (by decide)
      have HSE := Lib.hid hsee
      clear hsee hown
      go_wp2
      go_ret
      exact ⟨B, k, rfl, K, HSE⟩

set_option maxHeartbeats 1600000 in
/-- the reference's Frees -/
theorem rFrees_any (l : List Fc) (A : Option Addr) (n c : Nat) (car frm : Int) (hfr : frm < 9223372036854775808) (m : Nat) (hm : frm.toNat = m) (w : World) (hl : l.length = n) (hn : n ≤ maxLen) (hs : Sh w A l) (v : Int) (hv : Fi (rst l car) m n v) :
    Calls Tryd.prog 14 #[.slice A n c, .int .i64 car, .int .i64 frm] w fun e w' => e = .returned (.int .i64 (fz v m)) ∧ w = w' := by
  unfold maxLen at hn
  have HH : Hid (∀ x W, x ∈ l → Calls Tryd.prog 28 #[.int .u64 (x.rs : Nat), .int .i64 car] W fun e w' => e = .returned (.bool (hb x.rs car)) ∧ W = w') := Lib.hid fun x W hx => Ord.roHas_any x.rs car W (hs.bits x hx)
  have hlt' := hv.lt
  have HZ : Hid (¬ v = -1 → IntKind.i64.wrap (v - m) = v - m) := Lib.hid fun h => IntWalk.i64_in _ (by omega)
  have HS := Lib.hid hs
  have HN := Lib.hid hn
  have HL := Lib.hid hl
  have HV := Lib.hid hv
  have key : Calls Tryd.prog 14 #[.slice A n c, .int .i64 car, .int .i64 frm] w fun e w' => e = .returned (.int .i64 (fz v m)) ∧ w = w' := by
    have hcase : (frm < 0 ∧ m = 0) ∨ (¬ frm < 0 ∧ frm = (m : Int)) := by omega
    clear hl hs hn hv hlt' hm hfr
    rcases hcase with ⟨h0, rfl⟩ | ⟨h0, rfl⟩
    all_goals
      go_enter Tryd.func14, Tryd.ntmps14
      go_wp2
    · go_loop [7, 8] (fun i _ => ∃ k : Nat, i = .int .i64 k ∧ 0 ≤ k ∧ Hid (∀ t, 0 ≤ t → t < k → rst l car t = false)) (fun i _ => n - (intOf i).toNat)
      case atStart => exact ⟨0, rfl, Nat.le_refl _, Lib.hid fun t a b => by omega⟩
      case round =>
        obtain ⟨k, rfl, hk, hM⟩ := hrel
        by_cases hlt : k < n
        · obtain ⟨x, hx⟩ : ∃ x, l[k]? = some x := ⟨_, List.getElem?_eq_getElem (by rw [HL.out]; omega)⟩
          obtain ⟨b, o, rfl, hbb, c0, c1, c2, c3, c4⟩ := facts_at HS.out.see k hx
          have HA := Lib.hid fun W => HH.out x W (List.mem_of_getElem? hx)
          have HR := Lib.hid (rst_at (car := car) hx)
          have i1 : (k : Int) < (n : Int) := by omega
          have e3 : IntKind.i64.wrap ((k : Int) + 1) = ((k + 1 : Nat) : Int) := by rw [IntWalk.i64_in _ (by have := HN.out; omega)]; rfl
          clear hx HH c0 c1 c2 c3
          generalize x.rs = rs at *
          cases hh : hb rs car
          · rw [hh] at HA HR
            have HM2 : Hid (∀ t, 0 ≤ t → t < k + 1 → rst l car t = false) := Lib.hid fun t a b => by
              by_cases e : t = k
              · subst e; exact HR.out
              · exact hM.out t a (by omega)
            clear hh
            go_wp2_with (go_at_call 28; ((with_reducible refine (HA.out _).mono ?_); rintro e w1 ⟨rfl, rfl⟩))
            go_round
            case rel => exact ⟨k + 1, rfl, by omega, HM2⟩
            case measure => simp [intOf]; omega
          · rw [hh] at HA HR
            have HE : Hid (v = k) := Lib.hid (HV.out.one ((Fi.here hlt HR.out).from hk hM.out))
            have e4 : wrap64 (k : Int) = (k : Int) := by have := HN.out; unfold wrap64; omega
            have HF : Hid (fz v 0 = k) := Lib.hid (by unfold fz; rw [HE.out]; rw [if_neg (by omega)]; omega)
            clear hh
            go_wp2_with (go_at_call 28; ((with_reducible refine (HA.out _).mono ?_); rintro e w1 ⟨rfl, rfl⟩))
            go_ret
            exact ⟨ret_int (e4.trans HF.out.symm), rfl⟩
        · have i1 : ¬ (k : Int) < (n : Int) := by omega
          have HE : Hid (v = -1) := Lib.hid (HV.out.one ((Fi.none _ (Nat.le_of_not_lt hlt)).from hk hM.out))
          have HF : Hid (fz v 0 = -1) := Lib.hid (by unfold fz; rw [if_pos HE.out])
          go_wp2
          go_ret
          exact ⟨ret_int HF.out.symm, rfl⟩
    · go_loop [7, 8] (fun i _ => ∃ k : Nat, i = .int .i64 k ∧ m ≤ k ∧ Hid (∀ t, m ≤ t → t < k → rst l car t = false)) (fun i _ => n - (intOf i).toNat)
      case atStart => exact ⟨m, rfl, Nat.le_refl _, Lib.hid fun t a b => by omega⟩
      case round =>
        obtain ⟨k, rfl, hk, hM⟩ := hrel
        by_cases hlt : k < n
        · obtain ⟨x, hx⟩ : ∃ x, l[k]? = some x := ⟨_, List.getElem?_eq_getElem (by rw [HL.out]; omega)⟩
          obtain ⟨b, o, rfl, hbb, c0, c1, c2, c3, c4⟩ := facts_at HS.out.see k hx
          have HA := Lib.hid fun W => HH.out x W (List.mem_of_getElem? hx)
          have HR := Lib.hid (rst_at (car := car) hx)
          have i1 : (k : Int) < (n : Int) := by omega
          have e3 : IntKind.i64.wrap ((k : Int) + 1) = ((k + 1 : Nat) : Int) := by rw [IntWalk.i64_in _ (by have := HN.out; omega)]; rfl
          clear hx HH c0 c1 c2 c3
          generalize x.rs = rs at *
          cases hh : hb rs car
          · rw [hh] at HA HR
            have HM2 : Hid (∀ t, m ≤ t → t < k + 1 → rst l car t = false) := Lib.hid fun t a b => by
              by_cases e : t = k
              · subst e; exact HR.out
              · exact hM.out t a (by omega)
            clear hh
            go_wp2_with (go_at_call 28; ((with_reducible refine (HA.out _).mono ?_); rintro e w1 ⟨rfl, rfl⟩))
            go_round
            case rel => exact ⟨k + 1, rfl, by omega, HM2⟩
            case measure => simp [intOf]; omega
          · rw [hh] at HA HR
            have HE : Hid (v = k) := Lib.hid (HV.out.one ((Fi.here hlt HR.out).from hk hM.out))
            have e4 : IntKind.i64.wrap ((k : Int) - m) = (k : Int) - m := by rw [IntWalk.i64_in _ (by have := HN.out; omega)]
            have HF : Hid (fz v m = k - m) := Lib.hid (by unfold fz; rw [HE.out]; rw [if_neg (by omega)])
            clear hh
            go_wp2_with (go_at_call 28; ((with_reducible refine (HA.out _).mono ?_); rintro e w1 ⟨rfl, rfl⟩))
            go_ret
            exact ⟨ret_int HF.out.symm, rfl⟩
        · have i1 : ¬ (k : Int) < (n : Int) := by omega
          have HE : Hid (v = -1) := Lib.hid (HV.out.one ((Fi.none _ (Nat.le_of_not_lt hlt)).from hk hM.out))
          have HF : Hid (fz v m = -1) := Lib.hid (by unfold fz; rw [if_pos HE.out])
          go_wp2
          go_ret
          exact ⟨ret_int HF.out.symm, rfl⟩
  exact key
end Go.Proofs.YthgfjikhbgippaaDoor.Wat
