/- Walk of OctetTwo. -/
import Derived.Test.YtlgondcdfoghpaaOctF
import Derived.OpenShut
import Derived.SizedLaws
import Derived.Deep.RegionHeld3
import Derived.Deep.RegionWith
import Derived.Deep.DrawnRows
namespace Go.Proofs.Ytlgondcdfoghpaa.Walk
open Go.RowKit Go.Proofs.Ytlgondcdfoghpaa.Plain Go.Proofs.Ytlgondcdfoghpaa.Sees Go.Proofs.Ytlgondcdfoghpaa.Oct
set_option linter.unusedVariables false
attribute [local go_sem ↓] Go.wp_at_zero Go.wp_at_succ

theorem part_len (z : List RowV) (M : Nat) (h : ∀ r ∈ z, r.bs.length ≤ M) : ∀ k, k ≤ z.length → (joinB ((z.take k).map RowV.bs)).length ≤ k * (M + 2) := by
  intro k
  induction k with
  | zero => intro _; simp [joinB]
  | succ k ih =>
    intro hk
    have h1 := h (z[k]) (List.getElem_mem (by omega))
    rw [List.take_succ_eq_append_getElem (by omega), List.map_append, joinB_append, List.length_append]
    have h2 := ih (by omega)
    have h3 : (joinB (List.map RowV.bs [z[k]])).length = z[k].bs.length + 2 := by simp [joinB, lowB_length]; omega
    rw [Nat.succ_mul]
    omega
theorem row_len (z : List RowV) : ∀ r ∈ z, r.bs.length ≤ (joinB (z.map RowV.bs)).length := by
  induction z with
  | nil => intro r hr; cases hr
  | cons x z ih =>
    intro r hr
    simp only [List.map_cons, joinB, List.length_append]
    rcases List.mem_cons.1 hr with rfl | h
    · omega
    · have := ih r h; omega

/-- What Join gives: a slice that shows the bytes. -/
def JoinSees (w : World) (m : Nat) (cs : List Int) (e : Ending) (w' : World) : Prop :=
  ∃ A c, e = .returned (.slice A m c) ∧ m ≤ c ∧ Sees w' w'.heap.size A (nums .u8 cs) ∧ Below w.heap.size w w'
theorem Join_sees (m c n : Nat) (a : Option Addr) (rs : List RowV) (bs : List Int) (w W : World) (hlen : rs.length = m) (hm : m ≤ 40) (hrow : ∀ r ∈ rs, r.bs.length ≤ 60000)
    (hsee : Sees w w.heap.size a (rs.map RowV.val)) (hok : ∀ r ∈ rs, r.Ok w w.heap.size) (hb : Below w.heap.size w W) (hbs : joinB (rs.map RowV.bs) = bs) (hn : bs.length = n) :
    Calls Try.prog 20 #[.slice a m c] W (JoinSees W n bs) := by
  subst hbs
  refine (Join_any m c a rs W hlen (by omega) hrow ((hsee.below hb (Nat.le_refl _)).more hb.size) (fun r hr => ⟨(hok r hr).cap, ((hok r hr).see.below hb (Nat.le_refl _)).more hb.size, (hok r hr).byte⟩)).mono ?_
  rintro e w' ⟨v, rfl, ho, hd⟩
  rw [hn] at ho
  obtain ⟨A, c, rfl, hc, hs, _⟩ := own_form ho
  exact ⟨A, c, rfl, hc, hs, hd⟩

set_option maxHeartbeats 3200000 in
theorem octetTwo_walk (w : World) (a0 : Option Addr) (len0 cap0 : Nat) (z0 : List RowV) (a1 : Option Addr) (len1 cap1 : Nat) (z1 : List RowV)
    (hl0 : z0.length = len0) (hc0 : len0 ≤ cap0) (hx0 : cap0 ≤ maxLen) (hs0 : Sees w w.heap.size a0 (z0.map RowV.val)) (hw0 : ∀ r ∈ z0, r.Ok w w.heap.size) (hr0 : ∀ r ∈ z0, r.bs.length ≤ reachBytes)
    (hl1 : z1.length = len1) (hc1 : len1 ≤ cap1) (hx1 : cap1 ≤ maxLen) (hs1 : Sees w w.heap.size a1 (z1.map RowV.val)) (hw1 : ∀ r ∈ z1, r.Ok w w.heap.size) (hr1 : ∀ r ∈ z1, r.bs.length ≤ reachBytes) :
    Calls Try.prog 10 #[.slice a0 len0 cap0, .slice a1 len1 cap1] w fun e w' => e = .returned (.bool true) ∧ Below w.heap.size w w' := by
  unfold maxLen at hx0 hx1
  obtain ⟨i1, hj, hy0, hy1, hy2⟩ := info_parts info_u8s
  have hp0 := part_len z0 reachBytes hr0
  have hp1 := part_len z1 reachBytes hr1
  simp only [reachBytes] at hr0 hr1 hp0 hp1
  have HL0 := Lib.hid hl0
  have HL1 := Lib.hid hl1
  have HW0 := Lib.hid hw0
  have HW1 := Lib.hid hw1
  have HR0 := Lib.hid hr0
  have HR1 := Lib.hid hr1
  have HP0 := Lib.hid hp0
  have HP1 := Lib.hid hp1
  clear hl0 hl1 hw0 hw1 hr0 hr1 hp0 hp1
  by_cases hbig : 20 < len0 ∨ 20 < len1
  · rcases (show 20 < len0 ∨ ¬ 20 < len0 ∧ 20 < len1 by omega) with h | ⟨h, h2⟩
    all_goals
      go_enter Try.func10, Try.ntmps10
      go_wp2_with (go_at_call 12; refine (awake_any _).mono ?_; rintro e w1 ⟨rfl, hd1⟩)
      go_ret
      exact ⟨rfl, hd1⟩
  · have h20 : len0 ≤ 20 := by omega
    have h21 : len1 ≤ 20 := by omega
    clear hbig
    go_enter Try.func10, Try.ntmps10
    go_wp2_with (go_at_call 12; refine (awake_any _).mono ?_; rintro e w1 ⟨rfl, hd1⟩)
    go_loopw [6, 7, 8] (fun n all i wr => ∃ k : Nat, k ≤ len0 ∧ i = .int .i64 k ∧ n = .int .i64 ((joinB ((z0.take k).map RowV.bs)).length : Nat) ∧ wr.ownsRow w.heap.size 26 1 all k ((z0.take k).map RowV.val) ∧ Below w.heap.size w wr)
      (fun _ _ i _ => len0 - (intOf i).toNat)
    case atStart => exact ⟨0, Nat.zero_le _, rfl, rfl, World.ownsRow_nil _ _ _ _, hd1⟩
    case round =>
      obtain ⟨k, hk, rfl, rfl, hown, hbel⟩ := hrel
      have hsz := hbel.size
      have hpk := HP0.out k (by rw [HL0.out]; exact hk)
      have hpk2 : k * (140737488351232 + 2) ≤ 20 * (140737488351232 + 2) := Nat.mul_le_mul_right _ (by omega)
      by_cases hlt : k < len0
      · have hk' : k < z0.length := by rw [HL0.out]; exact hlt
        have hel : (z0.map RowV.val)[k]? = some (z0[k].val) := by simp [hk']
        obtain ⟨b, o, rfl, hbB, hc⟩ := hs0.at_ hel
        have hc' := (bcell hbel b (o + k) hbB).trans hc
        have hrk := HR0.out z0[k] (List.getElem_mem hk')
        have hsn : (joinB ((z0.take (k + 1)).map RowV.bs)).length = (joinB ((z0.take k).map RowV.bs)).length + (z0[k].bs.length + 2) := by
          rw [List.take_succ_eq_append_getElem hk', List.map_append, List.map_cons, List.map_nil, joinB_snoc]
          simp [lowB_length]; omega
        have hsv : (z0.take (k + 1)).map RowV.val = (z0.take k).map RowV.val ++ [z0[k].val] := by
          rw [List.take_succ_eq_append_getElem hk', List.map_append, List.map_cons, List.map_nil]
        generalize (joinB ((z0.take k).map RowV.bs)).length = N at *
        generalize (z0.take k).map RowV.val = vals at *
        generalize hrk' : z0[k] = r at *
        obtain ⟨A, C, bs⟩ := r
        simp only [RowV.val] at hc' hrk hsn hsv
        generalize bs.length = L at *
        have HSN := Lib.hid hsn
        have HSV := Lib.hid hsv
        clear hsn hsv hc hel hrk'
        go_wp2_with (at_builtin; refine wpList_append_own_at _ rfl (.tmp 36) (.tmp 41) 34 rfl w.heap.size 26 i1 (.slice none 0 0) 1 24 Try.underlying34 hj hy0 hy1 hy2 rfl (by omega) u7 k _ rfl (hown.alloc _) ⟨wr.heap.size, 0, none⟩ 1 1 [_] rfl rfl (new_cell _ _ _) (one_slice _ _ _) (by unfold maxLen; omega) (by omega) (by simp; omega) ?_; intro v1 w2 hown1 hg1 _ hat1)
        go_roundw
        case rel => exact ⟨k + 1, by omega, by go_num, by rw [HSN.out]; go_num, by rw [HSV.out]; exact hown1, (hbel.alloc hsz _).grown hg1 (by simp; omega) (fun g hg => (hown.lt g hg).1)⟩
        case measure => simp [intOf]; omega
      · obtain rfl : len0 = k := by omega
        go_wp2
        have ht0 : z0.take len0 = z0 := List.take_of_length_le (by rw [HL0.out]; exact Nat.le_refl _)
        rw [ht0] at hown hpk ⊢
        clear ht0
        have hN0 : (joinB (z0.map RowV.bs)).length ≤ 20 * (140737488351232 + 2) := Nat.le_trans hpk hpk2
        have HN0 := Lib.hid hN0
        clear hpk hpk2 hN0
        go_loopw [6, 7, 9] (fun n all i wr => ∃ k : Nat, k ≤ len1 ∧ i = .int .i64 k ∧ n = .int .i64 ((joinB (z0.map RowV.bs ++ (z1.take k).map RowV.bs)).length : Nat) ∧ wr.ownsRow w.heap.size 26 1 all (len0 + k) (z0.map RowV.val ++ (z1.take k).map RowV.val) ∧ Below w.heap.size w wr)
          (fun _ _ i _ => len1 - (intOf i).toNat)
        case atStart => exact ⟨0, Nat.zero_le _, rfl, by simp only [List.take_zero, List.map_nil, List.append_nil], by simpa only [List.take_zero, List.map_nil, List.append_nil, Nat.add_zero] using hown, hbel⟩
        case round =>
          clear hown hbel hsz
          obtain ⟨k, hk, rfl, rfl, hown, hbel⟩ := hrel
          have hsz := hbel.size
          have hpk := HP1.out k (by rw [HL1.out]; exact hk)
          have hpk2 : k * (140737488351232 + 2) ≤ 20 * (140737488351232 + 2) := Nat.mul_le_mul_right _ (by omega)
          have hNk : (joinB (z0.map RowV.bs ++ (z1.take k).map RowV.bs)).length ≤ 40 * (140737488351232 + 2) := by
            rw [joinB_append, List.length_append]
            have := HN0.out
            omega
          clear hpk hpk2
          by_cases hlt : k < len1
          · have hk' : k < z1.length := by rw [HL1.out]; exact hlt
            have hel : (z1.map RowV.val)[k]? = some (z1[k].val) := by simp [hk']
            obtain ⟨b, o, rfl, hbB, hc⟩ := hs1.at_ hel
            have hc' := (bcell hbel b (o + k) hbB).trans hc
            have hrk := HR1.out z1[k] (List.getElem_mem hk')
            have hsn : (joinB (z0.map RowV.bs ++ (z1.take (k + 1)).map RowV.bs)).length = (joinB (z0.map RowV.bs ++ (z1.take k).map RowV.bs)).length + (z1[k].bs.length + 2) := by
              rw [List.take_succ_eq_append_getElem hk', List.map_append, List.map_cons, List.map_nil, ← List.append_assoc, joinB_snoc]
              simp [lowB_length]; omega
            have hsv : z0.map RowV.val ++ (z1.take (k + 1)).map RowV.val = z0.map RowV.val ++ (z1.take k).map RowV.val ++ [z1[k].val] := by
              rw [List.take_succ_eq_append_getElem hk', List.map_append, List.map_cons, List.map_nil, ← List.append_assoc]
            generalize (joinB (z0.map RowV.bs ++ (z1.take k).map RowV.bs)).length = N at *
            generalize z0.map RowV.val ++ (z1.take k).map RowV.val = vals at *
            generalize hrk' : z1[k] = r at *
            obtain ⟨A, C, bs⟩ := r
            simp only [RowV.val] at hc' hrk hsn hsv
            generalize bs.length = L at *
            have HSN := Lib.hid hsn
            have HSV := Lib.hid hsv
            clear hsn hsv hc hel hrk'
            go_wp2_with (at_builtin; refine wpList_append_own_at _ rfl (.tmp 57) (.tmp 62) 34 rfl w.heap.size 26 i1 (.slice none 0 0) 1 24 Try.underlying34 hj hy0 hy1 hy2 rfl (by omega) u7 (len0 + k) _ rfl (hown.alloc _) ⟨wr.heap.size, 0, none⟩ 1 1 [_] rfl rfl (new_cell _ _ _) (one_slice _ _ _) (by unfold maxLen; omega) (by omega) (by simp; omega) ?_; intro v1 w2 hown1 hg1 _ hat1)
            go_roundw
            case rel => exact ⟨k + 1, by omega, by go_num, by rw [HSN.out]; go_num, by rw [HSV.out]; exact hown1, (hbel.alloc hsz _).grown hg1 (by simp; omega) (fun g hg => (hown.lt g hg).1)⟩
            case measure => simp [intOf]; omega
          · obtain rfl : len1 = k := by omega
            have ht1 : z1.take len1 = z1 := List.take_of_length_le (by rw [HL1.out]; exact Nat.le_refl _)
            rw [ht1] at hown hNk ⊢
            clear ht1
            rw [← List.map_append] at hown hNk ⊢
            have hmap : z0.map RowV.bs ++ z1.map RowV.bs = (z0 ++ z1).map RowV.bs := by rw [List.map_append]
            obtain ⟨A, C, rfl, hC, hsA, _⟩ := own_form hown
            have hjl : (joinB ((z0 ++ z1).map RowV.bs)) = joinB (z0.map RowV.bs) ++ joinB (z1.map RowV.bs) := by rw [List.map_append, joinB_append]
            have hrows := row_len (z0 ++ z1)
            have HJL := Lib.hid hjl
            have HROWS := Lib.hid hrows
            clear hjl hrows hmap
            have hrb : ¬ (60000 : Int) < ((joinB ((z0 ++ z1).map RowV.bs)).length : Int) → ∀ r ∈ z0 ++ z1, r.bs.length ≤ 60000 := fun h r hr => by have := HROWS.out r hr; omega
            have hjA := fun h => Join_sees (len0 + len1) C _ A (z0 ++ z1) _ wr wr (by rw [List.length_append, HL0.out, HL1.out]) (by omega) (hrb h) hsA
              (fun r hr => (List.mem_append.1 hr).elim (fun h => ⟨(HW0.out r h).cap, ((HW0.out r h).see.below hbel (Nat.le_refl _)).more hsz, (HW0.out r h).byte⟩)
                (fun h => ⟨(HW1.out r h).cap, ((HW1.out r h).see.below hbel (Nat.le_refl _)).more hsz, (HW1.out r h).byte⟩)) (Below.refl _ _) HJL.out rfl
            have hj0 := fun h W hb => Join_sees len0 cap0 _ a0 z0 _ w W HL0.out (by omega) (fun r hr => hrb h r (by simp [hr])) hs0 HW0.out hb rfl rfl
            have hj1 := fun h W hb => Join_sees len1 cap1 _ a1 z1 _ w W HL1.out (by omega) (fun r hr => hrb h r (by simp [hr])) hs1 HW1.out hb rfl rfl
            have hlen : (joinB ((z0 ++ z1).map RowV.bs)).length = (joinB (z0.map RowV.bs) ++ joinB (z1.map RowV.bs)).length := by rw [HJL.out]
            generalize (joinB ((z0 ++ z1).map RowV.bs)).length = LN at *
            generalize joinB (z0.map RowV.bs) = b0 at *
            generalize joinB (z1.map RowV.bs) = b1 at *
            rw [← hlen] at hjA
            rw [List.length_append] at hlen
            generalize hm0 : b0.length = m0 at *
            generalize hm1 : b1.length = m1 at *
            have HM0 := Lib.hid hm0
            have HM1 := Lib.hid hm1
            have HLEN := Lib.hid hlen
            clear hm0 hm1 hlen hrb hown hNk
            have hLN0 : (0 : Int) ≤ (LN : Int) := by omega
            by_cases h6 : (60000 : Int) < (LN : Int)
            · clear hjA hj0 hj1
              go_wp2_with fail
              go_ret
              exact ⟨rfl, hbel⟩
            · have HA := Lib.hid (hjA h6)
              have H0 := Lib.hid (hj0 h6)
              have H1 := Lib.hid (hj1 h6)
              clear hjA hj0 hj1
              have hadd : ∀ W, (Op.stringOp .add (strOfNums b0) (strOfNums b1)).run Try.prog W = .ok (.string (strOfNums (b0 ++ b1))) W := fun W =>
                run_str_add W _ _ (by rw [HM0.out, HM1.out, ← HLEN.out]; omega)
              go_wp2_with (go_at_call 20
                           with_reducible refine HA.out.mono ?_
                           rintro e w2 ⟨A2, C2, rfl, hC2, sT, hd2⟩)
              have hB2 : Below w.heap.size w w2 := hbel.trans (hd2.mono hsz)
              have kT := conv_sees (w := w2.drew) (c := C2) (n := LN) (sT.kept (fun _ _ _ => rfl)) (by rw [List.length_append, HM0.out, HM1.out, HLEN.out])
              have hlr : ((LN : Int) == (LN : Int)) = true := by simp
              go_region_held (fun W' => (convert 26 9 (.slice A2 LN C2)).run Try.prog W' = .ok (.string (strOfNums (b0 ++ b1))) W') (first | exact kT | exact kT0 | exact kT1 | go_keep) ((first
                | (go_at_call_of 20 cap0
                   with_reducible refine (H0.out _ (by first | exact hB2.drew | exact hB1)).mono ?_
                   rintro e w0' ⟨A0, C0, rfl, hC0, s0, hd0⟩
                   first
                     | (have hB0 := hB2.drew.trans (hd0.mono hB2.size)
                        have g0 : Below w2.heap.size w2 w0' := (Below.refl _ w2).drew.trans hd0)
                     | (have hB0 := hB1.trans (hd0.mono hB1.size)
                        have g0 : Below w2.heap.size w2 w0' := g1.trans (hd0.mono g1.size)
                        have k1' := conv_sees (c := C1) (s1.below hd0 (Nat.le_refl _)) HM1.out)
                   have k0 := conv_sees (c := C0) s0 HM0.out
                   have kT0 := conv_sees (c := C2) (n := LN) (sT.below g0 (Nat.le_refl _)) (by rw [List.length_append, HM0.out, HM1.out, HLEN.out]))
                | (go_at_call_of 20 cap1
                   with_reducible refine (H1.out _ (by first | exact hB2.drew | exact hB0)).mono ?_
                   rintro e w1' ⟨A1, C1, rfl, hC1, s1, hd1⟩
                   first
                     | (have hB1 := hB2.drew.trans (hd1.mono hB2.size)
                        have g1 : Below w2.heap.size w2 w1' := (Below.refl _ w2).drew.trans hd1)
                     | (have hB1 := hB0.trans (hd1.mono hB0.size)
                        have g1 : Below w2.heap.size w2 w1' := g0.trans (hd1.mono g0.size)
                        have k0' := conv_sees (c := C0) (s0.below hd1 (Nat.le_refl _)) HM0.out)
                   have k1 := conv_sees (c := C1) s1 HM1.out
                   have kT1 := conv_sees (c := C2) (n := LN) (sT.below g1 (Nat.le_refl _)) (by rw [List.length_append, HM0.out, HM1.out, HLEN.out]))))
              all_goals
                go_wp2
                go_ret
                exact ⟨rfl, hB1⟩

end Go.Proofs.Ytlgondcdfoghpaa.Walk
