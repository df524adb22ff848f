/- Walk of OctetBack. -/
import Derived.Test.YtlgondcdfoghpaaOctW6
import Derived.Test.YtlgondcdfoghpaaOctW1
namespace Go.Proofs.Ytlgondcdfoghpaa.Walk
open Go.RowKit Go.Proofs.Ytlgondcdfoghpaa.Plain Go.Proofs.Ytlgondcdfoghpaa.Sees Go.Proofs.Ytlgondcdfoghpaa.Oct
set_option linter.unusedVariables false

theorem ofB_lowB2 (L : Nat) (h : L ≤ 65535) (l : List Int) : ofB ((lowB 2 (L : Int) ++ l).take 2) = L := by
  rw [List.take_left' (lowB_length 2 _)]
  exact ofB_lowB 2 L (by omega) (by omega)

theorem parts_joinB (rs : List (List Int)) (h : ∀ r ∈ rs, r.length ≤ 65535) : parts (joinB rs) = some rs := by
  induction rs with
  | nil => rw [joinB, parts_nil]
  | cons r rs ih =>
    have h1 := h r (by simp)
    have e : joinB (r :: rs) = lowB 2 r.length ++ (r ++ joinB rs) := by rw [joinB, List.append_assoc]
    have hl : (joinB (r :: rs)).length = 2 + r.length + (joinB rs).length := by rw [e]; simp [lowB_length]; omega
    rw [parts_step _ r.length (by omega) (by rw [e]; exact ofB_lowB2 _ h1 _), if_neg (by omega), e]
    have d1 : (lowB 2 (r.length : Int) ++ (r ++ joinB rs)).drop (2 + r.length) = joinB rs := by
      rw [← List.drop_drop, List.drop_left' (lowB_length 2 _), List.drop_left]
    have d2 : ((lowB 2 (r.length : Int) ++ (r ++ joinB rs)).drop 2).take r.length = r := by
      rw [List.drop_left' (lowB_length 2 _), List.take_left]
    rw [d1, d2, ih (fun x hx => h x (by simp [hx]))]
    rfl

theorem parts_take (rs : List (List Int)) (h : ∀ r ∈ rs, r.length ≤ 65535) : ∀ k, parts ((joinB rs).take k) = none ∨ ∃ qs, parts ((joinB rs).take k) = some qs ∧ qs.length ≤ rs.length := by
  induction rs with
  | nil => intro k; exact .inr ⟨[], by simp [joinB, parts_nil], by simp⟩
  | cons r rs ih =>
    intro k
    have h1 := h r (by simp)
    have e : joinB (r :: rs) = lowB 2 r.length ++ (r ++ joinB rs) := by rw [joinB, List.append_assoc]
    have hl : (joinB (r :: rs)).length = 2 + r.length + (joinB rs).length := by rw [e]; simp [lowB_length]; omega
    by_cases hk0 : k = 0
    · subst hk0
      exact .inr ⟨[], by rw [List.take_zero, parts_nil], by simp⟩
    by_cases hk1 : k = 1
    · subst hk1
      exact .inl (parts_one _ (by rw [List.length_take]; omega))
    obtain ⟨j, rfl⟩ : ∃ j, k = j + 2 := ⟨k - 2, by omega⟩
    have e2 : (joinB (r :: rs)).take (j + 2) = lowB 2 (r.length : Int) ++ (r ++ joinB rs).take j := by
      rw [e, List.take_append, lowB_length, List.take_of_length_le (by rw [lowB_length]; omega)]
      rfl
    have hlt : ((joinB (r :: rs)).take (j + 2)).length = min (j + 2) (2 + r.length + (joinB rs).length) := by rw [List.length_take, hl]
    rw [parts_step _ r.length (by rw [hlt]; omega) (by rw [e2]; exact ofB_lowB2 _ h1 _)]
    by_cases hf : ((joinB (r :: rs)).take (j + 2)).length < 2 + r.length
    · exact .inl (by rw [if_pos hf])
    · rw [if_neg hf]
      have d1 : ((joinB (r :: rs)).take (j + 2)).drop (2 + r.length) = (joinB rs).take (j - r.length) := by
        rw [e2, ← List.drop_drop, List.drop_left' (lowB_length 2 _), List.take_append, List.drop_append]
        rw [List.drop_eq_nil_of_le (by simp; omega), List.length_take, List.nil_append]
        rw [show r.length - min j r.length = 0 by omega]
        rfl
      rw [d1]
      rcases ih (fun x hx => h x (by simp [hx])) (j - r.length) with hq | ⟨qs, hq, hle⟩
      · exact .inl (by rw [hq]; rfl)
      · exact .inr ⟨_, by rw [hq]; rfl, by simp; omega⟩

theorem Join_strc (m c n : Nat) (a : Option Addr) (rs : List RowV) (bs : List Int) (w W : World) (hlen : rs.length = m) (hm : m ≤ 40) (hrow : ∀ r ∈ rs, r.bs.length ≤ 60000)
    (hsee : Sees w w.heap.size a (rs.map RowV.val)) (hok : ∀ r ∈ rs, r.Ok w w.heap.size) (hb : Below w.heap.size w W) (hbs : joinB (rs.map RowV.bs) = bs) (hn : bs.length = n) :
    Calls Try.prog 20 #[.slice a m c] W fun e w' => ∃ A c, e = .returned (.slice A n c) ∧ n ≤ c ∧ Sees w' w'.heap.size A (nums .u8 bs) ∧ Below W.heap.size W w' := by
  subst hbs
  refine (Join_any m c a rs W hlen (by omega) hrow ((hsee.below hb (Nat.le_refl _)).more hb.size) (fun r hr => ⟨(hok r hr).cap, ((hok r hr).see.below hb (Nat.le_refl _)).more hb.size, (hok r hr).byte⟩)).mono ?_
  rintro e w' ⟨v, rfl, ho, hd⟩
  rw [hn] at ho
  obtain ⟨A, c, rfl, hc, hs, _⟩ := own_form ho
  exact ⟨A, c, rfl, hc, hs, hd⟩
theorem sees_take {w : World} {B : Nat} {a : Option Addr} {k : IntKind} {xs : List Int} (h : Sees w B a (nums k xs)) (n : Nat) : Sees w B a (nums k (xs.take n)) := by
  rcases h with h | ⟨b, o, ha, hb, hc⟩
  · obtain rfl : xs = [] := by simpa [nums] using h
    exact .inl (by simp [nums])
  · refine .inr ⟨b, o, ha, hb, fun j u hu => hc j u ?_⟩
    simp only [nums, List.getElem?_map, List.getElem?_take] at hu ⊢
    split at hu
    · exact hu
    · simp at hu
/-- What Part leaves of bytes that are no whole rows, or fewer. -/
def PartLess (w : World) (m : Nat) (e : Ending) (w' : World) : Prop :=
  Below w.heap.size w w' ∧ (e = .returned (.tuple #[.slice none 0 0, .int .i64 10]) ∨ ∃ (A : Option Addr) (c n : Nat), n ≤ m ∧ e = .returned (.tuple #[.slice A n c, .int .i64 0]))
theorem Part_less (m c M : Nat) (a : Option Addr) (bs : List Int) (w : World) (hlen : bs.length = m) (hm : m ≤ 100000000) (hsee : Sees w w.heap.size a (nums .u8 bs)) (hb : ∀ b ∈ bs, 0 ≤ b ∧ b ≤ 255)
    (hp : parts bs = none ∨ ∃ qs, parts bs = some qs ∧ qs.length ≤ M) : Calls Try.prog 18 #[.slice a m c] w (PartLess w M) := by
  rcases hp with hp | ⟨qs, hp, hq⟩
  · exact (Part_none m c a bs w hlen hm hsee hb hp).mono fun e w' ⟨he, hd⟩ => ⟨hd, .inl he⟩
  · refine (Part_some m c qs.length a bs qs w hlen hm hsee hb hp rfl).mono ?_
    rintro e w' ⟨A, c', rs, _, he, _, _, hd⟩
    exact ⟨hd, .inr ⟨A, c', qs.length, hq, he⟩⟩

theorem lt_of_shift (x : Int) (n : Nat) (h0 : 0 ≤ x) (h : ¬ 0 < x / 2 ^ (8 * n)) : x < 256 ^ n := by
  rw [pow256] at h
  have hp : (0 : Int) < 256 ^ n := Int.pow_pos (by decide)
  rcases Int.lt_or_le x (256 ^ n) with h1 | h1
  · exact h1
  · have h2 : (1 : Int) ≤ x / 256 ^ n := (Int.le_ediv_iff_mul_le hp).2 (by rw [Int.one_mul]; exact h1)
    omega

set_option maxRecDepth 100000 in
set_option maxHeartbeats 6400000 in
theorem octetBack_walk (w : World) (a0 : Int) (a1 : Option Addr) (len1 cap1 : Nat) (z1 : List Int) (a2 : Option Addr) (len2 cap2 : Nat) (z2 : List RowV) (a3 : Int)
    (w0 : (Lit.int .u8 a0).wf = true)
    (hl1 : z1.length = len1) (hc1 : len1 ≤ cap1) (hx1 : cap1 ≤ maxLen) (hs1 : Sees w w.heap.size a1 (nums .u64 z1)) (hw1 : ∀ n ∈ z1, (Lit.int .u64 n).wf = true)
    (hl2 : z2.length = len2) (hc2 : len2 ≤ cap2) (hx2 : cap2 ≤ maxLen) (hs2 : Sees w w.heap.size a2 (z2.map RowV.val)) (hw2 : ∀ r ∈ z2, r.Ok w w.heap.size) (hr2 : ∀ r ∈ z2, r.bs.length ≤ reachBytes)
    (w3 : (Lit.int .u16 a3).wf = true) :
    Calls Try.prog 6 #[.int .u8 a0, .slice a1 len1 cap1, .slice a2 len2 cap2, .int .u16 a3] w fun e w' => e = .returned (.bool true) ∧ Below w.heap.size w w' := by
  unfold maxLen at hx1 hx2
  simp only [reachBytes] at hr2
  have hb0 := bounds_u8 w0
  have hb3 := bounds_u16 w3
  have HZ1 := Lib.hid (fun x hx => bounds_u64 (hw1 x hx) : ∀ x ∈ z1, 0 ≤ x ∧ x ≤ 18446744073709551615)
  have HL1 := Lib.hid hl1
  have HL2 := Lib.hid hl2
  have HW2 := Lib.hid hw2
  have HR2 := Lib.hid hr2
  clear w0 w3 hl1 hw1 hl2 hw2 hr2
  obtain ⟨n, hn, hn1, hn8⟩ : ∃ n : Nat, a0 % 8 + 1 = (n : Int) ∧ 1 ≤ n ∧ n ≤ 8 := ⟨(a0 % 8 + 1).toNat, by omega, by omega, by omega⟩
  have q1 : 0 ≤ a0 % 8 := by omega
  have q2 : a0 % 8 ≤ 7 := by omega
  by_cases hbig : 60 < len1 ∨ 20 < len2
  · rcases (show 60 < len1 ∨ ¬ 60 < len1 ∧ 20 < len2 by omega) with h | ⟨h, h2⟩
    all_goals
      go_enter Try.func6, Try.ntmps6
      go_wp2_with (go_at_call 12; refine (awake_any _).mono ?_; rintro e w1 ⟨rfl, hd1⟩)
      go_ret
      exact ⟨rfl, hd1⟩
  · have h60 : len1 ≤ 60 := by omega
    have h20 : len2 ≤ 20 := by omega
    clear hbig
    go_enter Try.func6, Try.ntmps6
    go_wp2_with (go_at_call 12; refine (awake_any _).mono ?_; rintro e w1 ⟨rfl, hd1⟩)
    go_loop [11] (fun i => ∃ k : Nat, k ≤ len1 ∧ i = .int .i64 k ∧ ∀ x ∈ z1.take k, x < 256 ^ n) (fun i => len1 - (intOf i).toNat)
    case atStart => exact ⟨0, Nat.zero_le _, rfl, fun x hx => by simp at hx⟩
    case round =>
      obtain ⟨k, hk, rfl, hfit⟩ := hrel
      have HF := Lib.hid hfit
      clear hfit
      by_cases hlt : k < len1
      · have hk' : k < z1.length := by rw [HL1.out]; exact hlt
        obtain ⟨b, o, rfl, hbB, hc⟩ := hs1.at_ (nums_at .u64 z1 k hk')
        have hx := HZ1.out _ (get_mem z1 k hk' 0)
        have hc' := (bcell hd1 b (o + k) hbB).trans hc
        have hts := take_snoc z1 k hk' 0
        generalize z1[k]?.getD 0 = x at hc' hx hts
        have HT := Lib.hid hts
        have HC := Lib.hid hc
        clear hts hc
        have hs0 : 0 ≤ x / 2 ^ (8 * n) := Int.ediv_nonneg hx.1 (Int.le_of_lt (Int.pow_pos (by decide)))
        have hfin : ¬ 0 < x / 2 ^ (8 * n) ∨ n = 8 → ∀ y ∈ z1.take (k + 1), y < 256 ^ n := by
          intro h y hy
          rw [HT.out] at hy
          rcases List.mem_append.1 hy with hy | hy
          · exact HF.out y hy
          · rw [List.mem_singleton] at hy
            subst hy
            rcases h with h | h
            · exact lt_of_shift y n hx.1 h
            · subst h
              have : (256 : Int) ^ 8 = 18446744073709551616 := by decide
              omega
        have HFIN := Lib.hid hfin
        clear hfin
        by_cases hn8' : (n : Int) < 8
        · by_cases hsh : 0 < x / 2 ^ (8 * n)
          · go_wp2
            go_ret
            exact ⟨rfl, hd1⟩
          · go_wp2
            go_round
            case rel => exact ⟨k + 1, by omega, by go_num, HFIN.out (.inl hsh)⟩
            case measure => simp [intOf]; omega
        · go_wp2
          go_round
          case rel => exact ⟨k + 1, by omega, by go_num, HFIN.out (.inr (by omega))⟩
          case measure => simp [intOf]; omega
      · obtain rfl : len1 = k := by omega
        have ht1 : z1.take len1 = z1 := List.take_of_length_le (by rw [HL1.out]; exact Nat.le_refl _)
        rw [ht1] at HF
        clear ht1
        go_wp2_with fail
        go_loop [12] (fun i => ∃ k : Nat, k ≤ len2 ∧ i = .int .i64 k ∧ ∀ r ∈ z2.take k, r.bs.length ≤ 600) (fun i => len2 - (intOf i).toNat)
        case atStart => exact ⟨0, Nat.zero_le _, rfl, fun x hx => by simp at hx⟩
        case round =>
          obtain ⟨k, hk, rfl, h600⟩ := hrel
          have H6 := Lib.hid h600
          clear h600
          by_cases hlt : k < len2
          · have hk' : k < z2.length := by rw [HL2.out]; exact hlt
            have hel : (z2.map RowV.val)[k]? = some (z2[k].val) := by simp [hk']
            obtain ⟨b, o, rfl, hbB, hc⟩ := hs2.at_ hel
            have hc' := (bcell hd1 b (o + k) hbB).trans hc
            have hrk := HR2.out z2[k] (List.getElem_mem hk')
            have hmem : z2.take (k + 1) = z2.take k ++ [z2[k]] := List.take_succ_eq_append_getElem hk'
            generalize z2[k] = r at *
            obtain ⟨A, C, bs⟩ := r
            simp only [RowV.val] at hc' hrk
            have HM := Lib.hid hmem
            clear hmem hc hel
            generalize hL : bs.length = L at *
            have HLL := Lib.hid hL
            clear hL
            by_cases h6 : (600 : Int) < (L : Int)
            · go_wp2
              go_ret
              exact ⟨rfl, hd1⟩
            · go_wp2
              go_round
              case rel =>
                refine ⟨k + 1, by omega, by go_num, ?_⟩
                rw [HM.out]
                intro r hr
                rcases List.mem_append.1 hr with h | h
                · exact H6.out r h
                · rw [List.mem_singleton] at h
                  subst h
                  show bs.length ≤ 600
                  rw [HLL.out]; omega
              case measure => simp [intOf]; omega
          · obtain rfl : len2 = k := by omega
            have ht2 : z2.take len2 = z2 := List.take_of_length_le (by rw [HL2.out]; exact Nat.le_refl _)
            rw [ht2] at H6
            clear ht2
            have hrow2 : ∀ r ∈ z2, r.bs.length ≤ 60000 := fun r hr => Nat.le_trans (H6.out r hr) (by omega)
            have hps := parts_joinB (z2.map RowV.bs) (fun r hr => by
              obtain ⟨q, hq, rfl⟩ := List.mem_map.1 hr
              have := hrow2 q hq; omega)
            have hpt := parts_take (z2.map RowV.bs) (fun r hr => by
              obtain ⟨q, hq, rfl⟩ := List.mem_map.1 hr
              have := hrow2 q hq; omega)
            have hSb := joinB_mem (z2.map RowV.bs) (fun r hr => by
              obtain ⟨q, hq, rfl⟩ := List.mem_map.1 hr
              exact (HW2.out q hq).byte)
            have hSl := joinB_le z2 600 H6.out
            have hj := fun W hb => Join_strc len2 cap2 _ a2 z2 _ w W HL2.out (by omega) hrow2 hs2 HW2.out hb rfl rfl
            have hget := fun (A : Option Addr) (c : Nat) (W : World) (hc : n * len1 ≤ c) (hs : Sees W W.heap.size A (nums .u8 (allB n z1))) =>
              Get_any n len1 c A (allB n z1) W hn1 hn8 (by rw [allB_length, HL1.out]) (by omega) hc hs (allB_mem n z1)
            have hgrp : grp len1 n (allB n z1) = z1 := by
              rw [← HL1.out]
              exact grp_allB n z1 (fun x hx => ⟨(HZ1.out x hx).1, HF.out x hx⟩)
            rw [hgrp] at hget
            rw [HL2.out] at hSl
            have hSl2 : (joinB (z2.map RowV.bs)).length ≤ 20 * 602 := Nat.le_trans hSl (Nat.mul_le_mul_right _ h20)
            have hpl : (z2.map RowV.bs).length = len2 := by rw [List.length_map, HL2.out]
            generalize joinB (z2.map RowV.bs) = S at *
            generalize hBL : S.length = BL at *
            have HGET := Lib.hid hget
            have HJ := Lib.hid hj
            have HPS := Lib.hid hps
            have HPT := Lib.hid hpt
            have HSB := Lib.hid hSb
            have HBL := Lib.hid hBL
            have HPL := Lib.hid hpl
            clear hget hj hps hpt hSb hBL hpl hgrp hSl hrow2
            go_wp2_with (first
              | (go_at_call 14
                 go_loud (refine (Put_any n len1 cap1 a1 z1 _ hn1 hn8 HL1.out (by omega) ((hs1.below hd1 (Nat.le_refl _)).more hd1.size) HZ1.out).mono ?_)
                 rintro e w2 ⟨v2, rfl, ho2, hd2⟩
                 obtain ⟨A2, C2, rfl, hC2, hs2', _⟩ := own_form ho2)
              | (go_at_call 15
                 go_loud (refine (HGET.out A2 C2 _ hC2 hs2').mono ?_)
                 rintro e w3 ⟨v3, rfl, ho3, hd3⟩
                 obtain ⟨A3, C3, rfl, hC3, hs3, _⟩ := own_form ho3
                 have g2 : Below w.heap.size w w2 := hd1.trans (hd2.mono hd1.size)
                 have g3 : Below w.heap.size w w3 := g2.trans (hd3.mono g2.size))
              | (go_at_call 20
                 go_loud (refine (HJ.out _ g3).mono ?_)
                 rintro e w4 ⟨A4, C4, rfl, hC4, hs4, hd4⟩
                 have g4 : Below w.heap.size w w4 := g3.trans (hd4.mono g3.size))
              | (go_at_call 18
                 go_loud (refine (Part_some BL C4 len2 A4 S _ _ HBL.out (by omega) hs4 HSB.out HPS.out HPL.out).mono ?_)
                 rintro e w5 ⟨A5, C5, rs5, hrs5, rfl, hs5, hok5, hd5⟩
                 have HRS5 := Lib.hid hrs5
                 have HOK5 := Lib.hid hok5
                 clear hrs5 hok5
                 have g5 : Below w.heap.size w w5 := g4.trans (hd5.mono g4.size)))
            have t3 : Sees w5 w5.heap.size A3 (nums .u64 z1) := (((hs3.below hd4 (Nat.le_refl _)).more hd4.size).below hd5 (Nat.le_refl _)).more hd5.size
            have t1 : Sees w5 w5.heap.size a1 (nums .u64 z1) := (hs1.below g5 (Nat.le_refl _)).more g5.size
            go_loopw [18] (fun i wr => ∃ k d : Nat, k ≤ len1 ∧ i = .int .i64 k ∧ wr = w5.drewN d) (fun i _ => len1 - (intOf i).toNat)
            case atStart => exact ⟨0, 0, Nat.zero_le _, rfl, rfl⟩
            case round =>
              obtain ⟨k, d, hk, rfl, rfl⟩ := hrel
              by_cases hlt : k < len1
              · have hk' : k < z1.length := by rw [HL1.out]; exact hlt
                obtain ⟨b3, o3, rfl, _, hc3⟩ := t3.at_ (nums_at .u64 z1 k hk')
                obtain ⟨b1, o1, rfl, _, hc1'⟩ := t1.at_ (nums_at .u64 z1 k hk')
                generalize z1[k]?.getD 0 = x at hc3 hc1'
                go_wp2
                go_quiet (fail)
                go_wp2
                go_roundw
                case rel => exact ⟨k + 1, d + nq, by omega, by go_num, rfl⟩
                case measure => simp [intOf]; omega
              · clear t3 t1
                go_wp2_with fail
                go_loopw [19] (fun i wr => ∃ k d : Nat, k ≤ len2 ∧ i = .int .i64 k ∧ wr = w5.drewN d) (fun i _ => len2 - (intOf i).toNat)
                case atStart => exact ⟨0, d, Nat.zero_le _, rfl, rfl⟩
                case round =>
                  clear hk hlt
                  obtain ⟨k, d, hk, rfl, rfl⟩ := hrel
                  by_cases hlt : k < len2
                  · have hn2 : rs5.length = len2 := by
                      have h := congrArg List.length HRS5.out
                      rw [HPL.out, List.length_map] at h
                      exact h
                    have hk' : k < z2.length := by rw [HL2.out]; exact hlt
                    have hbs : rs5[k].bs = z2[k].bs := by
                      have h1 : (rs5.map RowV.bs)[k]? = (z2.map RowV.bs)[k]? := by rw [HRS5.out]
                      simpa [show k < rs5.length by omega, hk'] using h1
                    have hel5 : (rs5.map RowV.val)[k]? = some (rs5[k].val) := by simp [show k < rs5.length by omega]
                    have hel2 : (z2.map RowV.val)[k]? = some (z2[k].val) := by simp [hk']
                    obtain ⟨b5, o5, rfl, _, hc5⟩ := hs5.at_ hel5
                    obtain ⟨b2, o2, rfl, hb2, hc2'⟩ := hs2.at_ hel2
                    have hc2'' := (bcell g5 b2 (o2 + k) hb2).trans hc2'
                    have ho5 := HOK5.out rs5[k] (List.getElem_mem _)
                    have ho2 := HW2.out z2[k] (List.getElem_mem _)
                    generalize rs5[k] = r5 at *
                    generalize z2[k] = r2 at *
                    obtain ⟨A, C, bs⟩ := r5
                    obtain ⟨A', C', bs'⟩ := r2
                    have hbs : bs = bs' := hbs
                    subst hbs
                    have k5 := conv_drew (c := C) ho5.see rfl
                    have k2 := conv_drew (c := C') (ho2.see.below g5 (Nat.le_refl _)) rfl
                    simp only [RowV.val] at hc5 hc2''
                    clear hel5 hel2 hc2' ho5 ho2 hn2
                    generalize bs.length = L at *
                    generalize strOfNums bs = st at *
                    go_wp2
                    go_quiet (fail)
                    go_wp2
                    go_roundw
                    case rel => exact ⟨k + 1, d + nq, by omega, by go_num, rfl⟩
                    case measure => simp [intOf]; omega
                  · obtain ⟨K, hK, hKB⟩ : ∃ K : Nat, a3 % ((BL : Int) + 1) = (K : Int) ∧ K ≤ BL := by
                      have h1 := Int.emod_nonneg a3 (show ((BL : Int) + 1) ≠ 0 by omega)
                      have h2 := Int.emod_lt_of_pos a3 (show 0 < ((BL : Int) + 1) by omega)
                      exact ⟨(a3 % ((BL : Int) + 1)).toNat, by omega, by omega⟩
                    have hdd : Below w.heap.size w (w5.drewN d) := g5.trans ⟨rfl, rfl, rfl, Nat.le_refl _, fun _ _ => rfl⟩
                    have t4 : Sees (w5.drewN d) (w5.drewN d).heap.size A4 (nums .u8 (S.take K)) := sees_take (((hs4.below hd5 (Nat.le_refl _)).more hd5.size).kept (fun _ _ _ => rfl)) K
                    have htl : (S.take K).length = K := by rw [List.length_take, HBL.out]; omega
                    have HTL := Lib.hid htl
                    clear htl
                    go_wp2_with fail
                    with_reducible refine (Part_less K C4 len2 A4 (S.take K) _ HTL.out (by omega) t4 (fun b hb => HSB.out b (List.mem_of_mem_take hb)) (by have h := HPT.out K; rw [HPL.out] at h; exact h)).mono ?_
                    rintro e w6 ⟨hd6, rfl | ⟨A6, C6, n6, hn6, rfl⟩⟩
                    all_goals
                      go_wp2
                      go_ret
                      exact ⟨rfl, hdd.trans (hd6.mono hdd.size)⟩

end Go.Proofs.Ytlgondcdfoghpaa.Walk
