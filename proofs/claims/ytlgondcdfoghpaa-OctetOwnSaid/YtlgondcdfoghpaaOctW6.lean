/- Walk of OctetJoins. -/
import Derived.Test.YtlgondcdfoghpaaOctH
import Derived.OpenShut
import Derived.SizedLaws
namespace Go.Proofs.Ytlgondcdfoghpaa.Walk
open Go.RowKit Go.Proofs.Ytlgondcdfoghpaa.Plain Go.Proofs.Ytlgondcdfoghpaa.Sees Go.Proofs.Ytlgondcdfoghpaa.Oct
set_option linter.unusedVariables false

theorem conv_drew {w : World} {B : Nat} {A : Option Addr} {bs : List Int} {n c : Nat} (h : Sees w B A (nums .u8 bs)) (hn : bs.length = n) (k : Nat) :
    (convert 26 9 (.slice A n c)).run Try.prog (w.drewN k) = .ok (.string (strOfNums bs)) (w.drewN k) :=
  conv_sees (w := w.drewN k) (h.kept fun _ _ _ => rfl) hn

theorem snoc_row (z : List RowV) (k : Nat) (h : k < z.length) : (z.take (k + 1)).map RowV.bs = (z.take k).map RowV.bs ++ [z[k].bs] := by
  rw [List.take_succ_eq_append_getElem h, List.map_append, List.map_cons, List.map_nil]

theorem parts_len : ∀ (m : Nat) (bs : List Int) (ps : List (List Int)), bs.length ≤ m → (∀ b ∈ bs, 0 ≤ b ∧ b ≤ 255) → parts bs = some ps → 2 * ps.length ≤ bs.length := by
  intro m
  induction m with
  | zero =>
    intro bs ps h _ hp
    have : bs = [] := List.eq_nil_of_length_eq_zero (by omega)
    subst this
    rw [parts_nil] at hp
    injection hp with hp
    subst hp
    simp
  | succ m ih =>
    intro bs ps h hb hp
    by_cases h0 : bs.length = 0
    · have : bs = [] := List.eq_nil_of_length_eq_zero h0
      subst this
      rw [parts_nil] at hp
      injection hp with hp
      subst hp
      simp
    · by_cases h1 : bs.length = 1
      · rw [parts_one bs h1] at hp; cases hp
      · obtain ⟨N, hN, _⟩ := ofB_two bs (by omega) hb
        rw [parts_step bs N (by omega) hN] at hp
        by_cases hf : bs.length < 2 + N
        · rw [if_pos hf] at hp; cases hp
        · rw [if_neg hf] at hp
          rcases hq : parts (bs.drop (2 + N)) with _ | qs
          · rw [hq] at hp; cases hp
          · rw [hq] at hp
            injection hp with hp
            subst hp
            have := ih (bs.drop (2 + N)) qs (by rw [List.length_drop]; omega) (fun b h => hb b (List.mem_of_mem_drop h)) hq
            rw [List.length_drop] at this
            simp
            omega

theorem joinB_le (z : List RowV) (M : Nat) (h : ∀ r ∈ z, r.bs.length ≤ M) : (joinB (z.map RowV.bs)).length ≤ z.length * (M + 2) := by
  induction z with
  | nil => simp [joinB]
  | cons x z ih =>
    have h1 := h x (by simp)
    have h2 := ih (fun r hr => h r (by simp [hr]))
    simp only [List.map_cons, joinB, List.length_append, lowB_length, List.length_cons, Nat.succ_mul]
    omega

theorem Part_none (m c : Nat) (a : Option Addr) (bs : List Int) (w : World) (hlen : bs.length = m) (hm : m ≤ 100000000) (hsee : Sees w w.heap.size a (nums .u8 bs)) (hb : ∀ b ∈ bs, 0 ≤ b ∧ b ≤ 255) (hp : parts bs = none) :
    Calls Try.prog 18 #[.slice a m c] w fun e w' => e = .returned (.tuple #[.slice none 0 0, .int .i64 10]) ∧ Below w.heap.size w w' := by
  refine (Part_any m c a bs w hlen hm hsee hb).mono fun e w' h => ?_
  rcases h with ⟨_, he, hb⟩ | ⟨v, rs, g, A, C, B, h, _⟩
  · exact ⟨he, hb⟩
  · rw [hp] at h; cases h

def PartSome (w : World) (n : Nat) (ps : List (List Int)) (e : Ending) (w' : World) : Prop :=
  ∃ (A : Option Addr) (c : Nat) (rs : List RowV), rs.map RowV.bs = ps ∧ e = .returned (.tuple #[.slice A n c, .int .i64 0]) ∧ Sees w' w'.heap.size A (rs.map RowV.val) ∧ (∀ r ∈ rs, r.Ok w' w'.heap.size) ∧ Below w.heap.size w w'
theorem Part_some (m c n : Nat) (a : Option Addr) (bs : List Int) (ps : List (List Int)) (w : World) (hlen : bs.length = m) (hm : m ≤ 100000000) (hsee : Sees w w.heap.size a (nums .u8 bs)) (hb : ∀ b ∈ bs, 0 ≤ b ∧ b ≤ 255) (hp : parts bs = some ps) (hn : ps.length = n) :
    Calls Try.prog 18 #[.slice a m c] w (PartSome w n ps) := by
  refine (Part_any m c a bs w hlen hm hsee hb).mono fun e w' h => ?_
  rcases h with ⟨h, _⟩ | ⟨v, rs, g, A, C, B, h, he, hbel, hB, ho, hok, _, _, _, _⟩
  · rw [hp] at h; cases h
  · rw [hp] at h
    injection h with h
    have hl : rs.length = n := by rw [← hn, h]; simp
    obtain ⟨A', c', rfl, _, hs, hlt⟩ := own_form ho
    refine ⟨A', c', rs, h.symm, by rw [he, hl], hs, fun r hr => ?_, hbel⟩
    have hBs : B ≤ w'.heap.size := by
      rcases hs with h0 | ⟨b, o, h0, _, _⟩
      · simp at h0
        subst h0
        cases hr
      · subst h0
        have := hlt b rfl
        omega
    exact ⟨(hok r hr).cap, (hok r hr).see.more hBs, (hok r hr).byte⟩

theorem rpart_none (bs : List Int) (w : World) (hlen : bs.length ≤ 1000000) (hb : ∀ b ∈ bs, 0 ≤ b ∧ b ≤ 255) (hp : parts bs = none) :
    Calls Try.prog 19 #[.string (strOfNums bs)] w fun e w' => e = .returned (.tuple #[.slice none 0 0, .int .i64 10]) ∧ Below w.heap.size w w' := by
  refine (rpart_any bs w hlen hb).mono fun e w' h => ?_
  rcases h with ⟨_, he, hb⟩ | ⟨v, ps, h, _⟩
  · exact ⟨he, hb⟩
  · rw [hp] at h; cases h
def RPartSome (w : World) (n : Nat) (ps : List (List Int)) (e : Ending) (w' : World) : Prop :=
  ∃ A c, e = .returned (.tuple #[.slice A n c, .int .i64 0]) ∧ Sees w' w'.heap.size A (strs ps) ∧ Below w.heap.size w w'
theorem rpart_some (bs : List Int) (n : Nat) (ps : List (List Int)) (w : World) (hlen : bs.length ≤ 1000000) (hb : ∀ b ∈ bs, 0 ≤ b ∧ b ≤ 255) (hp : parts bs = some ps) (hn : ps.length = n) :
    Calls Try.prog 19 #[.string (strOfNums bs)] w (RPartSome w n ps) := by
  refine (rpart_any bs w hlen hb).mono fun e w' h => ?_
  rcases h with ⟨h, _⟩ | ⟨v, qs, h, he, ho, hbel⟩
  · rw [hp] at h; cases h
  · rw [hp] at h
    injection h with h
    subst h
    obtain ⟨A', c', rfl, _, hs, _⟩ := own_form ho
    exact ⟨A', c', by rw [he, hn], hs, hbel⟩

theorem Join_str (m c n : Nat) (a : Option Addr) (rs : List RowV) (bs : List Int) (w W : World) (hlen : rs.length = m) (hm : m ≤ 40) (hrow : ∀ r ∈ rs, r.bs.length ≤ 60000)
    (hsee : Sees w w.heap.size a (rs.map RowV.val)) (hok : ∀ r ∈ rs, r.Ok w w.heap.size) (hb : Below w.heap.size w W) (hbs : joinB (rs.map RowV.bs) = bs) (hn : bs.length = n) :
    Calls Try.prog 20 #[.slice a m c] W fun e w' => ∃ A c, e = .returned (.slice A n c) ∧ Sees w' w'.heap.size A (nums .u8 bs) ∧ Below W.heap.size W w' := by
  subst hbs
  refine (Join_any m c a rs W hlen (by omega) hrow ((hsee.below hb (Nat.le_refl _)).more hb.size) (fun r hr => ⟨(hok r hr).cap, ((hok r hr).see.below hb (Nat.le_refl _)).more hb.size, (hok r hr).byte⟩)).mono ?_
  rintro e w' ⟨v, rfl, ho, hd⟩
  rw [hn] at ho
  obtain ⟨A, c, rfl, hc, hs, _⟩ := own_form ho
  exact ⟨A, c, rfl, hs, hd⟩

set_option maxHeartbeats 3200000 in
theorem octetJoins_walk (w : World) (a0 : Option Addr) (len0 cap0 : Nat) (z0 : List RowV) (a1 : Option Addr) (len1 cap1 : Nat) (z1 : List Int)
    (hl0 : z0.length = len0) (hc0 : len0 ≤ cap0) (hx0 : cap0 ≤ maxLen) (hs0 : Sees w w.heap.size a0 (z0.map RowV.val)) (hw0 : ∀ r ∈ z0, r.Ok w w.heap.size) (hr0 : ∀ r ∈ z0, r.bs.length ≤ reachBytes)
    (hl1 : z1.length = len1) (hc1 : len1 ≤ cap1) (hx1 : cap1 ≤ maxLen) (hs1 : Sees w w.heap.size a1 (nums .u8 z1)) (hw1 : ∀ n ∈ z1, (Lit.int .u8 n).wf = true) :
    Calls Try.prog 5 #[.slice a0 len0 cap0, .slice a1 len1 cap1] w fun e w' => e = .returned (.bool true) ∧ Below w.heap.size w w' := by
  unfold maxLen at hx0 hx1
  simp only [reachBytes] at hr0
  have hz1 : ∀ x ∈ z1, 0 ≤ x ∧ x ≤ 255 := fun x hx => bounds_u8 (hw1 x hx)
  have HL0 := Lib.hid hl0
  have HL1 := Lib.hid hl1
  have HW0 := Lib.hid hw0
  have HZ1 := Lib.hid hz1
  have HR0 := Lib.hid hr0
  clear hl0 hl1 hw0 hw1 hz1 hr0
  by_cases hbig : 20 < len0 ∨ 600 < len1
  · rcases (show 20 < len0 ∨ ¬ 20 < len0 ∧ 600 < len1 by omega) with h | ⟨h, h2⟩
    all_goals
      go_enter Try.func5, Try.ntmps5
      go_wp2_with (go_at_call 12; refine (awake_any _).mono ?_; rintro e w1 ⟨rfl, hd1⟩)
      go_ret
      exact ⟨rfl, hd1⟩
  · have h20 : len0 ≤ 20 := by omega
    have h60 : len1 ≤ 600 := by omega
    clear hbig
    go_enter Try.func5, Try.ntmps5
    go_wp2_with (go_at_call 12; refine (awake_any _).mono ?_; rintro e w1 ⟨rfl, hd1⟩)
    go_loopw [6, 7] (fun s i wr => ∃ k : Nat, k ≤ len0 ∧ i = .int .i64 k ∧ s = .string (strOfNums (joinB ((z0.take k).map RowV.bs))) ∧ (∀ r ∈ z0.take k, r.bs.length ≤ 600) ∧ Below w.heap.size w wr)
      (fun _ i _ => len0 - (intOf i).toNat)
    case atStart => exact ⟨0, Nat.zero_le _, rfl, by simp [joinB, str_nil], (fun r hr => by simp at hr), hd1⟩
    case round =>
      obtain ⟨k, hk, rfl, rfl, h600, hbel⟩ := hrel
      have hsz := hbel.size
      have H600 := Lib.hid h600
      clear h600
      by_cases hlt : k < len0
      · have hk' : k < z0.length := by rw [HL0.out]; exact hlt
        have hel : (z0.map RowV.val)[k]? = some (z0[k].val) := by simp [hk']
        obtain ⟨b, o, rfl, hbB, hc⟩ := hs0.at_ hel
        have hc' := (bcell hbel b (o + k) hbB).trans hc
        have hokr := HW0.out z0[k] (List.getElem_mem hk')
        have hrk := HR0.out z0[k] (List.getElem_mem hk')
        have hjl := joinB_le (z0.take k) 600 H600.out
        have hsn : joinB ((z0.take (k + 1)).map RowV.bs) = joinB ((z0.take k).map RowV.bs) ++ (lowB 2 z0[k].bs.length ++ z0[k].bs) := by rw [snoc_row z0 k hk', joinB_snoc]
        have hmem : z0.take (k + 1) = z0.take k ++ [z0[k]] := List.take_succ_eq_append_getElem hk'
        have hjl2 : (joinB ((z0.take k).map RowV.bs)).length ≤ 20 * 602 := Nat.le_trans hjl (Nat.mul_le_mul_right _ (by simp; omega))
        generalize joinB ((z0.take k).map RowV.bs) = S at *
        generalize hrk' : z0[k] = r at *
        obtain ⟨A, C, bs⟩ := r
        simp only [RowV.val] at hc' hrk hsn
        have hsr : Sees wr w.heap.size A (nums .u8 bs) := hokr.see.below hbel (Nat.le_refl _)
        have hadd : ∀ W, bs.length ≤ 600 → (Op.stringOp .add (strOfNums S) (strOfNums (lowB 2 bs.length ++ bs))).run Try.prog W = .ok (.string (strOfNums (S ++ (lowB 2 bs.length ++ bs)))) W := fun W h =>
          run_str_add W _ _ (by rw [List.length_append, lowB_length]; omega)
        have hrow := fun W (h : bs.length ≤ 600) => row_any bs W (by omega)
        have kc := conv_sees (c := C) hsr rfl
        have HSN := Lib.hid hsn
        have HMEM := Lib.hid hmem
        have HROW := Lib.hid hrow
        clear hjl hsn hmem hrow hc hel hrk' hokr
        generalize hL : bs.length = L at *
        have HLL := Lib.hid hL
        clear hL
        by_cases h6 : (600 : Int) < (L : Int)
        · clear hadd
          go_wp2
          go_ret
          exact ⟨rfl, hbel⟩
        · have hadd' := fun W => hadd W (by omega)
          clear hadd
          go_wp2_with (go_at_call 17
                       go_loud (refine (HROW.out _ (by omega)).mono ?_)
                       rintro e w2 ⟨rfl, hd2⟩)
          go_roundw
          case rel =>
            refine ⟨k + 1, by omega, by go_num, ?_, ?_, hbel.trans (hd2.mono hsz)⟩
            · rw [HSN.out]
            · rw [HMEM.out]
              intro r hr
              rcases List.mem_append.1 hr with h | h
              · exact H600.out r h
              · rw [List.mem_singleton] at h
                subst h
                show bs.length ≤ 600
                rw [HLL.out]; omega
          case measure => simp [intOf]; omega
      · obtain rfl : len0 = k := by omega
        have ht0 : z0.take len0 = z0 := List.take_of_length_le (by rw [HL0.out]; exact Nat.le_refl _)
        rw [ht0] at H600 ⊢
        clear ht0
        have hrow := fun r hr => Nat.le_trans (H600.out r hr) (show 600 ≤ 60000 by omega)
        have hj := fun W hb => Join_str len0 cap0 _ a0 z0 _ w W HL0.out (by omega) hrow hs0 HW0.out hb rfl rfl
        generalize joinB (z0.map RowV.bs) = S at *
        generalize hSl : S.length = SL at *
        have HJ := Lib.hid hj
        have HSL := Lib.hid hSl
        clear hj hrow hSl
        have s1 : Sees wr wr.heap.size a1 (nums .u8 z1) := (hs1.below hbel (Nat.le_refl _)).more hsz
        rcases hps : parts z1 with _ | ps
        · have HPS := Lib.hid hps
          clear hps
          go_wp2_with (first
            | (go_at_call 18
               go_loud (refine (Part_none len1 cap1 a1 z1 _ HL1.out (by omega) s1 HZ1.out HPS.out).mono ?_)
               rintro e w2 ⟨rfl, hd2⟩
               have kc := conv_sees (c := cap1) (s1.below hd2 (Nat.le_refl _)) HL1.out)
            | (go_at_call 19
               go_loud (refine (rpart_none z1 _ (by rw [HL1.out]; omega) HZ1.out HPS.out).mono ?_)
               rintro e w3 ⟨rfl, hd3⟩))
          have hd : Below w.heap.size w w3 := (hbel.trans (hd2.mono hsz)).trans (hd3.mono (Nat.le_trans hsz hd2.size))
          refine wp_loop_rounds 1 ?_
          repeat any_goals (rw [rounds_succ]; go_wp2_with (go_at_call 20
                                                           go_loud (refine (HJ.out _ hd).mono ?_)
                                                           rintro e w4 ⟨A4, C4, rfl, hs4, hd4⟩
                                                           have k4 := conv_sees (c := C4) hs4 HSL.out))
          go_ret
          exact ⟨rfl, hd.trans (hd4.mono hd.size)⟩
        · have hn3 := parts_len _ z1 ps (Nat.le_refl _) HZ1.out hps
          generalize hn : ps.length = n at hn3
          have hn6 : n ≤ 300 := by have := HL1.out; omega
          clear hn3
          have HPS := Lib.hid hps
          have HN := Lib.hid hn
          clear hps hn
          go_wp2_with (first
            | (go_at_call 18
               go_loud (refine (Part_some len1 cap1 n a1 z1 ps _ HL1.out (by omega) s1 HZ1.out HPS.out HN.out).mono ?_)
               rintro e w2 ⟨A2, C2, rs2, hrs2, rfl, hs2, hok2, hd2⟩
               have HRS2 := Lib.hid hrs2
               have HOK2 := Lib.hid hok2
               clear hrs2 hok2
               have kc := conv_sees (c := cap1) (s1.below hd2 (Nat.le_refl _)) HL1.out)
            | (go_at_call 19
               go_loud (refine (rpart_some z1 n ps _ (by rw [HL1.out]; omega) HZ1.out HPS.out HN.out).mono ?_)
               rintro e w3 ⟨A3, C3, rfl, hs3, hd3⟩))
          have hd : Below w.heap.size w w3 := (hbel.trans (hd2.mono hsz)).trans (hd3.mono (Nat.le_trans hsz hd2.size))
          have t2 : Sees w3 w3.heap.size A2 (rs2.map RowV.val) := (hs2.below hd3 (Nat.le_refl _)).more hd3.size
          go_loopw [12] (fun i wr => ∃ k d : Nat, k ≤ n ∧ i = .int .i64 k ∧ wr = w3.drewN d) (fun i _ => n - (intOf i).toNat)
          case atStart => exact ⟨0, 0, Nat.zero_le _, rfl, rfl⟩
          case round =>
            obtain ⟨k, d, hk, rfl, rfl⟩ := hrel
            by_cases hlt : k < n
            · have hn2 : rs2.length = n := by rw [← HN.out, ← HRS2.out]; simp
              have hel2 : (rs2.map RowV.val)[k]? = some (rs2[k]'(by omega)).val := by simp [show k < rs2.length by omega]
              have hel3 : (strs ps)[k]? = some (.string (strOfNums (rs2[k]'(by omega)).bs)) := by
                rw [← HRS2.out]
                simp [strs, show k < rs2.length by omega]
              obtain ⟨b2, o2, rfl, _, hc2⟩ := t2.at_ hel2
              obtain ⟨b3, o3, rfl, _, hc3⟩ := hs3.at_ hel3
              have hokk := HOK2.out (rs2[k]'(by omega)) (List.getElem_mem _)
              generalize rs2[k]'(by omega) = r at *
              obtain ⟨A, C, bs⟩ := r
              have hsr : Sees w3 w2.heap.size A (nums .u8 bs) := hokk.see.below hd3 (Nat.le_refl _)
              simp only [RowV.val] at hc2
              have kk := conv_drew (c := C) hsr rfl
              generalize bs.length = L at *
              generalize strOfNums bs = st at *
              clear hel2 hel3 hokk hsr hn2
              go_wp2
              go_quiet (fail)
              go_wp2
              go_roundw
              case rel => exact ⟨k + 1, d + nq, by omega, by go_num, rfl⟩
              case measure => simp [intOf]; omega
            · have hdd : Below w.heap.size w (w3.drewN d) := hd.trans ⟨rfl, rfl, rfl, Nat.le_refl _, fun _ _ => rfl⟩
              go_wp2_with (go_at_call 20
                           go_loud (refine (HJ.out _ hdd).mono ?_)
                           rintro e w4 ⟨A4, C4, rfl, hs4, hd4⟩
                           have k4 := conv_sees (c := C4) hs4 HSL.out)
              go_ret
              exact ⟨rfl, hdd.trans (hd4.mono hdd.size)⟩

end Go.Proofs.Ytlgondcdfoghpaa.Walk
