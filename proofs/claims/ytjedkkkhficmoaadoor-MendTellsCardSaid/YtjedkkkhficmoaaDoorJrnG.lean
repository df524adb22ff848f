/- The contract of Get. -/
import Derived.Test.YtjedkkkhficmoaaDoorJrnE
import Derived.Test.YtjedkkkhficmoaaDoorCrcB
import Derived.Test.YtjedkkkhficmoaaDoorLgrI
import Derived.Test.YtjedkkkhficmoaaDoorInv
import Derived.Deep.DeepMust
import Derived.Deep.RegionHeld
namespace Go.Proofs.YtjedkkkhficmoaaDoor.Jrn
open Go.RowKit Go.Proofs.YtjedkkkhficmoaaDoor.Plain Go.Proofs.YtjedkkkhficmoaaDoor.Sees Go.Proofs.YtjedkkkhficmoaaDoor.Oct Go.Proofs.YtjedkkkhficmoaaDoor.Crc Go.Proofs.YtjedkkkhficmoaaDoor.Box Go.Proofs.YtjedkkkhficmoaaDoor.Held Go.Proofs.YtjedkkkhficmoaaDoor.JrnP Go.Proofs.YtjedkkkhficmoaaDoor.Open Go.Proofs.YtjedkkkhficmoaaDoor.LgrP
open Go.Proofs.YtjedkkkhficmoaaDoor.Lgr (check_any)
set_option linter.unusedVariables false
set_option maxRecDepth 100000

theorem cut4 {bs : List Int} (h : 4 ≤ bs.length) : bs = bs.take (bs.length - 4) ++ bs.drop (bs.length - 4) := (List.take_append_drop _ bs).symm
theorem opn_none {bs : List Int} (h : 4 ≤ bs.length) (ho : opn bs = none) : bs.drop (bs.length - 4) ≠ lowB 4 (crc (bs.take (bs.length - 4)) : Nat) := fun e => by
  unfold opn at ho
  rw [if_pos ⟨h, e⟩] at ho
  cases ho
theorem opn_len {bs x : List Int} (h : opn bs = some x) : x.length + 4 = bs.length := by rw [opn_some h, sea_len]
theorem opn_in {bs x : List Int} (h : opn bs = some x) (hb : ∀ b ∈ bs, 0 ≤ b ∧ b ≤ 255) : ∀ b ∈ x, 0 ≤ b ∧ b ≤ 255 := fun b hx => hb b (by rw [opn_some h]; exact List.mem_append_left _ hx)

theorem open_none (bs : List Int) (A : Option Addr) (n c : Nat) (w : World) (hl : bs.length = n) (hn : n ≤ 900000) (hc : n ≤ c) (ht : Tab w) (hs : Sees w w.heap.size A (nums .u8 bs)) (hb : ∀ b ∈ bs, 0 ≤ b ∧ b ≤ 255) (ho : opn bs = none) :
    Calls Tryd.prog 45 #[.slice A n c] w (Says w (.tuple #[.slice none 0 0, .bool false])) := by
  by_cases h4 : n < 4
  · exact (Open_short A n c w h4).mono fun e w' ⟨h1, h2⟩ => ⟨h1, h2 ▸ Below.refl _ _⟩
  · have h4' : 4 ≤ bs.length := by omega
    have hne := opn_none h4' ho
    have hcut := cut4 h4'
    obtain ⟨d, hd⟩ : ∃ d, n = d + 4 := ⟨n - 4, by omega⟩
    have hlt : (bs.take (bs.length - 4)).length = d := by rw [List.length_take]; omega
    have hld : (bs.drop (bs.length - 4)).length = 4 := by rw [List.length_drop]; omega
    generalize bs.take (bs.length - 4) = pre at *
    generalize bs.drop (bs.length - 4) = q at *
    subst hcut hd
    exact Open_no A d c pre q w hlt hld (by omega) hc ht hs hb hne
theorem open_some (bs x : List Int) (A : Option Addr) (n c k : Nat) (w : World) (hl : bs.length = n) (hn : n ≤ 900000) (hc : n ≤ c) (ht : Tab w) (hs : Sees w w.heap.size A (nums .u8 bs)) (hb : ∀ b ∈ bs, 0 ≤ b ∧ b ≤ 255) (ho : opn bs = some x) (hk : x.length = k) :
    Calls Tryd.prog 45 #[.slice A n c] w fun e w' => ∃ A' c', e = .returned (.tuple #[.slice A' k c', .bool true]) ∧ k ≤ c' ∧ Sees w' w'.heap.size A' (nums .u8 x) ∧ Below w.heap.size w w' := by
  have h1 := opn_some ho
  have h2 := opn_len ho
  have h3 := opn_in ho hb
  unfold sea at h1
  obtain rfl : n = k + 4 := by omega
  refine (Open_yes A k c x w hk (by omega) hc ht (by rw [← h1]; exact hs) h3).mono ?_
  rintro e w' ⟨v, rfl, h4, h5⟩
  obtain ⟨A', c', rfl, h6, h7, _⟩ := own_form h4
  exact ⟨A', c', rfl, h6, h7, h5⟩
theorem part_none (m c : Nat) (a : Option Addr) (bs : List Int) (w : World) (hlen : bs.length = m) (hm : m ≤ 100000000) (hsee : Sees w w.heap.size a (nums .u8 bs)) (hb : ∀ b ∈ bs, 0 ≤ b ∧ b ≤ 255) (hp : parts bs = none) :
    Calls Tryd.prog 46 #[.slice a m c] w (Says w (.tuple #[.slice none 0 0, .int .i64 10])) := by
  refine (Part_any m c a bs w hlen hm hsee hb).mono fun e w' h => ?_
  rcases h with ⟨_, he, hb⟩ | ⟨v, rs, g, A, C, B, h, _⟩
  · exact ⟨he, hb⟩
  · rw [hp] at h; cases h
theorem part_some (m c n : Nat) (a : Option Addr) (bs : List Int) (ps : List (List Int)) (w : World) (hlen : bs.length = m) (hm : m ≤ 100000000) (hsee : Sees w w.heap.size a (nums .u8 bs)) (hb : ∀ b ∈ bs, 0 ≤ b ∧ b ≤ 255) (hp : parts bs = some ps) (hn : ps.length = n) :
    Calls Tryd.prog 46 #[.slice a m c] w fun e w' => ∃ (A : Option Addr) (c : Nat) (rs : List RowV), rs.map RowV.bs = ps ∧ e = .returned (.tuple #[.slice A n c, .int .i64 0]) ∧ n ≤ c ∧ Sees w' w'.heap.size A (rs.map RowV.val) ∧ (∀ r ∈ rs, r.Ok w' w'.heap.size) ∧ Below w.heap.size w w' := by
  refine (Part_any m c a bs w hlen hm hsee hb).mono fun e w' h => ?_
  rcases h with ⟨h, _⟩ | ⟨v, rs, g, A, C, B, h, he, hbel, hB, ho, hok, _, _, _, _⟩
  · rw [hp] at h; cases h
  · rw [hp] at h
    injection h with h
    have hl : rs.length = n := by rw [← hn, h]; simp
    obtain ⟨A', c', rfl, hc, hs, hlt⟩ := own_form ho
    refine ⟨A', c', rs, h.symm, by rw [he, hl], by omega, hs, fun r hr => ?_, hbel⟩
    have hBs : B ≤ w'.heap.size := by
      rcases hs with h0 | ⟨b, o, h0, _, _⟩
      · simp at h0
        subst h0
        cases hr
      · subst h0
        have := hlt b rfl
        omega
    exact ⟨(hok r hr).cap, (hok r hr).see.more hBs, (hok r hr).byte⟩

/-- a ledger as a value -/
def LV (v : Value) (W : World) (b m : Int) (l : List Pm) : Prop := ∃ A c, v = .agg #[.int .i64 b, .int .i64 m, .int .i64 0, .slice A l.length c] ∧ l.length ≤ c ∧ c ≤ maxLen ∧ TS W 54 A (pms l)
theorem LV.next {v : Value} {W W' : World} {b m : Int} {l : List Pm} (h : LV v W b m l) (hb : Below W.heap.size W W') : LV v W' b m l := by
  obtain ⟨A, c, h1, h2, h3, h4⟩ := h
  exact ⟨A, c, h1, h2, h3, h4.next hb⟩
/-- what Get answers -/
def GP (w : World) (g : G) (e : Ending) (w' : World) : Prop :=
  ∃ A c, e = .returned (.tuple #[.agg #[.int .i64 g.b, .int .i64 g.m, .int .i64 0, .slice A g.l.length c], .int .u64 g.s, .int .i64 g.e]) ∧ g.l.length ≤ c ∧ c ≤ maxLen ∧ TS w' 54 A (pms g.l) ∧ Below w.heap.size w w'

theorem fn_one {w w' : World} {s : Int} {e : Ending} (h : FN w 1 [s] e w') : ∃ g6 c6, e = .returned (.slice (some ⟨g6, 0, none⟩) 1 c6) ∧ 1 ≤ c6 ∧ w.heap.size ≤ g6 ∧ w'.cell? ⟨g6, 0, none⟩ = some (.int .u64 s) ∧ Below w.heap.size w w' := by
  obtain ⟨A, c, rfl, hc, _, ho, hb⟩ := h
  obtain ⟨g6, c6, h6⟩ := ownsRow_succ ho
  have hA : A = some ⟨g6, 0, none⟩ := by injection h6
  subst hA
  have h9 := ho.cells (g := g6) rfl 0 (.int .u64 s) rfl
  exact ⟨g6, c, rfl, hc, (ho.lt g6 rfl).1, by simpa [Addr.add] using h9, hb⟩
theorem ne_of_le {a b c : Nat} (h : a < b) (k : b ≤ c) : c ≠ a := by omega
theorem res_box {w w4 w5 w6 : World} {cs : Array Value} {t : TypeId} (h : Below (w.heap.size + 1) (w.alloc (.cells cs t)) w4) (k : Below w4.heap.size w4 w5) (l : Below w5.heap.size w5 w6) : BxT w6 w.heap.size cs t := by
  have hs4 : w.heap.size < w4.heap.size := by have := h.size; rw [World.size_alloc] at this; omega
  have hs5 := k.size
  exact (l.block _ (by omega)).trans ((k.block _ hs4).trans ((h.block _ (by omega)).trans (BxT.new w cs t)))
theorem isF_rows {rows : List (List Int)} (h : isF rows = true) : ∃ r0 r1 r2, rows = [r0, r1, r2] ∧ r0.length = 8 ∧ r1.length = 8 ∧ r2.length % 8 = 0 := by
  match rows, h with
  | [r0, r1, r2], h =>
    simp only [isF, Bool.and_eq_true, decide_eq_true_eq] at h
    exact ⟨r0, r1, r2, rfl, h.1.1, h.1.2, h.2⟩
  | [], h => cases h
  | [_], h => cases h
  | [_, _], h => cases h
  | _ :: _ :: _ :: _ :: _, h => cases h
theorem getR_no {rows : List (List Int)} (h : isF rows = false) : getR rows = bad 11 := by
  match rows, h with
  | [r0, r1, r2], h =>
    simp only [isF, Bool.and_eq_false_iff, decide_eq_false_iff_not] at h
    show (if _ then _ else _) = _
    rw [if_neg]
    rintro ⟨h1, h2, h3⟩
    rcases h with (h | h) | h
    · exact h h1
    · exact h h2
    · exact h h3
  | [], _ => rfl
  | [_], _ => rfl
  | [_, _], _ => rfl
  | _ :: _ :: _ :: _ :: _, _ => rfl
theorem getR_yes {r0 r1 r2 : List Int} (h0 : r0.length = 8) (h1 : r1.length = 8) (h2 : r2.length % 8 = 0) : getR [r0, r1, r2] =
    if may (ofB (r1.take 4)) (ofB ((r1.drop 4).take 4)) (gp (r2.length / 8) r2) = true then ⟨0, ofB (r1.take 4), ofB ((r1.drop 4).take 4), gp (r2.length / 8) r2, ofB r0⟩ else bad 11 := by
  show (if _ then _ else _) = _
  rw [if_pos ⟨h0, h1, h2⟩]
theorem parts_small : ∀ (n : Nat) (bs : List Int) (ps : List (List Int)), bs.length ≤ n → (∀ b ∈ bs, 0 ≤ b ∧ b ≤ 255) → parts bs = some ps → ps.length ≤ bs.length ∧ ∀ r ∈ ps, r.length ≤ bs.length ∧ ∀ b ∈ r, 0 ≤ b ∧ b ≤ 255 := by
  intro n
  induction n with
  | zero =>
    intro bs ps h _ hp
    have : bs = [] := List.eq_nil_of_length_eq_zero (by omega)
    subst this
    rw [parts_nil] at hp
    injection hp with hp
    subst hp
    exact ⟨Nat.le_refl _, fun r hr => by cases hr⟩
  | succ n ih =>
    intro bs ps h hb hp
    by_cases h0 : bs.length = 0
    · have : bs = [] := List.eq_nil_of_length_eq_zero h0
      subst this
      rw [parts_nil] at hp
      injection hp with hp
      subst hp
      exact ⟨Nat.le_refl _, fun r hr => by cases hr⟩
    · by_cases h1 : bs.length = 1
      · rw [parts_one bs h1] at hp; cases hp
      · obtain ⟨N, hN, _⟩ := ofB_two bs (by omega) hb
        rw [parts_step bs N (by omega) hN] at hp
        by_cases hf : bs.length < 2 + N
        · rw [if_pos hf] at hp; cases hp
        · rw [if_neg hf] at hp
          rcases hq : parts (bs.drop (2 + N)) with _ | qs
          · rw [hq] at hp; cases hp
          · rw [hq] at hp
            injection hp with hp
            subst hp
            have := ih (bs.drop (2 + N)) qs (by rw [List.length_drop]; omega) (fun b h => hb b (List.mem_of_mem_drop h)) hq
            rw [List.length_drop] at this
            refine ⟨by simp; omega, fun r hr => ?_⟩
            rcases List.mem_cons.1 hr with rfl | hr
            · exact ⟨by simp; omega, fun b hb2 => hb b (List.mem_of_mem_drop (List.mem_of_mem_take hb2))⟩
            · have h3 := this.2 r hr
              exact ⟨by omega, h3.2⟩

def GetF (g o cr n2 C1 C2 B0 : Nat) (A1 A2 : Option Addr) (b m : Int) (l : List Pm) : Nat → Value → World → Prop
  | 0, vv, _ => vv = .slice (some ⟨g, o, none⟩) 3 cr
  | 1, vv, _ => vv = .pointer (some ⟨g, o + 1, none⟩)
  | 2, vv, _ => vv = .slice A1 8 C1
  | 3, vv, _ => vv = .slice (some ⟨g, o, none⟩) 3 cr
  | 4, vv, _ => vv = .pointer (some ⟨g, o + 2, none⟩)
  | 5, vv, _ => vv = .slice A2 n2 C2
  | 6, vv, w' => LV vv w' b m l
  | 7, vv, w' => ∃ B, vv = .pointer (some ⟨B, 0, none⟩) ∧ B0 ≤ B ∧ BxT w' B #[.int .i64 0, .int .i64 0, .int .i64 0, .slice none 0 0] 32
  | _, _, _ => True

set_option maxHeartbeats 12800000 in
theorem jGet_any (bs : List Int) (A : Option Addr) (n c : Nat) (w : World) (hl : bs.length = n) (hn : n ≤ 10000) (hc : n ≤ c) (ht : Tab w) (hs : Sees w w.heap.size A (nums .u8 bs)) (hb : ∀ b ∈ bs, 0 ≤ b ∧ b ≤ 255) :
    Calls Tryd.prog 33 #[.slice A n c] w (GP w (JrnP.get bs)) := by
  have hj := Lib.hid (J.one w #[.int .i64 0, .int .i64 0, .int .i64 0, .slice none 0 0] 32)
  obtain ⟨a0, a1, a2, a3⟩ := (hj.out.bx 0 rfl).c4
  obtain ⟨f0, f1, f2, f3⟩ := (hj.out.bx 0 rfl).f4
  have hne : ∀ x ∈ ([] : List (Nat × Array Value)), x.1 ≠ w.heap.size := fun x hx => by cases hx
  have HT := Lib.hid ht
  rcases ho : opn bs with _ | x
  · have hg : JrnP.get bs = bad 12 := by unfold JrnP.get; rw [ho]
    rw [hg]
    have HO : Hid (∀ W, Below w.heap.size w W → Calls Tryd.prog 45 #[.slice A n c] W (Says W (.tuple #[.slice none 0 0, .bool false]))) := Lib.hid fun W hW => open_none bs A n c W hl (by omega) hc (ht.next hW) (sees_next hs hW) hb ho
    clear hs hb ho hg ht
    go_enter Tryd.func33, Tryd.ntmps33
    go_wp2_with (go_at_call 45; (with_reducible refine (HO.out _ hj.out.below).mono ?_); rintro e w1 ⟨rfl, h1⟩; have hj1 := Lib.hid (hj.out.next h1); obtain ⟨a0, a1, a2, a3⟩ := (hj1.out.bx 0 rfl).c4; obtain ⟨f0, f1, f2, f3⟩ := (hj1.out.bx 0 rfl).f4)
    have hje := ((((hj1.out.put (Nat.le_refl _) hne 0 (.int .i64 0)).put (Nat.le_refl _) hne 1 (.int .i64 0)).put (Nat.le_refl _) hne 2 (.int .i64 0)).put (Nat.le_refl _) hne 3 (.slice none 0 0))
    obtain ⟨k0, k1, k2, k3⟩ := (hje.bx 0 rfl).c4
    refine bodyPost_ret (v := .tuple #[.agg #[.int .i64 0, .int .i64 0, .int .i64 0, .slice none 0 0], .int .u64 0, .int .i64 12]) (by simp [results, Tryd.results33, go_sem, k0, k1, k2, k3]) rfl ⟨none, 0, rfl, Nat.le_refl _, Nat.zero_le _, .inl rfl, hje.below⟩
  have hxl := opn_len ho
  have hxb := opn_in ho hb
  obtain ⟨k, hk⟩ : ∃ k, x.length = k := ⟨_, rfl⟩
  have HO : Hid (∀ W, Below w.heap.size w W → Calls Tryd.prog 45 #[.slice A n c] W fun e w' => ∃ A' c', e = .returned (.tuple #[.slice A' k c', .bool true]) ∧ k ≤ c' ∧ Sees w' w'.heap.size A' (nums .u8 x) ∧ Below W.heap.size W w') := Lib.hid fun W hW => open_some bs x A n c k W hl (by omega) hc (ht.next hW) (sees_next hs hW) hb ho hk
  have hkn : k ≤ 10000 := by omega
  rcases hp : parts x with _ | rows
  · have hg : JrnP.get bs = bad 10 := by unfold JrnP.get; rw [ho]; simp only [hp]
    rw [hg]
    have HP : Hid (∀ A' c' W, Sees W W.heap.size A' (nums .u8 x) → Calls Tryd.prog 46 #[.slice A' k c'] W (Says W (.tuple #[.slice none 0 0, .int .i64 10]))) := Lib.hid fun A' c' W h => part_none k c' A' x W hk (by omega) h hxb hp
    clear hs hb ho hg ht hp hxl hxb hk
    go_enter Tryd.func33, Tryd.ntmps33
    go_wp2_with (first
      | (go_at_call 45; (with_reducible refine (HO.out _ hj.out.below).mono ?_); clear HO; rintro e w1 ⟨A1, c1, rfl, hc1, hs1, h1⟩; have hj1 := Lib.hid (hj.out.next h1))
      | (go_at_call 46; (with_reducible refine (HP.out _ _ _ hs1).mono ?_); clear HP; rintro e w2 ⟨rfl, h2⟩; have hj2 := Lib.hid (hj1.out.next h2); obtain ⟨a0, a1, a2, a3⟩ := (hj2.out.bx 0 rfl).c4; obtain ⟨f0, f1, f2, f3⟩ := (hj2.out.bx 0 rfl).f4))
    have hje := ((((hj2.out.put (Nat.le_refl _) hne 0 (.int .i64 0)).put (Nat.le_refl _) hne 1 (.int .i64 0)).put (Nat.le_refl _) hne 2 (.int .i64 0)).put (Nat.le_refl _) hne 3 (.slice none 0 0))
    obtain ⟨k0, k1, k2, k3⟩ := (hje.bx 0 rfl).c4
    refine bodyPost_ret (v := .tuple #[.agg #[.int .i64 0, .int .i64 0, .int .i64 0, .slice none 0 0], .int .u64 0, .int .i64 10]) (by simp [results, Tryd.results33, go_sem, k0, k1, k2, k3]) rfl ⟨none, 0, rfl, Nat.le_refl _, Nat.zero_le _, .inl rfl, hje.below⟩
  obtain ⟨hrl, hrr⟩ := parts_small k x rows (by omega) hxb hp
  obtain ⟨nr, hnr⟩ : ∃ nr, rows.length = nr := ⟨_, rfl⟩
  have HP : Hid (∀ A' c' W, Sees W W.heap.size A' (nums .u8 x) → Calls Tryd.prog 46 #[.slice A' k c'] W fun e w' => ∃ (A : Option Addr) (c : Nat) (rs : List RowV), rs.map RowV.bs = rows ∧ e = .returned (.tuple #[.slice A nr c, .int .i64 0]) ∧ nr ≤ c ∧ Sees w' w'.heap.size A (rs.map RowV.val) ∧ (∀ r ∈ rs, r.Ok w' w'.heap.size) ∧ Below W.heap.size W w') := Lib.hid fun A' c' W h => part_some k c' nr A' x rows W hk (by omega) h hxb hp hnr
  have hg : JrnP.get bs = getR rows := by unfold JrnP.get; rw [ho]; simp only [hp]
  rw [hg]
  have HF : Hid (∀ A c (rs : List RowV) W, rs.map RowV.bs = rows → Sees W W.heap.size A (rs.map RowV.val) → Calls Tryd.prog 47 #[.slice A nr c] W fun e w' => e = .returned (.bool (isF rows)) ∧ W = w') := Lib.hid fun A c rs W h1 h2 => by
    have := isForm_any nr c A rs W (by have := congrArg List.length h1; simpa [hnr] using this) (by omega) h2 (fun r hr => by
      have := (hrr r.bs (by rw [← h1]; exact List.mem_map.2 ⟨r, hr, rfl⟩)).1
      omega)
    rwa [h1] at this
  clear hs hb ho hg ht hp hxl hxb
  cases hf : isF rows
  · rw [getR_no hf]
    rw [hf] at HF
    clear hrr hf hk hrl hnr
    go_enter Tryd.func33, Tryd.ntmps33
    go_wp2_with (first
      | (go_at_call 45; (with_reducible refine (HO.out _ hj.out.below).mono ?_); clear HO; rintro e w1 ⟨A1, c1, rfl, hc1, hs1, h1⟩; have hj1 := Lib.hid (hj.out.next h1))
      | (go_at_call 46; (with_reducible refine (HP.out _ _ _ hs1).mono ?_); clear HP; rintro e w2 ⟨A2, c2, rs, hrs, rfl, hc2, hs2, hok2, h2⟩; have hj2 := Lib.hid (hj1.out.next h2))
      | (go_at_call 47; (with_reducible refine (HF.out _ _ _ _ hrs hs2).mono ?_); clear HF; rintro e w3 ⟨rfl, rfl⟩; obtain ⟨a0, a1, a2, a3⟩ := (hj2.out.bx 0 rfl).c4; obtain ⟨f0, f1, f2, f3⟩ := (hj2.out.bx 0 rfl).f4))
    have hje := ((((hj2.out.put (Nat.le_refl _) hne 0 (.int .i64 0)).put (Nat.le_refl _) hne 1 (.int .i64 0)).put (Nat.le_refl _) hne 2 (.int .i64 0)).put (Nat.le_refl _) hne 3 (.slice none 0 0))
    obtain ⟨k0, k1, k2, k3⟩ := (hje.bx 0 rfl).c4
    refine bodyPost_ret (v := .tuple #[.agg #[.int .i64 0, .int .i64 0, .int .i64 0, .slice none 0 0], .int .u64 0, .int .i64 11]) (by simp [results, Tryd.results33, go_sem, k0, k1, k2, k3]) rfl ⟨none, 0, rfl, Nat.le_refl _, Nat.zero_le _, .inl rfl, hje.below⟩
  rw [hf] at HF
  obtain ⟨r0, r1, r2, rfl, l0, l1, l2⟩ := isF_rows hf
  obtain rfl : nr = 3 := hnr.symm
  obtain ⟨n2, hn2⟩ : ∃ n2, r2.length = n2 := ⟨_, rfl⟩
  obtain ⟨q, hq⟩ : ∃ q, n2 = 8 * q := ⟨n2 / 8, by omega⟩
  have hq8 : r2.length / 8 = q := by omega
  have hn2k : n2 ≤ 10000 := by have := (hrr r2 (by simp)).1; omega
  have hr0b := (hrr r0 (by simp)).2
  have hr1b := (hrr r1 (by simp)).2
  have hr2b := (hrr r2 (by simp)).2
  rw [getR_yes l0 l1 l2, hq8]
  have HKp : Hid (∀ (A1 A2 : Option Addr) (c1 c2 : Nat) W, 8 ≤ c1 → n2 ≤ c2 → Sees W W.heap.size A1 (nums .u8 r1) → Sees W W.heap.size A2 (nums .u8 r2) → Calls Tryd.prog 48 #[.slice A1 8 c1, .slice A2 n2 c2] W (KP W (ofB (r1.take 4)) (ofB ((r1.drop 4).take 4)) (gp q r2))) := Lib.hid fun A1 A2 c1 c2 W h1 h2 h3 h4 => kept_any r1 r2 A1 A2 c1 c2 n2 q W l1 hn2 hq.symm (by omega) h1 h2 h3 h4 hr1b hr2b
  have hgl := gp_len q r2
  have HCk : Hid (∀ (A : Option Addr) (c : Nat) W, (gp q r2).length ≤ c → c ≤ maxLen → Sees W W.heap.size A (pms (gp q r2)) → Calls Tryd.prog 14 #[.agg #[.int .i64 (ofB (r1.take 4)), .int .i64 (ofB ((r1.drop 4).take 4)), .int .i64 0, .slice A (gp q r2).length c]] W (Says W (.bool (may (ofB (r1.take 4)) (ofB ((r1.drop 4).take 4)) (gp q r2))))) := Lib.hid fun A c W h1 h2 h3 =>
    check_any ⟨ofB (r1.take 4), ofB ((r1.drop 4).take 4), 0, A, c, gp q r2⟩ W ⟨h1, h2, h3⟩ (by simp only [hgl]; omega)
  have HNu : Hid (∀ (A0 : Option Addr) (c0 : Nat) W, 8 ≤ c0 → Sees W W.heap.size A0 (nums .u8 r0) → Calls Tryd.prog 49 #[.int .i64 8, .slice A0 8 c0] W (FN W 1 [ofB r0])) := Lib.hid fun A0 c0 W h1 h2 => by
    have := numbers_any 8 1 8 c0 A0 r0 W (by omega) (by omega) rfl l0 (by omega) h1 h2 hr0b
    rw [show grp 1 8 r0 = [ofB r0] by simp [grp, List.take_of_length_le (by omega : r0.length ≤ 8)]] at this
    exact this
  have HL : Hid (r0.length = 8 ∧ r1.length = 8 ∧ r2.length = n2) := Lib.hid ⟨l0, l1, hn2⟩
  generalize gp q r2 = l at *
  generalize ofB (r1.take 4) = b at *
  generalize ofB ((r1.drop 4).take 4) = m at *
  generalize ofB r0 = s at *
  obtain ⟨gg, hgg⟩ : ∃ gg, (if may b m l = true then (⟨0, b, m, l, s⟩ : G) else bad 11) = gg := ⟨_, rfl⟩
  rw [hgg]
  have HGG := Lib.hid hgg
  clear hgg
  generalize may b m l = mb at *
  clear hf hq hq8 hr0b hr1b hr2b hrr hgl hk hrl hnr
  go_enter Tryd.func33, Tryd.ntmps33
  go_wp2_with (first
    | (go_at_call 45; (with_reducible refine (HO.out _ hj.out.below).mono ?_); clear HO; rintro e w1 ⟨A1', c1', rfl, hc1', hs1', h1⟩; have hj1 := Lib.hid (hj.out.next h1))
    | (go_at_call 46; (with_reducible refine (HP.out _ _ _ hs1').mono ?_); clear HP; rintro e w4 ⟨AR, cr, rs, hrs, rfl, hcr, hsR, hokR, h4⟩; have hj4 := Lib.hid (hj1.out.next h4))
    | (go_at_call 47; (with_reducible refine (HF.out _ _ _ _ hrs hsR).mono ?_); clear HF; rintro e w3 ⟨rfl, rfl⟩))
  obtain ⟨q0, q1, q2, rfl⟩ := lens3 (by have := congrArg List.length hrs; simpa using this : rs.length = 3)
  simp only [List.map_cons, List.map_nil, List.cons.injEq, and_true] at hrs
  obtain ⟨hq0, hq1, hq2⟩ := hrs
  have ok0 := hokR q0 (by simp)
  have ok1 := hokR q1 (by simp)
  have ok2 := hokR q2 (by simp)
  obtain ⟨g, o, rfl, hgl, c0⟩ := hsR.at_ (k := 0) (u := q0.val) rfl
  obtain ⟨g', o', e', _, c1⟩ := hsR.at_ (k := 1) (u := q1.val) rfl
  injection e' with e'; injection e' with e1 e2; subst e1 e2
  obtain ⟨g', o', e', _, c2⟩ := hsR.at_ (k := 2) (u := q2.val) rfl
  injection e' with e'; injection e' with e1 e2; subst e1 e2
  obtain ⟨A0, C0, B0⟩ := q0
  obtain ⟨A1, C1, B1⟩ := q1
  obtain ⟨A2, C2, B2⟩ := q2
  simp only at hq0 hq1 hq2
  subst hq0 hq1 hq2
  obtain ⟨k0, s0, _⟩ := ok0
  obtain ⟨k1, s1, _⟩ := ok1
  obtain ⟨k2, s2, _⟩ := ok2
  simp only [RowV.val, HL.out.1, HL.out.2.1, HL.out.2.2] at c0 c1 c2 k0 k1 k2 s0 s1 s2
  rw [Nat.add_zero] at c0
  have HW : Hid (g < w4.heap.size ∧ w4.cell? ⟨g, o, none⟩ = some (.slice A0 8 C0) ∧ w4.cell? ⟨g, o + 1, none⟩ = some (.slice A1 8 C1) ∧ w4.cell? ⟨g, o + 2, none⟩ = some (.slice A2 n2 C2)) := Lib.hid ⟨hgl, c0, c1, c2⟩
  have HA : Hid (∀ W, Below w4.heap.size w4 W → Calls Tryd.prog 48 #[.slice A1 8 C1, .slice A2 n2 C2] W (KP W b m l) ∧ W.cell? ⟨g, o + 1, none⟩ = some (.slice A1 8 C1) ∧ W.cell? ⟨g, o + 2, none⟩ = some (.slice A2 n2 C2)) := Lib.hid fun W hW =>
    ⟨HKp.out A1 A2 C1 C2 W k1 k2 (sees_next s1 hW) (sees_next s2 hW), (hW.cell (p := ⟨g, o + 1, none⟩) HW.out.1).trans c1, (hW.cell (p := ⟨g, o + 2, none⟩) HW.out.1).trans c2⟩
  have HS0 := Lib.hid s0
  have HB1 : Hid (Below (w.heap.size + 1) (w.alloc (.cells #[.int .i64 0, .int .i64 0, .int .i64 0, .slice none 0 0] 32)) w4) := Lib.hid (by have := h1.trans (h4.mono h1.size); rwa [World.size_alloc] at this)
  clear h1 h4
  clear hsR hokR c0 c1 c2 s0 s1 s2 HKp hj hj1 hs1' a0 a1 a2 a3 f0 f1 f2 f3
  go_wp2
  refine Held.wp_region_invt 8 (GetF g o cr n2 C1 C2 w4.heap.size A1 A2 b m l) (by kernel_rfl) (by kernel_rfl) ?_ ?_ ?_
  · intro i v W W' h hb
    unfold GetF at h ⊢
    split at h <;> first | exact h | exact LV.next h hb | exact (by obtain ⟨B, h1, h2, h3⟩ := h; exact ⟨B, h1, h2, h3.next hb⟩) 
  · intro i o x W K hi ho hB hd hK
    have HX := Lib.hid (HA.out W hB)
    match i, ho with
    | 0, ho =>
      obtain rfl := Option.some.inj ho
      simp only [Inv.fill, Act.put, List.setIfInBounds_toArray, List.set_cons_zero, List.set_cons_succ, List.take_succ_cons, List.take_zero] at hK ⊢
      clear hd ho
      rw [wpOp]
      refine (if_pos rfl).mpr (.inl ?_)
      go_simp
      exact hK _ _ (Below.refl _ _) rfl
    | 1, ho =>
      obtain rfl := Option.some.inj ho
      have e0 : x 0 = .slice (some ⟨g, o, none⟩) 3 cr := hd ⟨0, .data⟩ (by simp) rfl
      simp only [Inv.fill, Act.put, List.setIfInBounds_toArray, List.set_cons_zero, List.set_cons_succ, List.take_succ_cons, List.take_zero, e0] at hK ⊢
      clear hd ho e0
      rw [wpOp]
      refine (if_pos rfl).mpr (.inl ?_)
      go_simp
      exact hK _ _ (Below.refl _ _) rfl
    | 2, ho =>
      obtain rfl := Option.some.inj ho
      have e1 : x 1 = .pointer (some ⟨g, o + 1, none⟩) := hd ⟨1, .data⟩ (by simp) rfl
      simp only [Inv.fill, Act.put, List.setIfInBounds_toArray, List.set_cons_zero, List.set_cons_succ, List.take_succ_cons, List.take_zero, e1] at hK ⊢
      clear hd ho e1
      rw [wpOp]
      refine (if_pos rfl).mpr (.inl ?_)
      have k1 := HX.out.2.1
      go_simp
      exact hK _ _ (Below.refl _ _) rfl
    | 3, ho =>
      obtain rfl := Option.some.inj ho
      simp only [Inv.fill, Act.put, List.setIfInBounds_toArray, List.set_cons_zero, List.set_cons_succ, List.take_succ_cons, List.take_zero] at hK ⊢
      clear hd ho
      rw [wpOp]
      refine (if_pos rfl).mpr (.inl ?_)
      go_simp
      exact hK _ _ (Below.refl _ _) rfl
    | 4, ho =>
      obtain rfl := Option.some.inj ho
      have e3 : x 3 = .slice (some ⟨g, o, none⟩) 3 cr := hd ⟨3, .data⟩ (by simp) rfl
      simp only [Inv.fill, Act.put, List.setIfInBounds_toArray, List.set_cons_zero, List.set_cons_succ, List.take_succ_cons, List.take_zero, e3] at hK ⊢
      clear hd ho e3
      rw [wpOp]
      refine (if_pos rfl).mpr (.inl ?_)
      go_simp
      exact hK _ _ (Below.refl _ _) rfl
    | 5, ho =>
      obtain rfl := Option.some.inj ho
      have e4 : x 4 = .pointer (some ⟨g, o + 2, none⟩) := hd ⟨4, .data⟩ (by simp) rfl
      simp only [Inv.fill, Act.put, List.setIfInBounds_toArray, List.set_cons_zero, List.set_cons_succ, List.take_succ_cons, List.take_zero, e4] at hK ⊢
      clear hd ho e4
      rw [wpOp]
      refine (if_pos rfl).mpr (.inl ?_)
      have k2 := HX.out.2.2
      go_simp
      exact hK _ _ (Below.refl _ _) rfl
    | 6, ho =>
      obtain rfl := Option.some.inj ho
      have e2 : x 2 = .slice A1 8 C1 := hd ⟨2, .data⟩ (by simp) rfl
      have e5 : x 5 = .slice A2 n2 C2 := hd ⟨5, .data⟩ (by simp) rfl
      simp only [Inv.fill, Act.put, List.setIfInBounds_toArray, List.set_cons_zero, List.set_cons_succ, List.take_succ_cons, List.take_zero, e2, e5] at hK ⊢
      clear hd ho e2 e5
      rw [wpOp]
      refine (if_pos rfl).mpr (.inl ?_)
      have hc := HX.out.1
      go_simp
      refine hc.mono ?_
      rintro e w2 ⟨A, c, rfl, h1, h2, h3, h4⟩
      exact hK _ _ h4 ⟨A, c, rfl, h1, h2, h3⟩
    | 7, ho =>
      obtain rfl := Option.some.inj ho
      simp only [Inv.fill, Act.put, List.setIfInBounds_toArray, List.set_cons_zero, List.set_cons_succ, List.take_succ_cons, List.take_zero] at hK ⊢
      clear hd ho
      rw [wpOp]
      refine (if_pos rfl).mpr (.inl ?_)
      go_simp
      exact hK _ _ below_box ⟨W.heap.size, rfl, hB.size, BxT.new W _ _⟩
    | n + 8, ho => exact absurd hi (by omega)
  · intro x W hB hx
    obtain ⟨A6, c6, e6, hc6, hm6, hs6⟩ := (hx 6 (by simp) : LV (x 6) W b m l)
    obtain ⟨B7, e7, hB7, hb7⟩ := (hx 7 (by simp) : ∃ B, (x 7) = .pointer (some ⟨B, 0, none⟩) ∧ w4.heap.size ≤ B ∧ BxT W B #[.int .i64 0, .int .i64 0, .int .i64 0, .slice none 0 0] 32)
    simp only [Inv.fill, Act.put, List.setIfInBounds_toArray, List.set_cons_zero, List.set_cons_succ, List.take_succ_cons, List.take_zero, List.drop_succ_cons, List.drop_zero, e6, e7]
    clear hx e6 e7
    have hwB : w.heap.size < B7 := Nat.lt_of_lt_of_le (hj4.out.bx 0 rfl).lt hB7
    have hj7 : Hid (J w W [(B7, #[.int .i64 0, .int .i64 0, .int .i64 0, .slice none 0 0]), (w.heap.size, #[.int .i64 0, .int .i64 0, .int .i64 0, .slice none 0 0])]) := Lib.hid ((hj4.out.next hB).more hb7.bx)
    have hne7 : ∀ x ∈ [(w.heap.size, (#[.int .i64 0, .int .i64 0, .int .i64 0, .slice none 0 0] : Array Value))], x.1 ≠ B7 := fun x hx => by simp at hx; subst hx; simp only; omega
    obtain ⟨f0, f1, f2, f3⟩ := hb7.bx.f4
    obtain ⟨y0, y1, y2, y3⟩ := hb7.bx.c4
    have hj8 := Lib.hid ((((hj7.out.put (by omega) hne7 0 (.int .i64 b)).put (by omega) hne7 1 (.int .i64 m)).put (by omega) hne7 2 (.int .i64 0)).put (by omega) hne7 3 (.slice A6 l.length c6))
    have hT8 := Lib.hid ((((hs6.set hb7 (by decide) 0 (.int .i64 b)).set (hb7.set 0 (.int .i64 b)) (by decide) 1 (.int .i64 m)).set ((hb7.set 0 (.int .i64 b)).set 1 (.int .i64 m)) (by decide) 2 (.int .i64 0)).set (((hb7.set 0 (.int .i64 b)).set 1 (.int .i64 m)).set 2 (.int .i64 0)) (by decide) 3 (.slice A6 l.length c6))
    have HB8 : Hid (Below w4.heap.size w4 ((((W.setCell ⟨B7, 0, none⟩ (.int .i64 b)).setCell ⟨B7, 1, none⟩ (.int .i64 m)).setCell ⟨B7, 2, none⟩ (.int .i64 0)).setCell ⟨B7, 3, none⟩ (.slice A6 l.length c6))) := Lib.hid ((((hB.setCell (p := ⟨B7, 0, none⟩) hB7 _).setCell (p := ⟨B7, 1, none⟩) hB7 _).setCell (p := ⟨B7, 2, none⟩) hB7 _).setCell (p := ⟨B7, 3, none⟩) hB7 _)
    have HWB := Lib.hid hwB
    clear hj7 hj4 hb7 hs6 hne7 hwB hB hB7
    change wpList _ _ _ _ _ _
    go_wp2_with (fail)
    generalize hW8 : (((W.setCell ⟨B7, 0, none⟩ (.int .i64 b)).setCell ⟨B7, 1, none⟩ (.int .i64 m)).setCell ⟨B7, 2, none⟩ (.int .i64 0)).setCell ⟨B7, 3, none⟩ (.slice A6 l.length c6) = W8 at hj8 hT8 HB8 ⊢
    clear hW8 f0 f1 f2 f3 y0 y1 y2 y3
    go_wp2_with (go_at_call 14; (with_reducible refine (HCk.out _ _ _ hc6 hm6 hT8.out.sees).mono ?_); clear HCk; rintro e w5 ⟨rfl, h5⟩; have hj9 := Lib.hid (hj8.out.next h5); have hT9 := Lib.hid (hT8.out.next h5); have H5 := Lib.hid h5; clear h5 hj8; obtain ⟨z0, z1, z2, z3⟩ := (hj9.out.bx 1 rfl).c4; obtain ⟨f0, f1, f2, f3⟩ := (hj9.out.bx 1 rfl).f4; obtain ⟨b0, b1, b2, b3⟩ := (hj9.out.bx 0 rfl).c4)
    · rename_i hmb
      obtain rfl : mb = false := by simpa using hmb
      obtain rfl : bad 11 = gg := by have := HGG.out; rwa [if_neg (by decide)] at this
      have hj10 := hj9.out.less (bs' := [(w.heap.size, #[.int .i64 0, .int .i64 0, .int .i64 0, .slice none 0 0])]) (by simp)
      have hje := ((((hj10.put (Nat.le_refl _) hne 0 (.int .i64 0)).put (Nat.le_refl _) hne 1 (.int .i64 0)).put (Nat.le_refl _) hne 2 (.int .i64 0)).put (Nat.le_refl _) hne 3 (.slice none 0 0))
      obtain ⟨k0, k1, k2, k3⟩ := (hje.bx 0 rfl).c4
      refine bodyPost_ret (v := .tuple #[.agg #[.int .i64 0, .int .i64 0, .int .i64 0, .slice none 0 0], .int .u64 0, .int .i64 11]) (by simp [results, Tryd.results33, go_sem, k0, k1, k2, k3]) rfl ⟨none, 0, rfl, Nat.le_refl _, Nat.zero_le _, .inl rfl, hje.below⟩
    · rename_i hmb _ _
      obtain rfl : mb = true := by simpa using hmb
      obtain rfl : (⟨0, b, m, l, s⟩ : G) = gg := by have := HGG.out; rwa [if_pos rfl] at this
      have H45 : Hid (Below w4.heap.size w4 w5) := Lib.hid (HB8.out.trans (H5.out.mono HB8.out.size))
      have c0 := (H45.out.cell (p := ⟨g, o, none⟩) HW.out.1).trans HW.out.2.1
      have HN2 : Hid (∀ W, Below w5.heap.size w5 W → Calls Tryd.prog 49 #[.int .i64 8, .slice A0 8 C0] W fun e w' => ∃ g6 c6, e = .returned (.slice (some ⟨g6, 0, none⟩) 1 c6) ∧ 1 ≤ c6 ∧ W.heap.size ≤ g6 ∧ w'.cell? ⟨g6, 0, none⟩ = some (.int .u64 s) ∧ Below W.heap.size W w') := Lib.hid fun W hW =>
        (HNu.out A0 C0 W k0 (sees_next (sees_next HS0.out H45.out) hW)).mono fun e w' h => fn_one h
      have KK : Hid (∀ W, Below w5.heap.size w5 W → (W.cell? ⟨B7, 0, none⟩ = some (.int .i64 b) ∧ W.cell? ⟨B7, 1, none⟩ = some (.int .i64 m) ∧ W.cell? ⟨B7, 2, none⟩ = some (.int .i64 0) ∧ W.cell? ⟨B7, 3, none⟩ = some (.slice A6 l.length c6)) ∧ W.cell? ⟨g, o, none⟩ = some (.slice A0 8 C0)) := Lib.hid fun W hW =>
        ⟨((hj9.out.next hW).bx 0 rfl).c4, (hW.cell (p := ⟨g, o, none⟩) (Nat.lt_of_lt_of_le HW.out.1 H45.out.size)).trans c0⟩
      have hB0 : Below w5.heap.size w5 w5 := Below.refl _ _
      have hw5 : w.heap.size < w5.heap.size := (hj9.out.bx 1 rfl).lt
      clear HNu HS0 HGG H5 HB8 z0 z1 z2 z3 f0 f1 f2 f3
      have n3 : B7 ≠ w.heap.size := ne_of_le HWB.out (Nat.le_refl _)
      have n4 : w.heap.size ≠ B7 := fun e => n3 e.symm
      go_region_with ((go_at_call 49; (with_reducible refine (HN2.out _ hB0.drew).mono ?_); rintro e w6 ⟨g6, c6', rfl, hc6', hg6, cg6, h6⟩; have h60 : Below w5.heap.size w5 w6 := hB0.drew.trans h6; have hj11 := Lib.hid (hj9.out.next h60); have hT11 := Lib.hid (hT9.out.next h60); obtain ⟨z0, z1, z2, z3⟩ := (hj11.out.bx 1 rfl).c4; obtain ⟨f0, f1, f2, f3⟩ := (hj11.out.bx 1 rfl).f4; have kb := KK.out _ h60; obtain ⟨⟨b0, b1, b2, b3⟩, c0⟩ := kb; have n1 : g6 ≠ w.heap.size := ne_of_le hw5 hg6; have n2 : w.heap.size ≠ g6 := fun e => n1 e.symm))
      all_goals
        go_wp2
        have hj12 := hj11.out.less (bs' := [(w.heap.size, #[.int .i64 0, .int .i64 0, .int .i64 0, .slice none 0 0])]) (by simp)
        have hje := ((((hj12.put (Nat.le_refl _) hne 0 (.int .i64 b)).put (Nat.le_refl _) hne 1 (.int .i64 m)).put (Nat.le_refl _) hne 2 (.int .i64 0)).put (Nat.le_refl _) hne 3 (.slice A6 l.length c6))
        have hbt := res_box HB1.out H45.out h60
        have hTe := (((hT11.out.set hbt (by decide) 0 (.int .i64 b)).set (hbt.set 0 (.int .i64 b)) (by decide) 1 (.int .i64 m)).set ((hbt.set 0 (.int .i64 b)).set 1 (.int .i64 m)) (by decide) 2 (.int .i64 0)).set (((hbt.set 0 (.int .i64 b)).set 1 (.int .i64 m)).set 2 (.int .i64 0)) (by decide) 3 (.slice A6 l.length c6)
        obtain ⟨k0, k1, k2, k3⟩ := (hje.bx 0 rfl).c4
        refine bodyPost_ret (v := .tuple #[.agg #[.int .i64 b, .int .i64 m, .int .i64 0, .slice A6 l.length c6], .int .u64 s, .int .i64 0]) (by simp [results, Tryd.results33, go_sem, k0, k1, k2, k3]) rfl ⟨A6, c6, rfl, hc6, hm6, hTe, hje.below⟩


end Go.Proofs.YtjedkkkhficmoaaDoor.Jrn
