/- Contracts of bytes.Equal, crc.tell, crc.Seal, crc.Open. -/
import Derived.Test.YtjedkkkhficmoaaDoorCrcA
import Derived.Test.YtjedkkkhficmoaaDoorStr
import Derived.Deep.RegionWith
import Derived.Deep.DrawnRows
namespace Go.Proofs.YtjedkkkhficmoaaDoor.Crc
open Go.RowKit Go.Proofs.YtjedkkkhficmoaaDoor.Plain Go.Proofs.YtjedkkkhficmoaaDoor.Sees Go.Proofs.YtjedkkkhficmoaaDoor.Oct
set_option linter.unusedVariables false
set_option maxRecDepth 100000
attribute [local go_sem ↓] Go.wp_at_zero Go.wp_at_succ

theorem bytes_inj (a b : List Int) (ha : ∀ x ∈ a, 0 ≤ x ∧ x ≤ 255) (hb : ∀ x ∈ b, 0 ≤ x ∧ x ≤ 255) (h1 : a.map (fun n => UInt8.ofNat n.toNat) = b.map (fun n => UInt8.ofNat n.toNat)) : a = b := by
  induction a generalizing b with
  | nil => cases b with
    | nil => rfl
    | cons y b => simp at h1
  | cons x a ih => cases b with
    | nil => simp at h1
    | cons y b =>
      simp only [List.map_cons, List.cons.injEq] at h1
      have hx := ha x (by simp)
      have hy := hb y (by simp)
      have e : x = y := by
        have h2 := congrArg UInt8.toNat h1.1
        simp at h2
        omega
      rw [e, ih b (fun z hz => ha z (List.mem_cons_of_mem _ hz)) (fun z hz => hb z (List.mem_cons_of_mem _ hz)) h1.2]

/-- two rows of bytes that are the same, that are not -/
theorem Equal_yes (A A' : Option Addr) (n m c c' B : Nat) (xs : List Int) (w : World) (hl : xs.length = n) (hm : xs.length = m) (h1 : Sees w B A (nums .u8 xs)) (h2 : Sees w B A' (nums .u8 xs)) :
    Calls Tryd.prog 57 #[.slice A n c, .slice A' m c'] w fun e w' => e = .returned (.bool true) ∧ w = w' := by
  have k1 := conv_sees (c := c) h1 hl
  have k2 := conv_sees (c := c') h2 hm
  generalize strOfNums xs = s at *
  clear hl hm
  go_enter Tryd.func57, Tryd.ntmps57
  go_wp2
  go_ret
  exact ⟨rfl, rfl⟩
theorem Equal_no (A A' : Option Addr) (n m c c' B : Nat) (xs ys : List Int) (w : World) (hl : xs.length = n) (hm : ys.length = m) (h1 : Sees w B A (nums .u8 xs)) (h2 : Sees w B A' (nums .u8 ys))
    (b1 : ∀ x ∈ xs, 0 ≤ x ∧ x ≤ 255) (b2 : ∀ x ∈ ys, 0 ≤ x ∧ x ≤ 255) (h : xs ≠ ys) :
    Calls Tryd.prog 57 #[.slice A n c, .slice A' m c'] w fun e w' => e = .returned (.bool false) ∧ w = w' := by
  have k1 := conv_sees (c := c) h1 hl
  have k2 := conv_sees (c := c') h2 hm
  have hne : ((strOfNums xs).toList == (strOfNums ys).toList) = false := by
    rw [beq_eq_false_iff_ne]
    intro e
    rw [str_toList, str_toList] at e
    exact h (bytes_inj xs ys b1 b2 e)
  generalize strOfNums xs = s at *
  generalize strOfNums ys = t at *
  clear h
  go_enter Tryd.func57, Tryd.ntmps57
  go_wp2
  go_ret
  exact ⟨rfl, rfl⟩

theorem Put_one (g : Nat) (x : Int) (w : World) (hx : 0 ≤ x ∧ x ≤ 18446744073709551615) (hg : g < w.heap.size) (h0 : w.cell? ⟨g, 0, none⟩ = some (.int .u64 x)) :
    Calls Tryd.prog 41 #[.int .i64 4, .slice (some ⟨g, 0, none⟩) 1 1] w (OwnPost w 4 (lowB 4 x)) := by
  have := Put_any 4 1 1 (some ⟨g, 0, none⟩) [x] w (by omega) (by omega) rfl (by omega)
    (.inr ⟨g, 0, rfl, hg, fun j u hu => by
      match j, hu with
      | 0, hu => simp [nums] at hu; subst hu; exact h0⟩) (by simp; exact hx)
  rwa [show allB 4 [x] = lowB 4 x by simp [allB]] at this
theorem Of_one (g : Nat) (r : RowV) (w : World) (ht : Tab w) (hl : r.bs.length ≤ 1000000) (hg : g < w.heap.size) (h0 : w.cell? ⟨g, 0, none⟩ = some r.val) (hok : r.Ok w w.heap.size) :
    Calls Tryd.prog 66 #[.slice (some ⟨g, 0, none⟩) 1 1] w fun e w' => e = .returned (.int .u32 (crc r.bs : Nat)) ∧ w = w' := by
  have := Of_any 1 1 (some ⟨g, 0, none⟩) [r] w rfl (by omega) (by simpa using hl) ht
    (.inr ⟨g, 0, rfl, hg, fun j u hu => by
      match j, hu with
      | 0, hu => simp at hu; subst hu; exact h0⟩) (by simpa using hok)
  rwa [show flatB [r] = r.bs by simp [flatB]] at this

set_option maxHeartbeats 800000 in
theorem tell_any (a : Option Addr) (m c : Nat) (bs : List Int) (w : World) (hlen : bs.length = m) (hm : m ≤ 1000000) (hc : m ≤ c) (ht : Tab w)
    (hsee : Sees w w.heap.size a (nums .u8 bs)) (hb : ∀ b ∈ bs, 0 ≤ b ∧ b ≤ 255) :
    Calls Tryd.prog 58 #[.slice a m c] w (OwnPost w 4 (lowB 4 (crc bs : Nat))) := by
  have hok : ∀ v : Value, RowV.Ok (w.alloc (.cells #[v] 22)) (w.heap.size + 1) ⟨a, c, bs⟩ := fun v =>
    ⟨by show bs.length ≤ c; omega, (hsee.below ((Below.refl _ w).alloc (Nat.le_refl _) _) (Nat.le_refl _)).more (by omega), hb⟩
  have ht1 : ∀ v : Value, Tab (w.alloc (.cells #[v] 22)) := fun v => ht.next ((Below.refl _ w).alloc (Nat.le_refl _) _)
  have hq := crc_lt bs
  have HL := Lib.hid hlen
  have HO := Lib.hid hok
  have HT := Lib.hid ht1
  have hof := fun g w => Of_one g ⟨a, c, bs⟩ w
  have HOF := Lib.hid hof
  clear hok ht1 hlen hof
  generalize crc bs = q at *
  go_enter Tryd.func58, Tryd.ntmps58
  go_wp2_with (first
    | (go_at_call 66; ((with_reducible refine (HOF.out w.heap.size _ (HT.out _) (by rw [HL.out]; exact hm) (by simp) (by rw [show RowV.val ⟨a, c, bs⟩ = .slice a m c by rw [RowV.val, HL.out]]; simp) (by simpa using HO.out _)).mono ?_); rintro e w1 ⟨rfl, rfl⟩))
    | (go_at_call 41; ((with_reducible refine (Put_one (w.heap.size + 1) (q : Int) _ (by omega) (by simp) (by simp)).mono ?_); rintro e w2 ⟨v2, rfl, ho2, hb2⟩)))
  go_ret
  exact ⟨_, rfl, own_lower ho2 (by simp; omega), (((Below.refl _ _).alloc (Nat.le_refl _) _).alloc (by simp) _).trans (hb2.mono (by simp; omega))⟩

set_option maxHeartbeats 800000 in
theorem Seal_any (a : Option Addr) (m c : Nat) (bs : List Int) (w : World) (hlen : bs.length = m) (hm : m ≤ 1000000) (hc : m ≤ c) (ht : Tab w)
    (hsee : Sees w w.heap.size a (nums .u8 bs)) (hb : ∀ b ∈ bs, 0 ≤ b ∧ b ≤ 255) :
    Calls Tryd.prog 51 #[.slice a m c] w (OwnPost w (m + 4) (bs ++ lowB 4 (crc bs : Nat))) := by
  obtain ⟨i0, hi, hz0, hz1, hz2⟩ := info_parts info_u8
  have hll := lowB_length 4 (crc bs : Nat)
  have HLL := Lib.hid hll
  have HL := Lib.hid hlen
  clear hlen hll
  have htell := fun w' (h : Below w.heap.size w w') => tell_any a m c bs w' HL.out hm hc (ht.next h) ((hsee.below h (Nat.le_refl _)).more h.size) hb
  generalize lowB 4 (crc bs : Nat) = q at *
  have HT := Lib.hid htell
  clear htell
  go_enter Tryd.func51, Tryd.ntmps51
  go_wp2_with (first
    | (at_make
       refine wpList_make_own _ rfl _ _ 22 rfl w.heap.size 5 i0 (.int .u8 0) 1 Tryd.underlying22 hi hz0 hz1 _ _ _ (m + 4) rfl rfl (by simp) (by rw [hz2]; omega) (by unfold maxLen; omega) (Nat.le_refl _) ?_
       intro w0 hown0 hgrow0
       have hb0 : Below w.heap.size w w0 := (Below.refl _ _).grown hgrow0 (Nat.le_refl _) (fun k h => by cases h))
    | (at_builtin
       refine wpList_append_sees _ rfl (.tmp 8) (.tmp 9) 22 rfl w.heap.size 5 i0 (.int .u8 0) 1 Tryd.underlying22 hi hz0 hz1 hz2 rfl _ 0 [] rfl hown0 w.heap.size a m c (nums .u8 bs) rfl (by rw [nums_length]; exact HL.out) (hsee.below hb0 (Nat.le_refl _)) (nums_one _ _) (by unfold maxLen; omega) (by omega) hb0.size ?_
       intro v1 w1 hown1 hg1
       have hb1 : Below w.heap.size w w1 := hb0.trans (hg1.below hb0.size (fun g hg => (hown0.lt g hg).1)))
    | (go_at_call 58; ((with_reducible refine (HT.out _ hb1).mono ?_); rintro e w2 ⟨v2, rfl, ho2, hb2⟩)
       obtain ⟨A2, C2, rfl, hC2, hs2, hlt2⟩ := own_form ho2
       have hb3 := hb1.trans (hb2.mono hb1.size)
       have hown3 := own_below hown1 hb2 (fun k hk => (hown1.lt k hk).2))
    | (at_builtin
       refine wpList_append_sees _ rfl (.tmp 11) (.tmp 13) 22 rfl w.heap.size 5 i0 (.int .u8 0) 1 Tryd.underlying22 hi hz0 hz1 hz2 rfl v1 (0 + m) ([] ++ nums .u8 bs) rfl hown3 w2.heap.size A2 4 C2 (nums .u8 q) rfl (by rw [nums_length]; exact HLL.out) hs2 (nums_one _ _) (by unfold maxLen; omega) (by omega) hb3.size ?_
       intro v4 w4 hown4 hg4))
  go_ret
  refine ⟨_, rfl, ?_, hb3.trans (hg4.below hb3.size (fun g hg => (hown3.lt g hg).1))⟩
  rw [nums_append]
  rw [Nat.zero_add, List.nil_append] at hown4
  exact hown4

/-- Fewer than four bytes. -/
theorem Open_short (a : Option Addr) (m c : Nat) (w : World) (hm : m < 4) :
    Calls Tryd.prog 45 #[.slice a m c] w fun e w' => e = .returned (.tuple #[.slice none 0 0, .bool false]) ∧ w = w' := by
  have hm' : (m : Int) < 4 := by omega
  go_enter Tryd.func45, Tryd.ntmps45
  go_wp2
  go_ret2
  exact ⟨rfl, rfl⟩

/-- A slice's front, and what lies behind. -/
theorem sees_front {w : World} {B : Nat} {a : Option Addr} {bs : List Int} (h : Sees w B a (nums .u8 bs)) (n : Nat) : Sees w B a (nums .u8 (bs.take n)) := by
  rcases h with h | ⟨b, o, rfl, hb, hc⟩
  · obtain rfl : bs = [] := by simpa [nums] using h
    exact .inl (by simp [nums])
  · refine .inr ⟨b, o, rfl, hb, fun j u hu => hc j u ?_⟩
    simp only [nums, List.map_take, List.getElem?_take] at hu ⊢
    split at hu
    · exact hu
    · cases hu

/-- what lies behind the first n of n + 4 bytes -/
theorem sees_back {w : World} {B : Nat} {a : Option Addr} {bs : List Int} (h : Sees w B a (nums .u8 bs)) (n : Nat) : Sees w B (a.map (·.add n)) (nums .u8 (bs.drop n)) := by
  rcases h with h | ⟨b, o, rfl, hb, hc⟩
  · obtain rfl : bs = [] := by simpa [nums] using h
    exact .inl (by simp [nums])
  · refine .inr ⟨b, o + n, by simp [Addr.add_lit], hb, fun j u hu => ?_⟩
    rw [Nat.add_assoc]
    refine hc (n + j) u ?_
    simpa [nums, List.getElem?_drop] using hu

theorem drew_below (w : World) : Below w.heap.size w w.drew := ⟨rfl, rfl, rfl, Nat.le_refl _, fun _ _ => rfl⟩

set_option maxHeartbeats 1600000 in
theorem Open_yes (a : Option Addr) (n c : Nat) (pre : List Int) (w : World) (hlen : pre.length = n) (hm : n ≤ 900000) (hc : n + 4 ≤ c) (ht : Tab w)
    (hsee : Sees w w.heap.size a (nums .u8 (pre ++ lowB 4 (crc pre : Nat)))) (hb : ∀ b ∈ pre, 0 ≤ b ∧ b ≤ 255) :
    Calls Tryd.prog 45 #[.slice a (n + 4 : Nat) c] w fun e w' => ∃ v, e = .returned (.tuple #[v, .bool true]) ∧ w'.ownsRow w.heap.size 5 1 v n (nums .u8 pre) ∧ Below w.heap.size w w' := by
  obtain ⟨i0, hi, hz0, hz1, hz2⟩ := info_parts info_u8
  have hf : Sees w w.heap.size a (nums .u8 pre) := by
    have := sees_front hsee n
    rwa [List.take_left' hlen] at this
  have hk : Sees w w.heap.size (a.map (·.add n)) (nums .u8 (lowB 4 (crc pre : Nat))) := by
    have := sees_back hsee n
    rwa [List.drop_left' hlen] at this
  have htell := fun w' (h : Below w.heap.size w w') => tell_any a n c pre w' hlen (by omega) (by omega) (ht.next h) ((hf.below h (Nat.le_refl _)).more h.size) hb
  have hll := lowB_length 4 (crc pre : Nat)
  generalize lowB 4 (crc pre : Nat) = q at *
  have HT := Lib.hid htell
  have HLL := Lib.hid hll
  have HL := Lib.hid hlen
  clear htell hll hlen hsee
  have he : ((n + 4 : Nat) : Int) - 4 = (n : Int) := by omega
  obtain ⟨m, hmm⟩ : ∃ m, n + 4 = m := ⟨_, rfl⟩
  rw [hmm] at he hc ⊢
  have hm1 : n + 4 ≤ m := by omega
  have hm2 : m ≤ n + 4 := by omega
  have h4 : ¬ (m : Int) < 4 := by omega
  have hcn : ¬ c = n := by omega
  have i1 : (0 : Int) ≤ (n : Int) := by omega
  have i2 : (n : Int) ≤ (m : Int) := by omega
  have i3 : (m : Int) ≤ (c : Int) := by omega
  have i4 : (n : Int) ≤ (c : Int) := by omega
  clear hmm
  go_enter Tryd.func45, Tryd.ntmps45
  go_wp2
  go_region_with (first
    | (go_at_call 58; ((with_reducible refine (HT.out _ (drew_below w)).mono ?_); rintro e w2 ⟨v2, rfl, ho2, hb2⟩)
       go_loud (obtain ⟨A2, C2, rfl, hC2, hs2, hlt2⟩ := own_form ho2)
       go_loud (have hd2 : Below w.heap.size w w2 := (drew_below w).trans hb2))
    | (go_at_call 57; ((with_reducible refine (Equal_yes _ A2 (m - n) 4 (c - n) C2 w2.heap.size q w2 (by rw [HLL.out]; omega) HLL.out ((hk.below hd2 (Nat.le_refl _)).more hd2.size) hs2).mono ?_); rintro e w3 ⟨rfl, rfl⟩)))
  go_wp2_with (at_builtin
               refine wpList_append_sees _ rfl (.const (.slice none 0 0)) (.tmp 22) 22 rfl w.heap.size 5 i0 (.int .u8 0) 1 Tryd.underlying22 hi hz0 hz1 hz2 rfl (.slice none 0 0) 0 [] rfl (World.ownsRow_nil _ _ _ _) w.heap.size a n c (nums .u8 pre) rfl (by rw [nums_length]; exact HL.out) (hf.below hd2 (Nat.le_refl _)) (nums_one _ _) (by unfold maxLen; omega) (by omega) hd2.size ?_
               intro v4 w4 hown4 hg4)
  go_ret2
  rw [Nat.zero_add, List.nil_append] at hown4
  exact ⟨_, rfl, hown4, hd2.trans (hg4.below hd2.size (fun g hg => by simp [Value.ownBlock] at hg))⟩

set_option maxHeartbeats 1600000 in
theorem Open_no (a : Option Addr) (n c : Nat) (pre q : List Int) (w : World) (hlen : pre.length = n) (hq : q.length = 4) (hm : n ≤ 900000) (hc : n + 4 ≤ c) (ht : Tab w)
    (hsee : Sees w w.heap.size a (nums .u8 (pre ++ q))) (hb : ∀ b ∈ pre ++ q, 0 ≤ b ∧ b ≤ 255) (hne : q ≠ lowB 4 (crc pre : Nat)) :
    Calls Tryd.prog 45 #[.slice a (n + 4 : Nat) c] w fun e w' => e = .returned (.tuple #[.slice none 0 0, .bool false]) ∧ Below w.heap.size w w' := by
  have hf : Sees w w.heap.size a (nums .u8 pre) := by
    have := sees_front hsee n
    rwa [List.take_left' hlen] at this
  have hk : Sees w w.heap.size (a.map (·.add n)) (nums .u8 q) := by
    have := sees_back hsee n
    rwa [List.drop_left' hlen] at this
  have htell := fun w' (h : Below w.heap.size w w') => tell_any a n c pre w' hlen (by omega) (by omega) (ht.next h) ((hf.below h (Nat.le_refl _)).more h.size) (fun b h => hb b (by simp [h]))
  have hll := lowB_length 4 (crc pre : Nat)
  have hlb := lowB_mem 4 (crc pre : Nat)
  have hqb : ∀ x ∈ q, 0 ≤ x ∧ x ≤ 255 := fun b h => hb b (by simp [h])
  generalize lowB 4 (crc pre : Nat) = q2 at *
  have HT := Lib.hid htell
  have HLL := Lib.hid hll
  have HLB := Lib.hid hlb
  have HQB := Lib.hid hqb
  have HL := Lib.hid hlen
  have HQ := Lib.hid hq
  have HNE := Lib.hid hne
  clear htell hll hlen hsee hlb hqb hne hq
  have he : ((n + 4 : Nat) : Int) - 4 = (n : Int) := by omega
  obtain ⟨m, hmm⟩ : ∃ m, n + 4 = m := ⟨_, rfl⟩
  rw [hmm] at he hc ⊢
  have hm1 : n + 4 ≤ m := by omega
  have hm2 : m ≤ n + 4 := by omega
  have h4 : ¬ (m : Int) < 4 := by omega
  have hcn : ¬ c = n := by omega
  have i1 : (0 : Int) ≤ (n : Int) := by omega
  have i2 : (n : Int) ≤ (m : Int) := by omega
  have i3 : (m : Int) ≤ (c : Int) := by omega
  have i4 : (n : Int) ≤ (c : Int) := by omega
  clear hmm
  go_enter Tryd.func45, Tryd.ntmps45
  go_wp2
  go_region_with (first
    | (go_at_call 58; ((with_reducible refine (HT.out _ (drew_below w)).mono ?_); rintro e w2 ⟨v2, rfl, ho2, hb2⟩)
       go_loud (obtain ⟨A2, C2, rfl, hC2, hs2, hlt2⟩ := own_form ho2)
       go_loud (have hd2 : Below w.heap.size w w2 := (drew_below w).trans hb2))
    | (go_at_call 57; ((with_reducible refine (Equal_no _ A2 (m - n) 4 (c - n) C2 w2.heap.size q q2 w2 (by rw [HQ.out]; omega) HLL.out ((hk.below hd2 (Nat.le_refl _)).more hd2.size) hs2 HQB.out HLB.out HNE.out).mono ?_); rintro e w3 ⟨rfl, rfl⟩)))
  go_wp2
  go_ret2
  exact ⟨rfl, hd2⟩

end Go.Proofs.YtjedkkkhficmoaaDoor.Crc
