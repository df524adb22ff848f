/- The contract of octet.Part. -/
import Derived.Test.YtjedkkkhficmoaaDoorOctB
namespace Go.Proofs.YtjedkkkhficmoaaDoor.Oct
open Go.RowKit Go.Proofs.YtjedkkkhficmoaaDoor.Plain Go.Proofs.YtjedkkkhficmoaaDoor.Sees
set_option linter.unusedVariables false

theorem info_u8s : (Tryd.prog.info? 22).map (fun i => (i.zero, i.size, i.bytes)) = some (some (.slice none 0 0), 1, 24) := by kernel_rfl

/-- rows that lie one behind the other in block g, two bytes ahead of each -/
def laid (g : Nat) : Nat → List RowV → Nat → Prop
  | a, [], b => a = b
  | a, r :: l, b => r.c = r.bs.length ∧ (r.bs = [] ∨ r.A = some ⟨g, a + 2, none⟩) ∧ laid g (a + 2 + r.bs.length) l b
theorem laid_snoc (g : Nat) (r : RowV) : ∀ (rs : List RowV) (a b : Nat), laid g a rs b → r.c = r.bs.length → (r.bs = [] ∨ r.A = some ⟨g, b + 2, none⟩) → laid g a (rs ++ [r]) (b + 2 + r.bs.length) := by
  intro rs
  induction rs with
  | nil => intro a b h h1 h2; obtain rfl : a = b := h; exact ⟨h1, h2, rfl⟩
  | cons x rs ih => intro a b h h1 h2; exact ⟨h.1, h.2.1, ih _ _ h.2.2 h1 h2⟩

theorem laid_len (g : Nat) : ∀ (rs : List RowV) (a b : Nat), laid g a rs b → a + 2 * rs.length ≤ b := by
  intro rs
  induction rs with
  | nil => intro a b h; have h : a = b := h; simp; omega
  | cons x rs ih => intro a b h; have := ih _ _ h.2.2; simp; omega

/-- What Part leaves: nothing and the error; or the rows, in a copy of the bytes of the call's own. -/
def PartPost (w : World) (bs : List Int) (e : Ending) (w' : World) : Prop :=
  (parts bs = none ∧ e = .returned (.tuple #[.slice none 0 0, .int .i64 10]) ∧ Below w.heap.size w w') ∨
  ∃ v rs g A C B, parts bs = some (rs.map RowV.bs) ∧ e = .returned (.tuple #[v, .int .i64 0]) ∧ Below w.heap.size w w' ∧ w.heap.size ≤ B ∧
    w'.ownsRow B 22 1 v rs.length (rs.map RowV.val) ∧ (∀ r ∈ rs, r.Ok w' B) ∧ laid g 0 rs bs.length ∧
    w'.ownsRow w.heap.size 5 1 (.slice A bs.length C) bs.length (nums .u8 bs) ∧ (bs = [] ∨ A = some ⟨g, 0, none⟩) ∧ ∀ k, (Value.slice A bs.length C).ownBlock = some k → k < B

theorem one_slice (a : Option Addr) (n c : Nat) : ∀ u ∈ [Value.slice a n c], u.oneCell' = true := by
  intro u hu
  simp at hu
  subst hu
  rfl

theorem get_two (a : Option Addr) (m c B N : Nat) (bs : List Int) (w : World) (hm : 2 ≤ m) (hlen : bs.length = m) (hmx : m ≤ maxLen)
    (hsee : Sees w B a (nums .u8 bs)) (hb : ∀ b ∈ bs, 0 ≤ b ∧ b ≤ 255) (hN : ofB (bs.take 2) = N) :
    Calls Tryd.prog 59 #[.int .i64 2, .slice a m c] w fun e w' => e = .returned (.int .u64 N) ∧ w = w' := by
  rw [← hN]
  exact get_any a m c 2 B bs w (by omega) hm hlen hmx hsee hb

theorem sees_off {w : World} {B g : Nat} {k : IntKind} {bs : List Int} (h : Sees w B (some ⟨g, 0, none⟩) (nums k bs)) (off n : Nat) :
    Sees w B (some ⟨g, off, none⟩) (nums k ((bs.drop off).take n)) := by
  rcases h with h | ⟨b, o, ha, hb, hc⟩
  · obtain rfl : bs = [] := by simpa [nums] using h
    exact .inl (by simp [nums])
  · injection ha with ha
    injection ha with h1 h2
    subst h1; subst h2
    refine .inr ⟨g, off, rfl, hb, fun j u hu => ?_⟩
    have h3 : (nums k bs)[off + j]? = some u := by
      simp only [nums, List.getElem?_map, List.getElem?_take, List.getElem?_drop] at hu ⊢
      split at hu
      · exact hu
      · simp at hu
    have := hc _ u h3
    rwa [Nat.zero_add] at this

set_option maxRecDepth 100000 in
set_option maxHeartbeats 1600000 in
theorem Part_any (m c : Nat) (a : Option Addr) (bs : List Int) (w : World) (hlen : bs.length = m) (hm : m ≤ 100000000)
    (hsee : Sees w w.heap.size a (nums .u8 bs)) (hb : ∀ b ∈ bs, 0 ≤ b ∧ b ≤ 255) :
    Calls Tryd.prog 46 #[.slice a m c] w (PartPost w bs) := by
  obtain ⟨i0, hi, hz0, hz1, hz2⟩ := info_parts info_u8
  obtain ⟨i1, hj, hy0, hy1, hy2⟩ := info_parts info_u8s
  have HLEN := Lib.hid hlen
  clear hlen
  go_enter Tryd.func46, Tryd.ntmps46
  go_wp2_with (at_builtin; refine wpList_append_sees _ rfl (.const (.slice none 0 0)) (.tmp 7) 22 rfl w.heap.size 5 i0 (.int .u8 0) 1 Tryd.underlying22 hi hz0 hz1 hz2 rfl (.slice none 0 0) 0 [] rfl (World.ownsRow_nil _ _ _ _) w.heap.size a m c (nums .u8 bs) rfl (by rw [nums_length]; exact HLEN.out) hsee (nums_one _ _) (by unfold maxLen; omega) (by omega) (Nat.le_refl _) ?_; intro v0 w0 hown0 hg0)
  have hb0 : Below w.heap.size w w0 := hg0.below (Nat.le_refl _) (fun g hg => by simp [Value.ownBlock] at hg)
  simp only [Nat.zero_add, List.nil_append] at hown0
  obtain ⟨A0, C0, rfl, hC0, hsee0, hat0⟩ := own_form hown0
  obtain ⟨g, hg⟩ : ∃ g, m = 0 ∨ A0 = some ⟨g, 0, none⟩ := by
    rcases hown0.2 with ⟨hv, h0⟩ | ⟨g, cap, cur, hv, _⟩
    · exact ⟨0, .inl h0⟩
    · exact ⟨g, .inr (by injection hv)⟩
  have HG := Lib.hid hg
  clear hg
  go_wp2
  go_loopw [4, 5] (fun rest rows wr => ∃ (off n : Nat) (A : Option Addr) (C : Nat) (rs : List RowV), n + off = m ∧ n ≤ C ∧ rest = .slice A n C ∧ (n = 0 ∨ A = some ⟨g, off, none⟩) ∧
      wr.ownsRow w0.heap.size 22 1 rows rs.length (rs.map RowV.val) ∧ (∀ r ∈ rs, r.Ok w0 w0.heap.size) ∧ laid g 0 rs off ∧ parts bs = (parts (bs.drop off)).map (rs.map RowV.bs ++ ·) ∧ Below w0.heap.size w0 wr)
    (fun b _ _ => match b with | .slice _ n _ => n | _ => 0)
  case atStart => exact ⟨0, m, A0, C0, [], rfl, hC0, rfl, HG.out, World.ownsRow_nil _ _ _ _, (fun r hr => by cases hr), rfl, by simp, Below.refl _ _⟩
  case round =>
    obtain ⟨off, n, A, C, rs, hno, hnC, rfl, hA, hown, hoks, hlaid, hparts, hbel⟩ := hrel
    have HA := Lib.hid hA
    have HP := Lib.hid hparts
    have HNO := Lib.hid hno
    have HOK := Lib.hid hoks
    clear hA hparts hno hoks
    have hsz := hbel.size
    have hlr : (bs.drop off).length = n := by have := HNO.out; have := HLEN.out; rw [List.length_drop]; omega
    have hlb : ∀ b ∈ bs.drop off, 0 ≤ b ∧ b ≤ 255 := fun b hbl => hb b (List.mem_of_mem_drop hbl)
    have hnm : n ≤ m := by have := HNO.out; omega
    by_cases hn0 : n = 0
    · subst hn0
      go_wp2
      go_ret2
      obtain rfl : off = m := by have := HNO.out; omega
      have hl := HLEN.out
      subst hl
      have hp := HP.out
      rw [List.drop_eq_nil_of_le (Nat.le_refl _), parts_nil] at hp
      refine .inr ⟨u5, rs, g, A0, C0, w0.heap.size, by simpa using hp, rfl, hb0.trans (hbel.mono hb0.size), hb0.size, hown, fun r hr => (HOK.out r hr).below hbel (Nat.le_refl _), hlaid, own_below hown0 hbel (fun k hk => (hat0 k hk).2), ?_, fun k hk => (hat0 k hk).2⟩
      rcases HG.out with h | h
      · exact .inl (List.eq_nil_of_length_eq_zero h)
      · exact .inr h
    · by_cases hn1 : n = 1
      · subst hn1
        go_wp2
        go_ret2
        have hp := HP.out
        rw [parts_one _ hlr] at hp
        exact .inl ⟨hp, rfl, hb0.trans (hbel.mono hb0.size)⟩
      · have hn2 : 2 ≤ n := by omega
        clear hn0 hn1
        obtain ⟨N, hN, hN5⟩ := ofB_two (bs.drop off) (by omega) hlb
        have hst := parts_step (bs.drop off) N (by omega) hN
        obtain rfl : A = some ⟨g, off, none⟩ := by
          rcases HA.out with h | h
          · omega
          · exact h
        have hA0 : A0 = some ⟨g, 0, none⟩ := by
          rcases HG.out with h | h
          · omega
          · exact h
        have hsr : Sees w0 w0.heap.size (some ⟨g, off, none⟩) (nums .u8 (bs.drop off)) := by
          have h := hsee0
          rw [hA0] at h
          have h2 := sees_off (k := .u8) h off n
          rwa [List.take_of_length_le (by omega)] at h2
        have hrow : Sees w0 w0.heap.size (some ⟨g, off + 2, none⟩) (nums .u8 (((bs.drop off).drop 2).take N)) := by
          have h := hsee0
          rw [hA0] at h
          rw [List.drop_drop]
          exact sees_off (k := .u8) h (off + 2) N
        have HSEE := Lib.hid hsee0
        have HST := Lib.hid hst
        have HN' := Lib.hid hN
        have HLR := Lib.hid hlr
        have HA0 := Lib.hid hA0
        clear hsee0 hst hN hlr hA0
        by_cases hfit : n < 2 + N
        · go_wp2_with (go_at_call 59; ((with_reducible refine (get_two _ n C w0.heap.size N (bs.drop off) _ hn2 HLR.out (by unfold maxLen; omega) (hsr.below hbel (Nat.le_refl _)) hlb HN'.out).mono ?_); rintro e w' ⟨rfl, rfl⟩))
          go_ret2
          have hp := HP.out
          rw [HST.out, HLR.out, if_pos hfit] at hp
          exact .inl ⟨hp, rfl, hb0.trans (hbel.mono hb0.size)⟩
        · have hrl : rs.length ≤ m := by have h1 := laid_len g rs 0 off hlaid; have h2 := HNO.out; omega
          have hbl : (((bs.drop off).drop 2).take N).length = N := by have := HLR.out; rw [List.length_take, List.length_drop]; omega
          have hend : ∀ (v1 : Value) (w1 : World) (A1 A2 : Option Addr) (n2 C2 : Nat), w1.ownsRow w0.heap.size 22 1 v1 (rs.length + 1) (rs.map RowV.val ++ [.slice A1 N N]) → Below w0.heap.size w0 w1 →
              (N = 0 ∨ A1 = some ⟨g, off + 2, none⟩) → n2 = n - (2 + N) → n2 ≤ C2 → (n2 = 0 ∨ A2 = some ⟨g, off + (2 + N), none⟩) →
              ∃ (off' n' : Nat) (A' : Option Addr) (C' : Nat) (rs' : List RowV), n' + off' = m ∧ n' ≤ C' ∧ Value.slice A2 n2 C2 = .slice A' n' C' ∧ (n' = 0 ∨ A' = some ⟨g, off', none⟩) ∧
                w1.ownsRow w0.heap.size 22 1 v1 rs'.length (rs'.map RowV.val) ∧ (∀ r ∈ rs', r.Ok w0 w0.heap.size) ∧ laid g 0 rs' off' ∧ parts bs = (parts (bs.drop off')).map (rs'.map RowV.bs ++ ·) ∧ Below w0.heap.size w0 w1 := by
            intro v1 w1 A1 A2 n2 C2 ho hbl1 h1 h2 h3 h4
            have hno := HNO.out
            refine ⟨off + (2 + N), n2, A2, C2, rs ++ [⟨A1, N, ((bs.drop off).drop 2).take N⟩], by omega, h3, rfl, h4, ?_, ?_, ?_, ?_, hbl1⟩
            · rw [List.length_append, List.map_append, List.map_cons, List.map_nil]
              show w1.ownsRow _ _ _ _ _ (_ ++ [Value.slice A1 (((bs.drop off).drop 2).take N).length N])
              rw [hbl]
              exact ho
            · intro r hr
              rw [List.mem_append, List.mem_singleton] at hr
              rcases hr with hr | rfl
              · exact HOK.out r hr
              · refine ⟨by rw [hbl]; exact Nat.le_refl _, ?_, fun b hb => hlb b (List.mem_of_mem_drop (List.mem_of_mem_take hb))⟩
                rcases h1 with h1 | h1
                · subst h1; exact .inl (by simp [nums])
                · subst h1; exact hrow
            · have := laid_snoc g ⟨A1, N, ((bs.drop off).drop 2).take N⟩ rs 0 off hlaid (by rw [hbl]) (by
                rcases h1 with h1 | h1
                · subst h1; exact .inl (by simp)
                · exact .inr h1)
              rw [hbl] at this
              rw [← Nat.add_assoc]
              exact this
            · have hdd : bs.drop (off + (2 + N)) = (bs.drop off).drop (2 + N) := by rw [List.drop_drop]
              rw [HP.out, HST.out, HLR.out, if_neg hfit, hdd]
              generalize parts ((bs.drop off).drop (2 + N)) = q
              cases q with
              | none => rfl
              | some x => simp
          by_cases hN0 : N = 0
          · subst hN0
            by_cases hCE : 2 = C
            · subst hCE
              obtain rfl : 2 = n := by omega
              go_wp2_with (first
                  | (go_at_call 59; ((with_reducible refine (get_two _ 2 2 w0.heap.size 0 (bs.drop off) _ hn2 HLR.out (by unfold maxLen; omega) (hsr.below hbel (Nat.le_refl _)) hlb HN'.out).mono ?_); rintro e w' ⟨rfl, rfl⟩))
                  | (at_builtin; refine wpList_append_own_at _ rfl (.tmp 23) (.tmp 28) 97 rfl w0.heap.size 22 i1 (.slice none 0 0) 1 24 Tryd.underlying97 hj hy0 hy1 hy2 rfl (by omega) u5 rs.length _ rfl (hown.alloc _) ⟨wr.heap.size, 0, none⟩ 1 1 [_] rfl rfl (new_cell _ _ _) (one_slice _ _ _) (by unfold maxLen; omega) (by omega) (by simp; omega) ?_; intro v1 w1 hown1 hg1 _ hat1))
              go_roundw
              case rel => exact hend _ _ _ _ _ _ hown1 ((hbel.alloc (by omega) _).grown hg1 (by simp; omega) (fun g hg => (hown.lt g hg).1)) (.inl (by simp)) (by simp) (by simp) (.inl (by simp))
              case measure => first | (simp; omega) | simp
            · have hCE' : ¬ C = 2 := fun h => hCE h.symm
              go_wp2_with (first
                  | (go_at_call 59; ((with_reducible refine (get_two _ n C w0.heap.size 0 (bs.drop off) _ hn2 HLR.out (by unfold maxLen; omega) (hsr.below hbel (Nat.le_refl _)) hlb HN'.out).mono ?_); rintro e w' ⟨rfl, rfl⟩))
                  | (at_builtin; refine wpList_append_own_at _ rfl (.tmp 23) (.tmp 28) 97 rfl w0.heap.size 22 i1 (.slice none 0 0) 1 24 Tryd.underlying97 hj hy0 hy1 hy2 rfl (by omega) u5 rs.length _ rfl (hown.alloc _) ⟨wr.heap.size, 0, none⟩ 1 1 [_] rfl rfl (new_cell _ _ _) (one_slice _ _ _) (by unfold maxLen; omega) (by omega) (by simp; omega) ?_; intro v1 w1 hown1 hg1 _ hat1))
              go_roundw
              case rel => exact hend _ _ _ _ _ _ hown1 ((hbel.alloc (by omega) _).grown hg1 (by simp; omega) (fun g hg => (hown.lt g hg).1)) (.inl (by simp)) (by simp) (by omega) (.inr (by simp))
              case measure => first | (simp; omega) | simp
          · by_cases hCE : 2 + N = C
            · subst hCE
              obtain rfl : 2 + N = n := by omega
              go_wp2_with (first
                  | (go_at_call 59; ((with_reducible refine (get_two _ (2 + N) (2 + N) w0.heap.size N (bs.drop off) _ hn2 HLR.out (by unfold maxLen; omega) (hsr.below hbel (Nat.le_refl _)) hlb HN'.out).mono ?_); rintro e w' ⟨rfl, rfl⟩))
                  | (at_builtin; refine wpList_append_own_at _ rfl (.tmp 23) (.tmp 28) 97 rfl w0.heap.size 22 i1 (.slice none 0 0) 1 24 Tryd.underlying97 hj hy0 hy1 hy2 rfl (by omega) u5 rs.length _ rfl (hown.alloc _) ⟨wr.heap.size, 0, none⟩ 1 1 [_] rfl rfl (new_cell _ _ _) (one_slice _ _ _) (by unfold maxLen; omega) (by omega) (by simp; omega) ?_; intro v1 w1 hown1 hg1 _ hat1))
              go_roundw
              case rel => exact hend _ _ _ _ _ _ hown1 ((hbel.alloc (by omega) _).grown hg1 (by simp; omega) (fun g hg => (hown.lt g hg).1)) (.inr rfl) (by omega) (by omega) (.inl (by omega))
              case measure => first | (simp; omega) | simp
            · have hCE' : ¬ C = 2 + N := fun h => hCE h.symm
              go_wp2_with (first
                  | (go_at_call 59; ((with_reducible refine (get_two _ n C w0.heap.size N (bs.drop off) _ hn2 HLR.out (by unfold maxLen; omega) (hsr.below hbel (Nat.le_refl _)) hlb HN'.out).mono ?_); rintro e w' ⟨rfl, rfl⟩))
                  | (at_builtin; refine wpList_append_own_at _ rfl (.tmp 23) (.tmp 28) 97 rfl w0.heap.size 22 i1 (.slice none 0 0) 1 24 Tryd.underlying97 hj hy0 hy1 hy2 rfl (by omega) u5 rs.length _ rfl (hown.alloc _) ⟨wr.heap.size, 0, none⟩ 1 1 [_] rfl rfl (new_cell _ _ _) (one_slice _ _ _) (by unfold maxLen; omega) (by omega) (by simp; omega) ?_; intro v1 w1 hown1 hg1 _ hat1))
              go_roundw
              case rel => exact hend _ _ _ _ _ _ hown1 ((hbel.alloc (by omega) _).grown hg1 (by simp; omega) (fun g hg => (hown.lt g hg).1)) (.inr rfl) rfl (by omega) (.inr rfl)
              case measure => first | (simp; omega) | simp

end Go.Proofs.YtjedkkkhficmoaaDoor.Oct
