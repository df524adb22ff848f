/- The contracts of sealed and Put. -/
import Derived.Test.YtjedkkkhficmoaaDoorJrnC
import Derived.Test.YtjedkkkhficmoaaDoorOctC
import Derived.Test.YtjedkkkhficmoaaDoorCrcB
import Derived.Test.YtjedkkkhficmoaaDoorInv
import Derived.Test.YtjedkkkhficmoaaDoorLgrP
import Derived.Deep.DeepMust
namespace Go.Proofs.YtjedkkkhficmoaaDoor.Jrn
open Go.RowKit Go.Proofs.YtjedkkkhficmoaaDoor.Plain Go.Proofs.YtjedkkkhficmoaaDoor.Sees Go.Proofs.YtjedkkkhficmoaaDoor.Oct Go.Proofs.YtjedkkkhficmoaaDoor.Crc Go.Proofs.YtjedkkkhficmoaaDoor.Box Go.Proofs.YtjedkkkhficmoaaDoor.Held Go.Proofs.YtjedkkkhficmoaaDoor.JrnP Go.Proofs.YtjedkkkhficmoaaDoor.Open Go.Proofs.YtjedkkkhficmoaaDoor.LgrP
set_option linter.unusedVariables false
set_option maxRecDepth 100000

/-- bytes; the world is next -/
def FBx (w : World) (n : Nat) (bs : List Int) (e : Ending) (w' : World) : Prop :=
  ∃ A c, e = .returned (.slice A n c) ∧ ((n ≤ c ∧ c ≤ maxLen) ∧ TS w' 5 A (nums .u8 bs)) ∧ Below w.heap.size w w'
theorem FBx.of {w w' : World} {n : Nat} {bs : List Int} {e : Ending} (h : FB w n bs e w') : FBx w n bs e w' := by
  obtain ⟨A, c, h1, h2, hm, h3, h4⟩ := h
  exact ⟨A, c, h1, ⟨⟨h2, hm⟩, h3⟩, h4⟩

theorem sealed_any (m c N : Nat) (a : Option Addr) (rs : List RowV) (w : World) (hlen : rs.length = m) (hm : m ≤ 10) (hrow : ∀ r ∈ rs, r.bs.length ≤ 60000) (ht : Tab w) (hN : (joinB (rs.map RowV.bs)).length + 4 = N) (hN6 : N ≤ 900000)
    (hsee : Sees w w.heap.size a (rs.map RowV.val)) (hok : ∀ r ∈ rs, r.Ok w w.heap.size) :
    Calls Tryd.prog 40 #[.slice a m c] w (FB w N (sea (joinB (rs.map RowV.bs)))) := by
  have HJ := Lib.hid (Join_any m c a rs w hlen (by omega) hrow hsee hok)
  have hb : ∀ b ∈ joinB (rs.map RowV.bs), 0 ≤ b ∧ b ≤ 255 := joinB_mem _ fun r hr => by
    obtain ⟨q, hq, rfl⟩ := List.mem_map.1 hr
    exact (hok q hq).byte
  generalize joinB (rs.map RowV.bs) = bs at *
  obtain ⟨n, hn⟩ : ∃ n, bs.length = n := ⟨_, rfl⟩
  rw [hn] at hN HJ
  have HS : Hid (∀ A c W, n ≤ c → Below w.heap.size w W → Sees W W.heap.size A (nums .u8 bs) → Calls Tryd.prog 51 #[.slice A n c] W (OwnPost W (n + 4) (bs ++ lowB 4 (crc bs : Nat)))) := Lib.hid fun A c W h1 h2 h3 => Seal_any A n c bs W hn (by omega) h1 (ht.next h2) h3 hb
  unfold sea
  generalize bs ++ lowB 4 (crc bs : Nat) = sl at *
  subst hN
  clear hn hsee hok hrow hb ht
  go_enter Tryd.func40, Tryd.ntmps40
  go_wp2_with (first
    | (go_at_call 52; (with_reducible refine HJ.out.mono ?_); clear HJ; rintro e w1 ⟨v1, rfl, ho1, hb1⟩; obtain ⟨A1, C1, rfl, hC1, hs1, _⟩ := own_form ho1)
    | (go_at_call 51; (with_reducible refine (HS.out _ _ _ hC1 hb1 hs1).mono ?_); clear HS; rintro e w2 ⟨v2, rfl, ho2, hb2⟩))
  go_ret
  exact fb_own (own_lower ho2 hb1.size) (hb1.trans (hb2.mono hb1.size))

/-- a new row of numbers, of bytes, of rows -/
def NR (v : Value) (W : World) (n : Nat) (xs : List Int) : Prop := ∃ g, v = .slice (some ⟨g, 0, none⟩) n n ∧ Sees W W.heap.size (some ⟨g, 0, none⟩) (nums .u64 xs)
theorem NR.next {v : Value} {W W' : World} {n : Nat} {xs : List Int} (h : NR v W n xs) (hb : Below W.heap.size W W') : NR v W' n xs := by
  obtain ⟨g, h1, h2⟩ := h
  exact ⟨g, h1, sees_next h2 hb⟩
def FBv (v : Value) (W : World) (n : Nat) (bs : List Int) : Prop := ∃ A c, v = .slice A n c ∧ (n ≤ c ∧ c ≤ maxLen) ∧ TS W 5 A (nums .u8 bs)
theorem FBv.next {v : Value} {W W' : World} {n : Nat} {bs : List Int} (h : FBv v W n bs) (hb : Below W.heap.size W W') : FBv v W' n bs := by
  obtain ⟨A, c, h1, h2, h3⟩ := h
  exact ⟨A, c, h1, h2, h3.next hb⟩
def BR (v : Value) (W : World) (rows : List (List Int)) : Prop := ∃ (g : Nat) (rs : List RowV), v = .slice (some ⟨g, 0, none⟩) 3 3 ∧ rs.map RowV.bs = rows ∧ Sees W W.heap.size (some ⟨g, 0, none⟩) (rs.map RowV.val) ∧ ∀ r ∈ rs, r.Ok W W.heap.size
theorem RowV.Ok.nextW {W W' : World} {r : RowV} (h : r.Ok W W.heap.size) (hb : Below W.heap.size W W') : r.Ok W' W'.heap.size := ⟨h.cap, sees_next h.see hb, h.byte⟩
theorem BR.next {v : Value} {W W' : World} {rows : List (List Int)} (h : BR v W rows) (hb : Below W.heap.size W W') : BR v W' rows := by
  obtain ⟨g, rs, h1, h2, h3, h4⟩ := h
  exact ⟨g, rs, h1, h2, sees_next h3 hb, fun r hr => RowV.Ok.nextW (h4 r hr) hb⟩

theorem put8 (W : World) (g : Nat) (s : Int) (hs : 0 ≤ s ∧ s ≤ 18446744073709551615) (h : Sees W W.heap.size (some ⟨g, 0, none⟩) (nums .u64 [s])) : Calls Tryd.prog 41 #[.int .i64 8, .slice (some ⟨g, 0, none⟩) 1 1] W (FBx W 8 (lowB 8 s)) := by
  have := Put_any 8 1 1 (some ⟨g, 0, none⟩) [s] W (by omega) (by omega) rfl (by omega) h (by simpa using hs)
  rw [show allB 8 [s] = lowB 8 s by simp [allB]] at this
  exact this.mono fun e w' h => FBx.of (OwnPost.fb h)
theorem put44 (W : World) (g : Nat) (b m : Int) (h : Sees W W.heap.size (some ⟨g, 0, none⟩) (nums .u64 [u b, u m])) : Calls Tryd.prog 41 #[.int .i64 4, .slice (some ⟨g, 0, none⟩) 2 2] W (FBx W 8 (allB 4 [u b, u m])) :=
  (Put_any 4 2 2 (some ⟨g, 0, none⟩) [u b, u m] W (by omega) (by omega) rfl (by omega) h (fun x hx => by simp at hx; rcases hx with rfl | rfl <;> exact u_in _)).mono fun e w' h => FBx.of (OwnPost.fb h)
theorem put4n (W : World) (A : Option Addr) (n c n8 : Nat) (l : List Pm) (hl : 2 * l.length = n) (h8 : l.length ≤ 100 ∧ 4 * n = n8) (h : Sees W W.heap.size A (nums .u64 (pws l))) : Calls Tryd.prog 41 #[.int .i64 4, .slice A n c] W (FBx W n8 (allB 4 (pws l))) := by
  have := Put_any 4 n c A (pws l) W (by omega) (by omega) (by rw [pws_len]; exact hl) (by omega) h (pws_in l)
  rw [h8.2] at this
  exact this.mono fun e w' h => FBx.of (OwnPost.fb h)
theorem rws_le (b m s : Int) (l : List Pm) (hl : l.length ≤ 100) : ∀ r ∈ rws b m l s, r.length ≤ 60000 := fun r hr => by
  unfold rws at hr
  simp only [List.mem_cons, List.not_mem_nil, or_false] at hr
  rcases hr with rfl | rfl | rfl
  · rw [lowB_length]; omega
  · rw [allB_length]; simp
  · rw [allB_length, pws_len]; omega
theorem sealed3 (W : World) (g : Nat) (rs : List RowV) (b m : Int) (l : List Pm) (s : Int) (N : Nat) {n : Nat} (hl : 2 * l.length = n) (hN : l.length ≤ 100 ∧ 26 + 8 * l.length = N) (ht : Tab W) (hr : rs.map RowV.bs = rws b m l s)
    (hs : Sees W W.heap.size (some ⟨g, 0, none⟩) (rs.map RowV.val)) (ho : ∀ r ∈ rs, r.Ok W W.heap.size) : Calls Tryd.prog 40 #[.slice (some ⟨g, 0, none⟩) 3 3] W (FBx W N (put b m l s)) := by
  have h3 : rs.length = 3 := by have := congrArg List.length hr; simpa [rws] using this
  have := sealed_any 3 3 N (some ⟨g, 0, none⟩) rs W h3 (by omega) (fun r hr2 => rws_le b m s l hN.1 r.bs (by rw [← hr]; exact List.mem_map.2 ⟨r, hr2, rfl⟩)) ht (by rw [hr, rws_len]; omega) (by omega) hs ho
  rw [hr] at this
  exact this.mono fun e w' h => FBx.of h
theorem br_new (W : World) {b m s : Int} {l : List Pm} {A2 A10 A12 : Option Addr} {c2 c10 c12 n8 n : Nat} (h2 : Sees W W.heap.size A2 (nums .u8 (lowB 8 s))) (h10 : Sees W W.heap.size A10 (nums .u8 (allB 4 [u b, u m]))) (h12 : Sees W W.heap.size A12 (nums .u8 (allB 4 (pws l)))) (k2 : 8 ≤ c2) (k10 : 8 ≤ c10) (k12 : n8 ≤ c12)
    (hl : 2 * l.length = n) (h8 : l.length ≤ 100 ∧ 4 * n = n8) : BR (.slice (some ⟨W.heap.size, 0, none⟩) 3 3) (W.alloc (.cells #[.slice A2 8 c2, .slice A10 8 c10, .slice A12 n8 c12] 22)) (rws b m l s) := by
  have l1 : (lowB 8 s).length = 8 := lowB_length 8 s
  have l2 : (allB 4 [u b, u m]).length = 8 := by rw [allB_length]; rfl
  have l3 : (allB 4 (pws l)).length = n8 := by rw [allB_length, pws_len, hl, h8.2]
  refine ⟨W.heap.size, [⟨A2, c2, lowB 8 s⟩, ⟨A10, c10, allB 4 [u b, u m]⟩, ⟨A12, c12, allB 4 (pws l)⟩], rfl, rfl, .inr ⟨W.heap.size, 0, rfl, by simp, fun j u hu => ?_⟩, fun r hr => ?_⟩
  · rw [Nat.zero_add]
    refine (Bx.new W _ _).cell ?_
    simp only [List.map_cons, List.map_nil, RowV.val, l1, l2, l3] at hu
    rw [← List.getElem?_toArray] at hu
    exact hu
  · simp only [List.mem_cons, List.not_mem_nil, or_false] at hr
    rcases hr with rfl | rfl | rfl
    · exact ⟨by simp only; omega, sees_next h2 below_box, lowB_mem 8 s⟩
    · exact ⟨by simp only; omega, sees_next h10 below_box, allB_mem 4 _⟩
    · exact ⟨by simp only; omega, sees_next h12 below_box, allB_mem 4 _⟩

def PutF (X : Nat) (b m s : Int) (l : List Pm) (A5 : Option Addr) (n5 c5 n8 N : Nat) : Nat → Value → World → Prop
  | 0, vv, _ => vv = .int .u64 s
  | 1, vv, w' => NR vv w' 1 [s]
  | 2, vv, w' => FBv vv w' 8 (lowB 8 s)
  | 3, vv, _ => vv = .pointer (some ⟨X, 0, none⟩)
  | 4, vv, _ => vv = .int .i64 b
  | 5, vv, _ => vv = .int .u64 (u b)
  | 6, vv, _ => vv = .pointer (some ⟨X, 1, none⟩)
  | 7, vv, _ => vv = .int .i64 m
  | 8, vv, _ => vv = .int .u64 (u m)
  | 9, vv, w' => NR vv w' 2 [u b, u m]
  | 10, vv, w' => FBv vv w' 8 (allB 4 [u b, u m])
  | 11, vv, _ => vv = .slice A5 n5 c5
  | 12, vv, w' => FBv vv w' n8 (allB 4 (pws l))
  | 13, vv, w' => BR vv w' (rws b m l s)
  | 14, vv, w' => FBv vv w' N (put b m l s)
  | 15, vv, w' => FBv vv w' N (put b m l s)
  | _, _, _ => True

theorem j_grew {w W W' : World} {bs : List (Nat × Array Value)} {base : Nat} {o : Option Nat} (h : J w W bs) (hg : W.grownBy W' o) (ho : ∀ g, o = some g → base ≤ g) (hw : w.heap.size ≤ base) (hb : ∀ x ∈ bs, x.1 < base) : J w W' bs :=
  ⟨h.below.grown hg h.below.size (fun g e => Nat.le_trans hw (ho g e)), fun x hx => (h.at_ x hx).kept (hg.block x.1 (h.at_ x hx).lt (fun e => by have := ho _ e.symm; have := hb x hx; omega))⟩
theorem sees_two (w : World) (o : Obj) (x y : Int) : Sees ((w.alloc o).alloc (.cells #[.int .u64 x, .int .u64 y] 59)) (w.heap.size + 2) (some ⟨w.heap.size + 1, 0, none⟩) (nums .u64 [x, y]) := by
  have h := sees_new (w.alloc o) .u64 59 [x, y]
  simp only [World.size_alloc] at h
  exact h
theorem pm_at {W : World} {B : Nat} {A : Option Addr} {l : List Pm} (h : Sees W B A (pms l)) {i : Nat} (hi : i < l.length) : ∃ p b o, l[i]? = some p ∧ A = some ⟨b, o, none⟩ ∧ b < B ∧ W.cell? ⟨b, o + i * 2, none⟩ = some (.int .i64 p.c) ∧ W.cell? ⟨b, o + i * 2 + 1, none⟩ = some (.int .i64 p.p) := by
  obtain ⟨b, o, h1, h2, h3⟩ := pm_cells h i l[i] (List.getElem?_eq_getElem hi)
  exact ⟨l[i], b, o, List.getElem?_eq_getElem hi, h1, h2, h3⟩

set_option maxHeartbeats 6400000 in
theorem jPut_any (x : Lg) (s : Int) (N : Nat) (w : World) (hx : x.In w) (hl : x.l.length ≤ 100) (hN : 26 + 8 * x.l.length = N) (hs : 0 ≤ s ∧ s ≤ 18446744073709551615) (ht : Tab w) :
    Calls Tryd.prog 30 #[x.val, .int .u64 s] w fun e w' => ∃ A c, e = .returned (.slice A N c) ∧ (N ≤ c ∧ c ≤ maxLen) ∧ TS w' 5 A (nums .u8 (put x.b x.m x.l s)) ∧ Below w.heap.size w w' := by
  obtain ⟨hcap, hmax, hsee⟩ := hx
  obtain ⟨b, m, k, A, cap, l⟩ := x
  unfold Lg.val
  simp only at hcap hmax hsee hl hN ⊢
  obtain ⟨i0, hi, hz0, hz1, hz2⟩ := info_parts info_u64
  obtain ⟨n, hn⟩ : ∃ n, l.length = n := ⟨_, rfl⟩
  rw [hn] at hN hl hcap ⊢
  have HN := Lib.hid hn
  have HS := Lib.hid hsee
  have HC := Lib.hid (And.intro hcap hmax)
  have hj := Lib.hid (J.one w #[.int .i64 b, .int .i64 m, .int .i64 k, .slice A n cap] 32)
  obtain ⟨a0, a1, a2, a3⟩ := (hj.out.bx 0 rfl).c4
  have e2 : IntKind.i64.wrap (2 * (n : Int)) = ((2 * n : Nat) : Int) := by rw [IntWalk.i64_in _ (by omega)]; omega
  obtain ⟨n2, hn2⟩ : ∃ n2, 2 * n = n2 := ⟨_, rfl⟩
  rw [hn2] at e2
  have HN2 := Lib.hid hn2
  have hb2 : n2 ≤ 200 := by omega
  clear hn hsee hcap hmax a0 a1 a2 hn2
  go_enter Tryd.func30, Tryd.ntmps30
  go_wp2_with (at_make; go_must (refine wpList_make_own _ rfl _ _ 89 rfl (w.heap.size + 1) 59 i0 (.int .u64 0) 1 Tryd.underlying89 hi hz0 hz1 _ _ _ n2 rfl rfl (by first | exact e2 | simp) (by rw [hz2]; omega) (by unfold maxLen; omega) (by simp) ?_; intro w0 hown0 hgrow0; have hj0 := Lib.hid (hj.out.next ((Below.refl _ _).grown hgrow0 (Nat.le_refl _) (fun k h => by cases h))); obtain ⟨a0, a1, a2, a3⟩ := (hj0.out.bx 0 rfl).c4))
  clear a0 a1 a2 a3 e2 hj hgrow0
  go_loopw [5, 16] (fun r i wr => ∃ q : Nat, q ≤ n ∧ i = .int .i64 q ∧ wr.ownsRow (w.heap.size + 1) 59 1 r (2 * q) (nums .u64 (pws (l.take q))) ∧ Hid (J w wr [(w.heap.size, #[.int .i64 b, .int .i64 m, .int .i64 k, .slice A n cap])])) (fun _ i _ => n - (intOf i).toNat)
  case atStart => exact ⟨0, Nat.zero_le _, rfl, by simpa [pws, nums] using hown0, hj0⟩
  case round =>
    obtain ⟨q, hq, rfl, hown, hj⟩ := hrel
    clear hown0 hj0
    have hwr : w.heap.size + 1 ≤ wr.heap.size := by have := (hj.out.bx 0 rfl).lt; omega
    by_cases hlt : q < n
    · obtain ⟨p, bb, o, hp, rfl, hbb, c0, c1⟩ := pm_at (HS.out.below hj.out.below (Nat.le_refl _)) (i := q) (by rw [HN.out]; exact hlt)
      obtain ⟨a0, a1, a2, a3⟩ := (hj.out.bx 0 rfl).c4
      have HT : Hid (pws (l.take (q + 1)) = pws (l.take q) ++ [u p.c, u p.p]) := Lib.hid (by rw [List.take_add_one, hp]; exact pws_snoc _ _)
      obtain ⟨pc, pp⟩ := p
      simp only at c0 c1 HT
      obtain ⟨uc, huc⟩ : ∃ uc, u pc = uc := ⟨_, rfl⟩
      obtain ⟨up, hup⟩ : ∃ up, u pp = up := ⟨_, rfl⟩
      have e1 : IntKind.u64.wrap pc = uc := by rw [← huc, IntKind.wrap_u64]; rfl
      have e2 : IntKind.u64.wrap pp = up := by rw [← hup, IntKind.wrap_u64]; rfl
      rw [huc, hup] at HT
      have i1 : (q : Int) < (n : Int) := by omega
      have e3 : IntKind.i64.wrap ((q : Int) + 1) = ((q + 1 : Nat) : Int) := by rw [IntWalk.i64_in _ (by omega)]; rfl
      have hq2 : 2 * q + 2 ≤ 200 := by omega
      have HLT := Lib.hid hlt
      have n1 : w.heap.size ≠ wr.heap.size := by omega
      have hjp := Lib.hid (hj.out.alloc (.cells #[.int .i64 pc, .int .i64 pp] 54))
      have hbp := Bx.new wr #[.int .i64 pc, .int .i64 pp] 54
      obtain ⟨p0, p1⟩ := hbp.c2
      clear hp huc hup a0 a1 a2 hlt
      go_wp2_with (at_builtin; go_must (refine wpList_append_sees _ rfl _ _ 89 rfl (w.heap.size + 1) 59 i0 (.int .u64 0) 8 Tryd.underlying89 hi hz0 hz1 hz2 rfl _ (2 * q) _ rfl ((hown.alloc _).alloc _) _ _ 2 2 (nums .u64 [uc, up]) rfl rfl (sees_two _ _ uc up) (nums_one _ _) (by unfold maxLen; omega) (by omega) (by simp; omega) ?_; intro v2 w2 hown2 hg2))
      go_roundw
      case rel => exact ⟨q + 1, by omega, rfl, by rw [HT.out, nums_append]; exact hown2, Lib.hid (j_grew ((hj.out.alloc _).alloc _) hg2.by_ (fun g e => (hown.lt g e).1) (by omega) (fun x hx => by simp at hx; subst hx; simp only; omega))⟩
      case measure => have := HLT.out; simp [intOf]; omega
    · obtain rfl : q = n := by omega
      rw [List.take_of_length_le (by rw [HN.out]; exact Nat.le_refl _), HN2.out] at hown
      obtain ⟨A5, c5, rfl, hc5, hs5, hlt5⟩ := own_form hown
      obtain ⟨n8, h8⟩ : ∃ n8, 4 * n2 = n8 := ⟨_, rfl⟩
      have HM : Hid (2 * l.length = n2 ∧ l.length ≤ 100 ∧ 4 * n2 = n8) := Lib.hid ⟨by rw [HN.out]; exact HN2.out, by rw [HN.out]; exact hl, h8⟩
      have HNN : Hid (l.length ≤ 100 ∧ 26 + 8 * l.length = N) := Lib.hid ⟨by rw [HN.out]; exact hl, by rw [HN.out]; exact hN⟩
      have HB5 := Lib.hid hj.out.below
      have HA : Hid (∀ W, Below wr.heap.size wr W → Tab W ∧ Bx W w.heap.size #[.int .i64 b, .int .i64 m, .int .i64 k, .slice A q cap] ∧ Sees W W.heap.size A5 (nums .u64 (pws l))) := Lib.hid fun W hW => ⟨(ht.next HB5.out).next hW, (hj.out.bx 0 rfl).next hW, sees_next hs5 hW⟩
      have eb : IntKind.u64.wrap b = u b := IntKind.wrap_u64 _
      have em : IntKind.u64.wrap m = u m := IntKind.wrap_u64 _
      clear hown hs5 hlt5 hj hN hl h8 HN HN2 HS HC
      go_wp2
      refine Inv.wp_region_inv (PutF w.heap.size b m s l A5 n2 c5 n8 N) (by kernel_rfl) (by kernel_rfl) (by kernel_rfl) ?_ ?_ ?_
      · intro i v W W' _ h hb
        unfold PutF at h ⊢
        split at h <;> first | exact h | exact NR.next h hb | exact FBv.next h hb | exact BR.next h hb 
      · intro i o x W K ho hB hd hK
        have HX := Lib.hid (HA.out W hB)
        match i, ho with
        | 0, ho =>
          obtain rfl := Option.some.inj ho
          simp only [Inv.fill, Act.put, List.setIfInBounds_toArray, List.set_cons_zero, List.set_cons_succ] at hK ⊢
          clear hd ho
          rw [wpOp]
          refine (if_pos rfl).mpr (.inl ?_)
          go_simp
          exact hK _ _ (Below.refl _ _) rfl
        | 1, ho =>
          obtain rfl := Option.some.inj ho
          have e0 : x 0 = .int .u64 s := hd ⟨0, .data⟩ (by simp) rfl
          simp only [Inv.fill, Act.put, List.setIfInBounds_toArray, List.set_cons_zero, List.set_cons_succ, e0] at hK ⊢
          clear hd ho e0
          rw [wpOp]
          refine (if_pos rfl).mpr (.inl ?_)
          go_simp
          exact hK _ _ below_box ⟨W.heap.size, rfl, sees_new W .u64 59 [s]⟩
        | 2, ho =>
          obtain rfl := Option.some.inj ho
          obtain ⟨g1, e1, hs1⟩ := (hd ⟨1, .data⟩ (by simp) rfl : NR (x 1) W 1 [s])
          simp only [Inv.fill, Act.put, List.setIfInBounds_toArray, List.set_cons_zero, List.set_cons_succ, e1] at hK ⊢
          clear hd ho e1
          rw [wpOp]
          refine (if_pos rfl).mpr (.inl ?_)
          have hc := put8 W g1 s hs hs1
          go_simp
          refine hc.mono ?_
          rintro e w2 ⟨A, c, rfl, h1, h2⟩
          exact hK _ _ h2 ⟨A, c, rfl, h1⟩
        | 3, ho =>
          obtain rfl := Option.some.inj ho
          simp only [Inv.fill, Act.put, List.setIfInBounds_toArray, List.set_cons_zero, List.set_cons_succ] at hK ⊢
          clear hd ho
          rw [wpOp]
          refine (if_pos rfl).mpr (.inl ?_)
          go_simp
          exact hK _ _ (Below.refl _ _) rfl
        | 4, ho =>
          obtain rfl := Option.some.inj ho
          have e3 : x 3 = .pointer (some ⟨w.heap.size, 0, none⟩) := hd ⟨3, .data⟩ (by simp) rfl
          simp only [Inv.fill, Act.put, List.setIfInBounds_toArray, List.set_cons_zero, List.set_cons_succ, e3] at hK ⊢
          clear hd ho e3
          rw [wpOp]
          refine (if_pos rfl).mpr (.inl ?_)
          have k0 := (HX.out.2.1).c4.1
          go_simp
          exact hK _ _ (Below.refl _ _) rfl
        | 5, ho =>
          obtain rfl := Option.some.inj ho
          have e4 : x 4 = .int .i64 b := hd ⟨4, .data⟩ (by simp) rfl
          simp only [Inv.fill, Act.put, List.setIfInBounds_toArray, List.set_cons_zero, List.set_cons_succ, e4] at hK ⊢
          clear hd ho e4
          rw [wpOp]
          refine (if_pos rfl).mpr (.inl ?_)
          go_simp
          exact hK _ _ (Below.refl _ _) rfl
        | 6, ho =>
          obtain rfl := Option.some.inj ho
          simp only [Inv.fill, Act.put, List.setIfInBounds_toArray, List.set_cons_zero, List.set_cons_succ] at hK ⊢
          clear hd ho
          rw [wpOp]
          refine (if_pos rfl).mpr (.inl ?_)
          go_simp
          exact hK _ _ (Below.refl _ _) rfl
        | 7, ho =>
          obtain rfl := Option.some.inj ho
          have e6 : x 6 = .pointer (some ⟨w.heap.size, 1, none⟩) := hd ⟨6, .data⟩ (by simp) rfl
          simp only [Inv.fill, Act.put, List.setIfInBounds_toArray, List.set_cons_zero, List.set_cons_succ, e6] at hK ⊢
          clear hd ho e6
          rw [wpOp]
          refine (if_pos rfl).mpr (.inl ?_)
          have k1 := (HX.out.2.1).c4.2.1
          go_simp
          exact hK _ _ (Below.refl _ _) rfl
        | 8, ho =>
          obtain rfl := Option.some.inj ho
          have e7 : x 7 = .int .i64 m := hd ⟨7, .data⟩ (by simp) rfl
          simp only [Inv.fill, Act.put, List.setIfInBounds_toArray, List.set_cons_zero, List.set_cons_succ, e7] at hK ⊢
          clear hd ho e7
          rw [wpOp]
          refine (if_pos rfl).mpr (.inl ?_)
          go_simp
          exact hK _ _ (Below.refl _ _) rfl
        | 9, ho =>
          obtain rfl := Option.some.inj ho
          have e5 : x 5 = .int .u64 (u b) := hd ⟨5, .data⟩ (by simp) rfl
          have e8 : x 8 = .int .u64 (u m) := hd ⟨8, .data⟩ (by simp) rfl
          simp only [Inv.fill, Act.put, List.setIfInBounds_toArray, List.set_cons_zero, List.set_cons_succ, e5, e8] at hK ⊢
          clear hd ho e5 e8
          rw [wpOp]
          refine (if_pos rfl).mpr (.inl ?_)
          go_simp
          exact hK _ _ below_box ⟨W.heap.size, rfl, sees_new W .u64 59 [u b, u m]⟩
        | 10, ho =>
          obtain rfl := Option.some.inj ho
          obtain ⟨g9, e9, hs9⟩ := (hd ⟨9, .data⟩ (by simp) rfl : NR (x 9) W 2 [u b, u m])
          simp only [Inv.fill, Act.put, List.setIfInBounds_toArray, List.set_cons_zero, List.set_cons_succ, e9] at hK ⊢
          clear hd ho e9
          rw [wpOp]
          refine (if_pos rfl).mpr (.inl ?_)
          have hc := put44 W g9 b m hs9
          go_simp
          refine hc.mono ?_
          rintro e w2 ⟨A, c, rfl, h1, h2⟩
          exact hK _ _ h2 ⟨A, c, rfl, h1⟩
        | 11, ho =>
          obtain rfl := Option.some.inj ho
          simp only [Inv.fill, Act.put, List.setIfInBounds_toArray, List.set_cons_zero, List.set_cons_succ] at hK ⊢
          clear hd ho
          rw [wpOp]
          refine (if_pos rfl).mpr (.inl ?_)
          go_simp
          exact hK _ _ (Below.refl _ _) rfl
        | 12, ho =>
          obtain rfl := Option.some.inj ho
          have e11 : x 11 = .slice A5 n2 c5 := hd ⟨11, .data⟩ (by simp) rfl
          simp only [Inv.fill, Act.put, List.setIfInBounds_toArray, List.set_cons_zero, List.set_cons_succ, e11] at hK ⊢
          clear hd ho e11
          rw [wpOp]
          refine (if_pos rfl).mpr (.inl ?_)
          have hc := put4n W A5 n2 c5 n8 l HM.out.1 HM.out.2 HX.out.2.2
          go_simp
          refine hc.mono ?_
          rintro e w2 ⟨A, c, rfl, h1, h2⟩
          exact hK _ _ h2 ⟨A, c, rfl, h1⟩
        | 13, ho =>
          obtain rfl := Option.some.inj ho
          obtain ⟨A2, c2, e2, hc2, hs2⟩ := (hd ⟨2, .data⟩ (by simp) rfl : FBv (x 2) W 8 (lowB 8 s))
          obtain ⟨A10, c10, e10, hc10, hs10⟩ := (hd ⟨10, .data⟩ (by simp) rfl : FBv (x 10) W 8 (allB 4 [u b, u m]))
          obtain ⟨A12, c12, e12, hc12, hs12⟩ := (hd ⟨12, .data⟩ (by simp) rfl : FBv (x 12) W n8 (allB 4 (pws l)))
          simp only [Inv.fill, Act.put, List.setIfInBounds_toArray, List.set_cons_zero, List.set_cons_succ, e2, e10, e12] at hK ⊢
          clear hd ho e2 e10 e12
          rw [wpOp]
          refine (if_pos rfl).mpr (.inl ?_)
          go_simp
          exact hK _ _ below_box (br_new W hs2.sees hs10.sees hs12.sees hc2.1 hc10.1 hc12.1 HM.out.1 HM.out.2)
        | 14, ho =>
          obtain rfl := Option.some.inj ho
          obtain ⟨g13, rs, e13, hr13, hs13, ho13⟩ := (hd ⟨13, .data⟩ (by simp) rfl : BR (x 13) W (rws b m l s))
          simp only [Inv.fill, Act.put, List.setIfInBounds_toArray, List.set_cons_zero, List.set_cons_succ, e13] at hK ⊢
          clear hd ho e13
          rw [wpOp]
          refine (if_pos rfl).mpr (.inl ?_)
          have hc := sealed3 W g13 rs b m l s N HM.out.1 HNN.out HX.out.1 hr13 hs13 ho13
          go_simp
          refine hc.mono ?_
          rintro e w2 ⟨A, c, rfl, h1, h2⟩
          exact hK _ _ h2 ⟨A, c, rfl, h1⟩
        | 15, ho =>
          obtain rfl := Option.some.inj ho
          obtain ⟨A14, c14, e14, hc14, hs14⟩ := (hd ⟨14, .data⟩ (by simp) rfl : FBv (x 14) W N (put b m l s))
          simp only [Inv.fill, Act.put, List.setIfInBounds_toArray, List.set_cons_zero, List.set_cons_succ, e14] at hK ⊢
          clear hd ho e14
          rw [wpOp]
          refine (if_pos rfl).mpr (.inl ?_)
          go_simp
          exact hK _ _ (Below.refl _ _) ⟨A14, c14, rfl, hc14, hs14⟩
        | n + 16, ho => simp at ho
      · intro x W hB hx
        obtain ⟨A15, c15, e15, hc15, hs15⟩ := (hx 15 (by simp) : FBv (x 15) W N (put b m l s))
        simp only [Inv.fill, Act.put, List.setIfInBounds_toArray, List.set_cons_zero, List.set_cons_succ, e15]
        clear hx e15
        go_wp2
        go_ret
        exact ⟨A15, c15, rfl, hc15, hs15, HB5.out.trans (hB.mono HB5.out.size)⟩

end Go.Proofs.YtjedkkkhficmoaaDoor.Jrn
