/- The contract of Load. -/
import Derived.Test.YtgbgbodhpahceaaDoorJrnG
import Derived.Test.YtgbgbodhpahceaaDoorJrnH
namespace Go.Proofs.YtgbgbodhpahceaaDoor.Jrn
open Go.RowKit Go.Proofs.YtgbgbodhpahceaaDoor.Plain Go.Proofs.YtgbgbodhpahceaaDoor.Sees Go.Proofs.YtgbgbodhpahceaaDoor.Oct Go.Proofs.YtgbgbodhpahceaaDoor.Crc Go.Proofs.YtgbgbodhpahceaaDoor.Box Go.Proofs.YtgbgbodhpahceaaDoor.Held Go.Proofs.YtgbgbodhpahceaaDoor.JrnP Go.Proofs.YtgbgbodhpahceaaDoor.Open Go.Proofs.YtgbgbodhpahceaaDoor.LgrP
set_option linter.unusedVariables false
set_option maxRecDepth 100000

/-- what Load answers -/
def LP (w : World) (g : G) (e : Ending) (w' : World) : Prop :=
  ∃ A c, e = .returned (.tuple #[.agg #[.int .i64 g.b, .int .i64 g.m, .int .i64 0, .slice A g.l.length c], .int .u64 g.s, .bool (decide (0 < g.s))]) ∧ g.l.length ≤ c ∧ c ≤ maxLen ∧ TS w' 69 A (pms g.l) ∧ Below w.heap.size w w'
/-- what is told when so many places were looked at -/
def fold (z0 z1 : List Int) : Nat → G
  | 0 => bad 0
  | 1 => best 0 (bad 0) (JrnP.get z0)
  | _ => JrnP.load z0 z1
theorem gs_in (z : List Int) (h : ∀ b ∈ z, 0 ≤ b ∧ b ≤ 255) : 0 ≤ (JrnP.get z).s ∧ (JrnP.get z).s ≤ 18446744073709551615 := by
  unfold JrnP.get
  split
  · exact ⟨by decide, by decide⟩
  · rename_i pre hp
    split
    · exact ⟨by decide, by decide⟩
    · rename_i rows hr
      have hb := opn_in hp h
      have hrr := (parts_small pre.length pre rows (Nat.le_refl _) hb hr).2
      unfold getR
      split
      · rename_i r0 r1 r2
        split
        · rename_i hc
          split
          · have h1 := ofB_bounds r0 (hrr r0 (by simp)).2
            rw [hc.1] at h1
            simp only
            omega
          · exact ⟨by decide, by decide⟩
        · exact ⟨by decide, by decide⟩
      · exact ⟨by decide, by decide⟩
theorem best_in {p : Int} {x y : G} (hx : 0 ≤ x.s ∧ x.s ≤ 18446744073709551615) (hy : 0 ≤ y.s ∧ y.s ≤ 18446744073709551615) : 0 ≤ (best p x y).s ∧ (best p x y).s ≤ 18446744073709551615 := by
  unfold best
  split
  · exact hy
  · exact hx
theorem best_yes {p : Int} {x y : G} (h1 : y.e = 0) (h2 : y.s % 2 = p) (h3 : x.s < y.s) : best p x y = ⟨0, y.b, y.m, y.l, y.s⟩ := if_pos ⟨h1, h2, h3⟩
theorem best_no {p : Int} {x y : G} (h : y.e ≠ 0 ∨ y.s % 2 ≠ p ∨ ¬ x.s < y.s) : best p x y = x := if_neg fun ⟨h1, h2, h3⟩ => by
  rcases h with h | h | h
  · exact h h1
  · exact h h2
  · exact h h3
theorem fold_in (z0 z1 : List Int) (h0 : ∀ b ∈ z0, 0 ≤ b ∧ b ≤ 255) (h1 : ∀ b ∈ z1, 0 ≤ b ∧ b ≤ 255) (k : Nat) : 0 ≤ (fold z0 z1 k).s ∧ (fold z0 z1 k).s ≤ 18446744073709551615 := by
  have hb : 0 ≤ (bad 0).s ∧ (bad 0).s ≤ 18446744073709551615 := ⟨by decide, by decide⟩
  match k with
  | 0 => exact hb
  | 1 => exact best_in hb (gs_in z0 h0)
  | k + 2 => exact best_in (best_in hb (gs_in z0 h0)) (gs_in z1 h1)

/-- what Get answers, at letters -/
def GQ (w : World) (ge gb gm : Int) (gl : List Pm) (gs : Int) (nl : Nat) (e : Ending) (w' : World) : Prop :=
  ∃ A c, e = .returned (.tuple #[.agg #[.int .i64 gb, .int .i64 gm, .int .i64 0, .slice A nl c], .int .u64 gs, .int .i64 ge]) ∧ nl ≤ c ∧ c ≤ maxLen ∧ TS w' 69 A (pms gl) ∧ Below w.heap.size w w'
theorem GQ.of {w w' : World} {ge gb gm : Int} {gl : List Pm} {gs : Int} {nl : Nat} {e : Ending} (h : GP w ⟨ge, gb, gm, gl, gs⟩ e w') (hn : gl.length = nl) : GQ w ge gb gm gl gs nl e w' := by
  subst hn
  exact h
/-- while Load runs -/
structure LQ (w wr : World) (A : Option Addr) (c : Nat) (b m : Int) (l : List Pm) (n : Nat) (ja : Array Value) : Prop where
  cap : n ≤ c
  max : c ≤ maxLen
  ty : TS wr 69 A (pms l)
  box : BxT wr (w.heap.size + 1 + 1) #[.int .i64 b, .int .i64 m, .int .i64 0, .slice A n c] 24
  res : BxT wr (w.heap.size + 1) #[.int .i64 0, .int .i64 0, .int .i64 0, .slice none 0 0] 24
  j : J w wr [(w.heap.size + 1, #[.int .i64 0, .int .i64 0, .int .i64 0, .slice none 0 0]), (w.heap.size, ja)]
theorem lq_next {w wr w1 : World} {A : Option Addr} {c : Nat} {b m : Int} {l : List Pm} {n : Nat} {ja : Array Value} (h : LQ w wr A c b m l n ja) (h1 : Below wr.heap.size wr w1) (o : Obj) : LQ w (w1.alloc o) A c b m l n ja :=
  ⟨h.cap, h.max, (h.ty.next h1).next below_box, (h.box.next h1).next below_box, (h.res.next h1).next below_box, (h.j.next h1).alloc _⟩
theorem lq_store {w wr : World} {A A' : Option Addr} {c c' : Nat} {b m b' m' : Int} {l l' : List Pm} {n n' : Nat} {ja : Array Value} (h : LQ w wr A c b m l n ja) (h1 : n' ≤ c') (h2 : c' ≤ maxLen) (h3 : TS wr 69 A' (pms l')) :
    LQ w ((((wr.setCell ⟨w.heap.size + 1 + 1, 0, none⟩ (.int .i64 b')).setCell ⟨w.heap.size + 1 + 1, 1, none⟩ (.int .i64 m')).setCell ⟨w.heap.size + 1 + 1, 2, none⟩ (.int .i64 0)).setCell ⟨w.heap.size + 1 + 1, 3, none⟩ (.slice A' n' c')) A' c' b' m' l' n' ja := by
  have hb := h.box
  have hd : (24 : TypeId) ≠ 69 := by decide
  have ho : ∀ j u (W : World), J w W [(w.heap.size + 1, #[.int .i64 0, .int .i64 0, .int .i64 0, .slice none 0 0]), (w.heap.size, ja)] → J w (W.setCell ⟨w.heap.size + 1 + 1, j, none⟩ u) [(w.heap.size + 1, #[.int .i64 0, .int .i64 0, .int .i64 0, .slice none 0 0]), (w.heap.size, ja)] := fun j u W hW => by
    refine ⟨hW.below.setCell (p := ⟨w.heap.size + 1 + 1, j, none⟩) (by simp only; omega) u, fun x hx => (hW.at_ x hx).off u ?_⟩
    simp only [List.mem_cons, List.not_mem_nil, or_false] at hx
    rcases hx with rfl | rfl <;> simp only <;> omega
  have hr : ∀ (W : World), BxT W (w.heap.size + 1) #[.int .i64 0, .int .i64 0, .int .i64 0, .slice none 0 0] 24 → ∀ j u, BxT (W.setCell ⟨w.heap.size + 1 + 1, j, none⟩ u) (w.heap.size + 1) #[.int .i64 0, .int .i64 0, .int .i64 0, .slice none 0 0] 24 := fun W hW j u => (Below.heap_setCell W ⟨w.heap.size + 1 + 1, j, none⟩ u (w.heap.size + 1) (by simp only; omega)).trans hW
  exact ⟨h1, h2, (((h3.set hb hd 0 _).set (hb.set 0 _) hd 1 _).set ((hb.set 0 _).set 1 _) hd 2 _).set (((hb.set 0 _).set 1 _).set 2 _) hd 3 _, set4 hb, hr _ (hr _ (hr _ (hr _ h.res _ _) _ _) _ _) _ _, ho 3 _ _ (ho 2 _ _ (ho 1 _ _ (ho 0 _ _ h.j)))⟩
theorem ne_of_lt' {a b c : Nat} (h : a < b) (k : b ≤ c) : a ≠ c := by omega

set_option maxHeartbeats 12800000 in
theorem jLoad_any (j : Jr) (w : World) (ht : Tab w) (hj : j.In w) : Calls Tryd.prog 18 #[j.val] w (LP w (JrnP.load j.n0.bs j.n1.bs)) := by
  obtain ⟨h0, h1, _, _⟩ := hj
  obtain ⟨⟨A0, c0, z0⟩, ⟨A1, c1, z1⟩, ⟨A2, c2, z2⟩, ⟨A3, c3, z3⟩⟩ := j
  simp only at h0 h1
  unfold Jr.val Jr.arr RowV.val
  simp only
  obtain ⟨n0, hn0⟩ : ∃ n, z0.length = n := ⟨_, rfl⟩
  obtain ⟨n1, hn1⟩ : ∃ n, z1.length = n := ⟨_, rfl⟩
  generalize z2.length = n2
  generalize z3.length = n3
  rw [hn0, hn1]
  have HF := Lib.hid (fold_in z0 z1 h0.byte h1.byte)
  have HG := Lib.hid (And.intro (gs_in z0 h0.byte) (gs_in z1 h1.byte))
  have H0 : Hid (∀ W, Below w.heap.size w W → Calls Tryd.prog 11 #[.slice A0 n0 c0] W (GP W (JrnP.get z0))) := Lib.hid fun W hW => jGet_any z0 A0 n0 c0 W hn0 (by have := h0.few; simp only at this; omega) (by have := h0.cap; simp only at this; omega) (ht.next hW) (sees_next h0.ty.sees hW) h0.byte
  have H1 : Hid (∀ W, Below w.heap.size w W → Calls Tryd.prog 11 #[.slice A1 n1 c1] W (GP W (JrnP.get z1))) := Lib.hid fun W hW => jGet_any z1 A1 n1 c1 W hn1 (by have := h1.few; simp only at this; omega) (by have := h1.cap; simp only at this; omega) (ht.next hW) (sees_next h1.ty.sees hW) h1.byte
  have HFD : Hid (fold z0 z1 1 = best 0 (fold z0 z1 0) (JrnP.get z0) ∧ fold z0 z1 2 = best 1 (fold z0 z1 1) (JrnP.get z1) ∧ fold z0 z1 2 = JrnP.load z0 z1 ∧ fold z0 z1 0 = bad 0) := Lib.hid ⟨rfl, rfl, rfl, rfl⟩
  clear h0 h1 hn0 hn1
  generalize JrnP.get z0 = g0 at *
  generalize JrnP.get z1 = g1 at *
  generalize JrnP.load z0 z1 = gL at *
  generalize hfo : fold z0 z1 = fo at *
  clear hfo
  have hjb := Lib.hid ((J.one w #[.slice A0 n0 c0, .slice A1 n1 c1, .slice A2 n2 c2, .slice A3 n3 c3] 45).push #[.int .i64 0, .int .i64 0, .int .i64 0, .slice none 0 0] 24 |>.push #[.int .i64 0, .int .i64 0, .int .i64 0, .slice none 0 0] 24)
  have hT := Lib.hid (BxT.new ((w.alloc (.cells #[.slice A0 n0 c0, .slice A1 n1 c1, .slice A2 n2 c2, .slice A3 n3 c3] 45)).alloc (.cells #[.int .i64 0, .int .i64 0, .int .i64 0, .slice none 0 0] 24)) #[.int .i64 0, .int .i64 0, .int .i64 0, .slice none 0 0] 24)
  have hT1 := Lib.hid ((BxT.new (w.alloc (.cells #[.slice A0 n0 c0, .slice A1 n1 c1, .slice A2 n2 c2, .slice A3 n3 c3] 45)) #[.int .i64 0, .int .i64 0, .int .i64 0, .slice none 0 0] 24).next (below_box (o := .cells #[.int .i64 0, .int .i64 0, .int .i64 0, .slice none 0 0] 24)))
  simp only [World.size_alloc] at hjb hT hT1
  obtain ⟨a0, a1, a2, a3⟩ := (hjb.out.bx 2 rfl).c4
  have x0 := idx0 A0 A1 n0 n1 c0 c1
  have x1 := idx1 A0 A1 n0 n1 c0 c1
  go_enter Tryd.func18, Tryd.ntmps18
  go_wp2
  go_loopw [6, 14] (fun most i wr => ∃ (k : Nat) (A : Option Addr) (c : Nat), k ≤ 2 ∧ i = .int .i64 k ∧ most = .int .u64 (fo k).s ∧ Hid (LQ w wr A c (fo k).b (fo k).m (fo k).l (fo k).l.length #[.slice A0 n0 c0, .slice A1 n1 c1, .slice A2 n2 c2, .slice A3 n3 c3])) (fun _ i _ => 2 - (intOf i).toNat)
  case atStart =>
    refine ⟨0, none, 0, by omega, rfl, by rw [HFD.out.2.2.2]; rfl, Lib.hid ?_⟩
    rw [HFD.out.2.2.2]
    exact ⟨Nat.le_refl _, Nat.zero_le _, .inl rfl, hT.out, hT1.out, hjb.out.less (by simp)⟩
  case round =>
    obtain ⟨k, A, c, hk, rfl, rfl, hQ⟩ := hrel
    clear hjb hT hT1 a0 a1 a2 a3
    have ks : k = 0 ∨ k = 1 ∨ k = 2 := by omega
    rcases ks with rfl | rfl | rfl
    ·
      have hf := HFD.out.1
      obtain ⟨ge, gb, gm, gl, gs⟩ := g0
      have hgs := HG.out.1
      simp only at hgs hf
      generalize hfk : fo 0 = fk at *
      have hfs := HF.out 0
      rw [hfk] at hfs
      obtain ⟨fe, fb, fm, fl, fs⟩ := fk
      simp only at hfs hQ
      have HFN := Lib.hid hf
      obtain ⟨nl, hnl⟩ : ∃ nl, gl.length = nl := ⟨_, rfl⟩
      obtain ⟨nf, hnf⟩ : ∃ nf, fl.length = nf := ⟨_, rfl⟩
      have HGk : Hid (∀ W, Below w.heap.size w W → Calls Tryd.prog 11 #[.slice A0 n0 c0] W (GQ W ge gb gm gl gs nl)) := Lib.hid fun W hW => (H0.out W hW).mono fun e w' h => GQ.of h hnl
      rw [hnf] at hQ
      have HNL := Lib.hid (And.intro hnl hnf)
      have ways : ge ≠ 0 ∨ (ge = 0 ∧ gs % 2 ≠ 0) ∨ (ge = 0 ∧ gs % 2 = 0 ∧ ¬ fs < gs) ∨ (ge = 0 ∧ gs % 2 = 0 ∧ fs < gs) := by omega
      clear hf hfk hnl hnf H0 H1
      rcases ways with hw | ⟨rfl, hw⟩ | ⟨rfl, hw, hw2⟩ | ⟨rfl, hw, hw2⟩
      ·
        have d1 : decide (ge = 0) = false := decide_eq_false hw
        have d2 : (ge == 0) = false := beq_eq_false_iff_ne.2 hw
        have e : fo 1 = ⟨fe, fb, fm, fl, fs⟩ := HFN.out.trans (best_no (.inl hw))
        have HE := Lib.hid e
        clear e hw
        go_wp2_with (go_at_call 11; go_must ((with_reducible refine (HGk.out _ hQ.out.j.below).mono ?_); clear HGk; rintro e w1 ⟨A4, c4, rfl, hc4, hm4, hs4, h1⟩; have hQ1 := Lib.hid (lq_next hQ.out h1 (.cells #[.int .i64 gb, .int .i64 gm, .int .i64 0, .slice A4 nl c4] 24)); have hs5 := Lib.hid (hs4.next (below_box (o := .cells #[.int .i64 gb, .int .i64 gm, .int .i64 0, .slice A4 nl c4] 24))); obtain ⟨z0, z1, z2, z3⟩ := hQ1.out.box.bx.c4; obtain ⟨f0, f1, f2, f3⟩ := hQ1.out.box.bx.f4; have n1 : w.heap.size + 1 + 1 ≠ w1.heap.size := ne_of_lt' hQ.out.box.bx.lt h1.size; have n2 : w1.heap.size ≠ w.heap.size + 1 + 1 := fun e => n1 e.symm; obtain ⟨b0, b1, b2, b3⟩ := (Bx.new w1 #[.int .i64 gb, .int .i64 gm, .int .i64 0, .slice A4 nl c4] 24).c4; clear h1 hs4))
        go_roundw
        case rel =>
          have e := HE.out
          exact ⟨1, A, c, by omega, rfl, by rw [e], Lib.hid (by rw [e]; simp only [HNL.out.2]; exact hQ1.out)⟩
        case measure => simp [intOf]
      ·
        have d1 : decide (gs % 2 = 0) = false := decide_eq_false hw
        have d2 : (gs % 2 == 0) = false := beq_eq_false_iff_ne.2 hw
        have e : fo 1 = ⟨fe, fb, fm, fl, fs⟩ := HFN.out.trans (best_no (.inr (.inl hw)))
        have HE := Lib.hid e
        clear e hw
        go_wp2_with (go_at_call 11; go_must ((with_reducible refine (HGk.out _ hQ.out.j.below).mono ?_); clear HGk; rintro e w1 ⟨A4, c4, rfl, hc4, hm4, hs4, h1⟩; have hQ1 := Lib.hid (lq_next hQ.out h1 (.cells #[.int .i64 gb, .int .i64 gm, .int .i64 0, .slice A4 nl c4] 24)); have hs5 := Lib.hid (hs4.next (below_box (o := .cells #[.int .i64 gb, .int .i64 gm, .int .i64 0, .slice A4 nl c4] 24))); obtain ⟨z0, z1, z2, z3⟩ := hQ1.out.box.bx.c4; obtain ⟨f0, f1, f2, f3⟩ := hQ1.out.box.bx.f4; have n1 : w.heap.size + 1 + 1 ≠ w1.heap.size := ne_of_lt' hQ.out.box.bx.lt h1.size; have n2 : w1.heap.size ≠ w.heap.size + 1 + 1 := fun e => n1 e.symm; obtain ⟨b0, b1, b2, b3⟩ := (Bx.new w1 #[.int .i64 gb, .int .i64 gm, .int .i64 0, .slice A4 nl c4] 24).c4; clear h1 hs4))
        go_roundw
        case rel =>
          have e := HE.out
          exact ⟨1, A, c, by omega, rfl, by rw [e], Lib.hid (by rw [e]; simp only [HNL.out.2]; exact hQ1.out)⟩
        case measure => simp [intOf]
      ·
        have d1 : decide (gs % 2 = 0) = true := decide_eq_true hw
        have d2 : (gs % 2 == 0) = true := beq_iff_eq.2 hw
        have d3 : decide (fs < gs) = false := decide_eq_false hw2
        have e : fo 1 = ⟨fe, fb, fm, fl, fs⟩ := HFN.out.trans (best_no (.inr (.inr hw2)))
        have HE := Lib.hid e
        clear e
        go_wp2_with (go_at_call 11; go_must ((with_reducible refine (HGk.out _ hQ.out.j.below).mono ?_); clear HGk; rintro e w1 ⟨A4, c4, rfl, hc4, hm4, hs4, h1⟩; have hQ1 := Lib.hid (lq_next hQ.out h1 (.cells #[.int .i64 gb, .int .i64 gm, .int .i64 0, .slice A4 nl c4] 24)); have hs5 := Lib.hid (hs4.next (below_box (o := .cells #[.int .i64 gb, .int .i64 gm, .int .i64 0, .slice A4 nl c4] 24))); obtain ⟨z0, z1, z2, z3⟩ := hQ1.out.box.bx.c4; obtain ⟨f0, f1, f2, f3⟩ := hQ1.out.box.bx.f4; have n1 : w.heap.size + 1 + 1 ≠ w1.heap.size := ne_of_lt' hQ.out.box.bx.lt h1.size; have n2 : w1.heap.size ≠ w.heap.size + 1 + 1 := fun e => n1 e.symm; obtain ⟨b0, b1, b2, b3⟩ := (Bx.new w1 #[.int .i64 gb, .int .i64 gm, .int .i64 0, .slice A4 nl c4] 24).c4; clear h1 hs4))
        go_roundw
        case rel =>
          have e := HE.out
          exact ⟨1, A, c, by omega, rfl, by rw [e], Lib.hid (by rw [e]; simp only [HNL.out.2]; exact hQ1.out)⟩
        case measure => simp [intOf]
      ·
        have d1 : decide (gs % 2 = 0) = true := decide_eq_true hw
        have d2 : (gs % 2 == 0) = true := beq_iff_eq.2 hw
        have d3 : decide (fs < gs) = true := decide_eq_true hw2
        have e : fo 1 = ⟨0, gb, gm, gl, gs⟩ := HFN.out.trans (best_yes rfl hw hw2)
        have HE := Lib.hid e
        clear e
        go_wp2_with (go_at_call 11; go_must ((with_reducible refine (HGk.out _ hQ.out.j.below).mono ?_); clear HGk; rintro e w1 ⟨A4, c4, rfl, hc4, hm4, hs4, h1⟩; have hQ1 := Lib.hid (lq_next hQ.out h1 (.cells #[.int .i64 gb, .int .i64 gm, .int .i64 0, .slice A4 nl c4] 24)); have hs5 := Lib.hid (hs4.next (below_box (o := .cells #[.int .i64 gb, .int .i64 gm, .int .i64 0, .slice A4 nl c4] 24))); obtain ⟨z0, z1, z2, z3⟩ := hQ1.out.box.bx.c4; obtain ⟨f0, f1, f2, f3⟩ := hQ1.out.box.bx.f4; have n1 : w.heap.size + 1 + 1 ≠ w1.heap.size := ne_of_lt' hQ.out.box.bx.lt h1.size; have n2 : w1.heap.size ≠ w.heap.size + 1 + 1 := fun e => n1 e.symm; obtain ⟨b0, b1, b2, b3⟩ := (Bx.new w1 #[.int .i64 gb, .int .i64 gm, .int .i64 0, .slice A4 nl c4] 24).c4; clear h1 hs4))
        go_roundw
        case rel =>
          have e := HE.out
          exact ⟨1, A4, c4, by omega, rfl, by rw [e], Lib.hid (by rw [e]; simp only [HNL.out.1]; exact lq_store hQ1.out hc4 hm4 hs5.out)⟩
        case measure => simp [intOf]
    ·
      have hf := HFD.out.2.1
      obtain ⟨ge, gb, gm, gl, gs⟩ := g1
      have hgs := HG.out.2
      simp only at hgs hf
      generalize hfk : fo 1 = fk at *
      have hfs := HF.out 1
      rw [hfk] at hfs
      obtain ⟨fe, fb, fm, fl, fs⟩ := fk
      simp only at hfs hQ
      have HFN := Lib.hid hf
      obtain ⟨nl, hnl⟩ : ∃ nl, gl.length = nl := ⟨_, rfl⟩
      obtain ⟨nf, hnf⟩ : ∃ nf, fl.length = nf := ⟨_, rfl⟩
      have HGk : Hid (∀ W, Below w.heap.size w W → Calls Tryd.prog 11 #[.slice A1 n1 c1] W (GQ W ge gb gm gl gs nl)) := Lib.hid fun W hW => (H1.out W hW).mono fun e w' h => GQ.of h hnl
      rw [hnf] at hQ
      have HNL := Lib.hid (And.intro hnl hnf)
      have ways : ge ≠ 0 ∨ (ge = 0 ∧ gs % 2 ≠ 1) ∨ (ge = 0 ∧ gs % 2 = 1 ∧ ¬ fs < gs) ∨ (ge = 0 ∧ gs % 2 = 1 ∧ fs < gs) := by omega
      clear hf hfk hnl hnf H0 H1
      rcases ways with hw | ⟨rfl, hw⟩ | ⟨rfl, hw, hw2⟩ | ⟨rfl, hw, hw2⟩
      ·
        have d1 : decide (ge = 0) = false := decide_eq_false hw
        have d2 : (ge == 0) = false := beq_eq_false_iff_ne.2 hw
        have e : fo 2 = ⟨fe, fb, fm, fl, fs⟩ := HFN.out.trans (best_no (.inl hw))
        have HE := Lib.hid e
        clear e hw
        go_wp2_with (go_at_call 11; go_must ((with_reducible refine (HGk.out _ hQ.out.j.below).mono ?_); clear HGk; rintro e w1 ⟨A4, c4, rfl, hc4, hm4, hs4, h1⟩; have hQ1 := Lib.hid (lq_next hQ.out h1 (.cells #[.int .i64 gb, .int .i64 gm, .int .i64 0, .slice A4 nl c4] 24)); have hs5 := Lib.hid (hs4.next (below_box (o := .cells #[.int .i64 gb, .int .i64 gm, .int .i64 0, .slice A4 nl c4] 24))); obtain ⟨z0, z1, z2, z3⟩ := hQ1.out.box.bx.c4; obtain ⟨f0, f1, f2, f3⟩ := hQ1.out.box.bx.f4; have n1 : w.heap.size + 1 + 1 ≠ w1.heap.size := ne_of_lt' hQ.out.box.bx.lt h1.size; have n2 : w1.heap.size ≠ w.heap.size + 1 + 1 := fun e => n1 e.symm; obtain ⟨b0, b1, b2, b3⟩ := (Bx.new w1 #[.int .i64 gb, .int .i64 gm, .int .i64 0, .slice A4 nl c4] 24).c4; clear h1 hs4))
        go_roundw
        case rel =>
          have e := HE.out
          exact ⟨2, A, c, by omega, rfl, by rw [e], Lib.hid (by rw [e]; simp only [HNL.out.2]; exact hQ1.out)⟩
        case measure => simp [intOf]
      ·
        have d1 : decide (gs % 2 = 1) = false := decide_eq_false hw
        have d2 : (gs % 2 == 1) = false := beq_eq_false_iff_ne.2 hw
        have e : fo 2 = ⟨fe, fb, fm, fl, fs⟩ := HFN.out.trans (best_no (.inr (.inl hw)))
        have HE := Lib.hid e
        clear e hw
        go_wp2_with (go_at_call 11; go_must ((with_reducible refine (HGk.out _ hQ.out.j.below).mono ?_); clear HGk; rintro e w1 ⟨A4, c4, rfl, hc4, hm4, hs4, h1⟩; have hQ1 := Lib.hid (lq_next hQ.out h1 (.cells #[.int .i64 gb, .int .i64 gm, .int .i64 0, .slice A4 nl c4] 24)); have hs5 := Lib.hid (hs4.next (below_box (o := .cells #[.int .i64 gb, .int .i64 gm, .int .i64 0, .slice A4 nl c4] 24))); obtain ⟨z0, z1, z2, z3⟩ := hQ1.out.box.bx.c4; obtain ⟨f0, f1, f2, f3⟩ := hQ1.out.box.bx.f4; have n1 : w.heap.size + 1 + 1 ≠ w1.heap.size := ne_of_lt' hQ.out.box.bx.lt h1.size; have n2 : w1.heap.size ≠ w.heap.size + 1 + 1 := fun e => n1 e.symm; obtain ⟨b0, b1, b2, b3⟩ := (Bx.new w1 #[.int .i64 gb, .int .i64 gm, .int .i64 0, .slice A4 nl c4] 24).c4; clear h1 hs4))
        go_roundw
        case rel =>
          have e := HE.out
          exact ⟨2, A, c, by omega, rfl, by rw [e], Lib.hid (by rw [e]; simp only [HNL.out.2]; exact hQ1.out)⟩
        case measure => simp [intOf]
      ·
        have d1 : decide (gs % 2 = 1) = true := decide_eq_true hw
        have d2 : (gs % 2 == 1) = true := beq_iff_eq.2 hw
        have d3 : decide (fs < gs) = false := decide_eq_false hw2
        have e : fo 2 = ⟨fe, fb, fm, fl, fs⟩ := HFN.out.trans (best_no (.inr (.inr hw2)))
        have HE := Lib.hid e
        clear e
        go_wp2_with (go_at_call 11; go_must ((with_reducible refine (HGk.out _ hQ.out.j.below).mono ?_); clear HGk; rintro e w1 ⟨A4, c4, rfl, hc4, hm4, hs4, h1⟩; have hQ1 := Lib.hid (lq_next hQ.out h1 (.cells #[.int .i64 gb, .int .i64 gm, .int .i64 0, .slice A4 nl c4] 24)); have hs5 := Lib.hid (hs4.next (below_box (o := .cells #[.int .i64 gb, .int .i64 gm, .int .i64 0, .slice A4 nl c4] 24))); obtain ⟨z0, z1, z2, z3⟩ := hQ1.out.box.bx.c4; obtain ⟨f0, f1, f2, f3⟩ := hQ1.out.box.bx.f4; have n1 : w.heap.size + 1 + 1 ≠ w1.heap.size := ne_of_lt' hQ.out.box.bx.lt h1.size; have n2 : w1.heap.size ≠ w.heap.size + 1 + 1 := fun e => n1 e.symm; obtain ⟨b0, b1, b2, b3⟩ := (Bx.new w1 #[.int .i64 gb, .int .i64 gm, .int .i64 0, .slice A4 nl c4] 24).c4; clear h1 hs4))
        go_roundw
        case rel =>
          have e := HE.out
          exact ⟨2, A, c, by omega, rfl, by rw [e], Lib.hid (by rw [e]; simp only [HNL.out.2]; exact hQ1.out)⟩
        case measure => simp [intOf]
      ·
        have d1 : decide (gs % 2 = 1) = true := decide_eq_true hw
        have d2 : (gs % 2 == 1) = true := beq_iff_eq.2 hw
        have d3 : decide (fs < gs) = true := decide_eq_true hw2
        have e : fo 2 = ⟨0, gb, gm, gl, gs⟩ := HFN.out.trans (best_yes rfl hw hw2)
        have HE := Lib.hid e
        clear e
        go_wp2_with (go_at_call 11; go_must ((with_reducible refine (HGk.out _ hQ.out.j.below).mono ?_); clear HGk; rintro e w1 ⟨A4, c4, rfl, hc4, hm4, hs4, h1⟩; have hQ1 := Lib.hid (lq_next hQ.out h1 (.cells #[.int .i64 gb, .int .i64 gm, .int .i64 0, .slice A4 nl c4] 24)); have hs5 := Lib.hid (hs4.next (below_box (o := .cells #[.int .i64 gb, .int .i64 gm, .int .i64 0, .slice A4 nl c4] 24))); obtain ⟨z0, z1, z2, z3⟩ := hQ1.out.box.bx.c4; obtain ⟨f0, f1, f2, f3⟩ := hQ1.out.box.bx.f4; have n1 : w.heap.size + 1 + 1 ≠ w1.heap.size := ne_of_lt' hQ.out.box.bx.lt h1.size; have n2 : w1.heap.size ≠ w.heap.size + 1 + 1 := fun e => n1 e.symm; obtain ⟨b0, b1, b2, b3⟩ := (Bx.new w1 #[.int .i64 gb, .int .i64 gm, .int .i64 0, .slice A4 nl c4] 24).c4; clear h1 hs4))
        go_roundw
        case rel =>
          have e := HE.out
          exact ⟨2, A4, c4, by omega, rfl, by rw [e], Lib.hid (by rw [e]; simp only [HNL.out.1]; exact lq_store hQ1.out hc4 hm4 hs5.out)⟩
        case measure => simp [intOf]
    · have hgL := HFD.out.2.2.1
      have hfs := HF.out 2
      rw [hgL] at hfs hQ
      rw [hgL]
      clear H0 H1
      obtain ⟨fe, fb, fm, fl, fs⟩ := gL
      simp only at hQ hfs
      obtain ⟨nf, hnf⟩ : ∃ nf, fl.length = nf := ⟨_, rfl⟩
      rw [hnf] at hQ
      have HNF := Lib.hid hnf
      clear hnf
      obtain ⟨z0, z1, z2, z3⟩ := hQ.out.box.bx.c4
      obtain ⟨f0, f1, f2, f3⟩ := (hQ.out.j.bx 0 rfl).f4
      obtain ⟨y0, y1, y2, y3⟩ := (hQ.out.j.bx 0 rfl).c4
      go_wp2
      have hne : ∀ x ∈ ([] : List (Nat × Array Value)), x.1 ≠ w.heap.size + 1 := fun x hx => by cases hx
      have hje := ((((hQ.out.j.less (bs' := [(w.heap.size + 1, #[.int .i64 0, .int .i64 0, .int .i64 0, .slice none 0 0])]) (by simp)).put (by omega) hne 0 (.int .i64 fb)).put (by omega) hne 1 (.int .i64 fm)).put (by omega) hne 2 (.int .i64 0)).put (by omega) hne 3 (.slice A nf c)
      obtain ⟨k0, k1, k2, k3⟩ := (hje.bx 0 rfl).c4
      have hbt := hQ.out.res
      have hd : (24 : TypeId) ≠ 69 := by decide
      have hTe := (((hQ.out.ty.set hbt hd 0 (.int .i64 fb)).set (hbt.set 0 (.int .i64 fb)) hd 1 (.int .i64 fm)).set ((hbt.set 0 (.int .i64 fb)).set 1 (.int .i64 fm)) hd 2 (.int .i64 0)).set (((hbt.set 0 (.int .i64 fb)).set 1 (.int .i64 fm)).set 2 (.int .i64 0)) hd 3 (.slice A nf c)
      refine bodyPost_ret (v := .tuple #[.agg #[.int .i64 fb, .int .i64 fm, .int .i64 0, .slice A nf c], .int .u64 fs, .bool (decide (0 < fs))]) (by simp [results, Tryd.results18, go_sem, k0, k1, k2, k3]) rfl ⟨A, c, by simp only [HNF.out], by simp only [HNF.out]; exact hQ.out.cap, hQ.out.max, hTe, hje.below⟩

end Go.Proofs.YtgbgbodhpahceaaDoor.Jrn
