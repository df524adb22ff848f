/- The contract of Write. -/
import Derived.Test.YtgbgbodhpahceaaDoorJrnF
import Derived.Test.YtgbgbodhpahceaaDoorJrnI
namespace Go.Proofs.YtgbgbodhpahceaaDoor.Jrn
open Go.RowKit Go.Proofs.YtgbgbodhpahceaaDoor.Plain Go.Proofs.YtgbgbodhpahceaaDoor.Sees Go.Proofs.YtgbgbodhpahceaaDoor.Oct Go.Proofs.YtgbgbodhpahceaaDoor.Crc Go.Proofs.YtgbgbodhpahceaaDoor.Box Go.Proofs.YtgbgbodhpahceaaDoor.Held Go.Proofs.YtgbgbodhpahceaaDoor.JrnP Go.Proofs.YtgbgbodhpahceaaDoor.Open Go.Proofs.YtgbgbodhpahceaaDoor.LgrP
set_option linter.unusedVariables false
set_option maxRecDepth 100000

/-- the number of the next write, and both places behind it -/
def nxt (z0 z1 : List Int) : Int := u ((JrnP.load z0 z1).s + 1)
def wr0 (z0 z1 : List Int) (b m : Int) (l : List Pm) : List Int := if nxt z0 z1 % 2 = 0 then put b m l (nxt z0 z1) else z0
def wr1 (z0 z1 : List Int) (b m : Int) (l : List Pm) : List Int := if nxt z0 z1 % 2 = 0 then z1 else put b m l (nxt z0 z1)
theorem put_row (x : Lg) (s : Int) (w : World) (hx : x.In w) (hl : x.l.length ≤ 100) (hs : 0 ≤ s ∧ s ≤ 18446744073709551615) (ht : Tab w) :
    Calls Tryd.prog 13 #[x.val, .int .u64 s] w fun e w' => ∃ q : RowV, e = .returned q.val ∧ (RT w' q ∧ q.bs = put x.b x.m x.l s) ∧ Below w.heap.size w w' := by
  refine (jPut_any x s _ w hx hl rfl hs ht).mono ?_
  rintro e w' ⟨A, c, rfl, h1, h2, h3⟩
  have hl2 := put_len x.b x.m x.l s
  exact ⟨⟨A, c, put x.b x.m x.l s⟩, by rw [RowV.val]; simp only [hl2], ⟨⟨by simp only; omega, h1.2, h2, put_in _ _ _ _, by simp only; omega⟩, rfl⟩, h3⟩
/-- a place, put -/
def PV (v : Value) (W : World) (bs : List Int) : Prop := ∃ q : RowV, v = q.val ∧ RT W q ∧ q.bs = bs
theorem PV.next {v : Value} {W W' : World} {bs : List Int} (h : PV v W bs) (hb : Below W.heap.size W W') : PV v W' bs := by
  obtain ⟨q, h1, h2, h3⟩ := h
  exact ⟨q, h1, h2.next hb, h3⟩
/-- while Write runs -/
structure WQ (w wr : World) (ja la : Array Value) : Prop where
  box : BxT wr w.heap.size ja 45
  lbx : BxT wr (w.heap.size + 1) la 24
  res : BxT wr (w.heap.size + 1 + 1) #[.slice none 0 0, .slice none 0 0, .slice none 0 0, .slice none 0 0] 45
  bel : Below w.heap.size w wr
theorem WQ.next {w wr wr' : World} {ja la : Array Value} (h : WQ w wr ja la) (hb : Below wr.heap.size wr wr') : WQ w wr' ja la := ⟨h.box.next hb, h.lbx.next hb, h.res.next hb, h.bel.trans (hb.mono h.bel.size)⟩
theorem WQ.set {w wr : World} {ja ja' la : Array Value} (h : WQ w wr ja la) (i : Nat) (u : Value) (ha : ja.setIfInBounds i u = ja') : WQ w (wr.setCell ⟨w.heap.size, i, none⟩ u) ja' la :=
  ⟨by rw [← ha]; exact h.box.set i u, (Below.heap_setCell wr ⟨w.heap.size, i, none⟩ u (w.heap.size + 1) (by simp only; omega)).trans h.lbx, (Below.heap_setCell wr ⟨w.heap.size, i, none⟩ u (w.heap.size + 1 + 1) (by simp only; omega)).trans h.res, h.bel.setCell (p := ⟨w.heap.size, i, none⟩) (Nat.le_refl _) u⟩

set_option maxHeartbeats 12800000 in
theorem jWrite_any (j : Jr) (x : Lg) (w : World) (ht : Tab w) (hj : j.In w) (hx : x.In w) (hl : x.l.length ≤ 100) : Calls Tryd.prog 23 #[j.val, x.val] w (JP w (wr0 j.n0.bs j.n1.bs x.b x.m x.l) (wr1 j.n0.bs j.n1.bs x.b x.m x.l) j.n0.bs j.n1.bs) := by
  obtain ⟨s', hs'⟩ : ∃ s', nxt j.n0.bs j.n1.bs = s' := ⟨_, rfl⟩
  have hsb : 0 ≤ s' ∧ s' ≤ 18446744073709551615 := by rw [← hs']; exact u_in _
  have HL : Hid (∀ W, Below w.heap.size w W → Calls Tryd.prog 18 #[j.val] W (LP W (JrnP.load j.n0.bs j.n1.bs))) := Lib.hid fun W hW => jLoad_any j W (ht.next hW) (hj.next hW)
  have HP : Hid (∀ W, Below w.heap.size w W → Calls Tryd.prog 13 #[x.val, .int .u64 s'] W fun e w' => ∃ q : RowV, e = .returned q.val ∧ (RT w' q ∧ q.bs = put x.b x.m x.l s') ∧ Below W.heap.size W w') := Lib.hid fun W hW => put_row x s' W (hx.next hW) hl hsb (ht.next hW)
  have HJ := Lib.hid hj
  have HW : Hid ((s' % 2 = 0 → wr0 j.n0.bs j.n1.bs x.b x.m x.l = put x.b x.m x.l s' ∧ wr1 j.n0.bs j.n1.bs x.b x.m x.l = j.n1.bs) ∧ (s' % 2 = 1 → wr0 j.n0.bs j.n1.bs x.b x.m x.l = j.n0.bs ∧ wr1 j.n0.bs j.n1.bs x.b x.m x.l = put x.b x.m x.l s')) := Lib.hid ⟨fun h => by unfold wr0 wr1; rw [hs', if_pos h, if_pos h]; exact ⟨rfl, rfl⟩, fun h => by unfold wr0 wr1; rw [hs', if_neg (by omega), if_neg (by omega)]; exact ⟨rfl, rfl⟩⟩
  unfold nxt at hs'
  generalize wr0 j.n0.bs j.n1.bs x.b x.m x.l = o0 at *
  generalize wr1 j.n0.bs j.n1.bs x.b x.m x.l = o1 at *
  generalize put x.b x.m x.l s' = pb at *
  obtain ⟨⟨A0, c0, z0⟩, ⟨A1, c1, z1⟩, ⟨A2, c2, z2⟩, ⟨A3, c3, z3⟩⟩ := j
  unfold Jr.val Jr.arr RowV.val at HL ⊢
  simp only at HL HW hs' ⊢
  generalize JrnP.load z0 z1 = g at *
  obtain ⟨fe, fb, fm, fl, fs⟩ := g
  simp only at hs'
  have e1 : IntKind.u64.wrap (fs + 1) = s' := by rw [IntKind.wrap_u64]; exact hs'
  obtain ⟨b, m, k, A, cap, l⟩ := x
  unfold Lg.val at HP ⊢
  simp only at hl HP ⊢
  obtain ⟨nf, hnf⟩ : ∃ nf, fl.length = nf := ⟨_, rfl⟩
  obtain ⟨n, hn⟩ : ∃ n, l.length = n := ⟨_, rfl⟩
  rw [hn] at HP ⊢
  have HLP : Hid (∀ W, Below w.heap.size w W → Calls Tryd.prog 18 #[.agg #[.slice A0 z0.length c0, .slice A1 z1.length c1, .slice A2 z2.length c2, .slice A3 z3.length c3]] W fun e w' => ∃ A' c', e = .returned (.tuple #[.agg #[.int .i64 fb, .int .i64 fm, .int .i64 0, .slice A' nf c'], .int .u64 fs, .bool (decide (0 < fs))]) ∧ Below W.heap.size W w') := Lib.hid fun W hW => (HL.out W hW).mono fun e w' ⟨A', c', h1, _, _, _, h5⟩ => ⟨A', c', by rw [h1]; simp only [hnf], h5⟩
  clear HL hs' hl hn hnf hx hj ht
  have hQ : Hid (WQ w (((w.alloc (.cells #[.slice A0 z0.length c0, .slice A1 z1.length c1, .slice A2 z2.length c2, .slice A3 z3.length c3] 45)).alloc (.cells #[.int .i64 b, .int .i64 m, .int .i64 k, .slice A n cap] 24)).alloc (.cells #[.slice none 0 0, .slice none 0 0, .slice none 0 0, .slice none 0 0] 45)) #[.slice A0 z0.length c0, .slice A1 z1.length c1, .slice A2 z2.length c2, .slice A3 z3.length c3] #[.int .i64 b, .int .i64 m, .int .i64 k, .slice A n cap]) := Lib.hid
    ⟨((BxT.new w _ _).next below_box).next below_box, by have := (BxT.new (w.alloc (.cells #[.slice A0 z0.length c0, .slice A1 z1.length c1, .slice A2 z2.length c2, .slice A3 z3.length c3] 45)) #[.int .i64 b, .int .i64 m, .int .i64 k, .slice A n cap] 24).next (below_box (o := .cells #[.slice none 0 0, .slice none 0 0, .slice none 0 0, .slice none 0 0] 45)); rwa [World.size_alloc] at this, by have := BxT.new ((w.alloc (.cells #[.slice A0 z0.length c0, .slice A1 z1.length c1, .slice A2 z2.length c2, .slice A3 z3.length c3] 45)).alloc (.cells #[.int .i64 b, .int .i64 m, .int .i64 k, .slice A n cap] 24)) #[.slice none 0 0, .slice none 0 0, .slice none 0 0, .slice none 0 0] 45; rwa [World.size_alloc, World.size_alloc] at this, below_more below_two below_box (by simp)⟩
  obtain ⟨a0, a1, a2, a3⟩ := hQ.out.box.bx.c4
  have ways : s' % 2 = 0 ∨ s' % 2 = 1 := by omega
  rcases ways with hp | hp
  · have HR := Lib.hid (HW.out.1 hp)
    clear HW
    go_enter Tryd.func23, Tryd.ntmps23
    go_wp2_with (first
      | (go_at_call 18; go_must ((with_reducible refine (HLP.out _ hQ.out.bel).mono ?_); clear HLP; rintro e w1 ⟨A4, c4, rfl, h1⟩; have hQ1 := Lib.hid ((hQ.out.next h1).next (below_box (o := .cells #[.int .i64 fb, .int .i64 fm, .int .i64 0, .slice A4 nf c4] 24))); obtain ⟨k0, k1, k2, k3⟩ := hQ1.out.box.bx.c4; obtain ⟨f0, f1, f2, f3⟩ := hQ1.out.box.bx.f4; obtain ⟨l0, l1, l2, l3⟩ := hQ1.out.lbx.bx.c4; clear h1 a0 a1 a2 a3))
      | (go_at_call 13; go_must (have hQ2 := Lib.hid ((hQ1.out.set 2 (.slice A0 z0.length c0) rfl).set 3 (.slice A1 z1.length c1) rfl); clear k0 k1 k2 k3 f0 f1 f2 f3 l0 l1 l2 l3 hQ1; (with_reducible refine (HP.out _ hQ2.out.bel).mono ?_); clear HP; rintro e w2 ⟨⟨A5, c5, z5⟩, rfl, ⟨hr5, he5⟩, h2⟩; have hQ3 := Lib.hid (hQ2.out.next h2); have HR5 := Lib.hid hr5; have HE5 := Lib.hid he5; obtain ⟨k0, k1, k2, k3⟩ := hQ3.out.box.bx.c4; obtain ⟨f0, f1, f2, f3⟩ := hQ3.out.box.bx.f4; obtain ⟨l0, l1, l2, l3⟩ := hQ3.out.res.bx.c4; obtain ⟨m0, m1, m2, m3⟩ := hQ3.out.res.bx.f4; clear hr5 he5 h2 hQ2; simp only [RowV.val])))
    have hQ4 := hQ3.out.set 0 (.slice A5 z5.length c5) rfl
    have hin : Jr.In (w2.setCell ⟨w.heap.size, 0, none⟩ (.slice A5 z5.length c5)) ⟨⟨A5, c5, z5⟩, ⟨A1, c1, z1⟩, ⟨A0, c0, z0⟩, ⟨A1, c1, z1⟩⟩ := Jr.In.set (r := ⟨⟨A5, c5, z5⟩, ⟨A1, c1, z1⟩, ⟨A0, c0, z0⟩, ⟨A1, c1, z1⟩⟩) ⟨HR5.out, HJ.out.n1.next hQ3.out.bel, HJ.out.n0.next hQ3.out.bel, HJ.out.n1.next hQ3.out.bel⟩ hQ3.out.box (by decide) 0 _
    have hR := set4 (x := (.slice A5 z5.length c5)) (y := (.slice A1 z1.length c1)) (z := (.slice A0 z0.length c0)) (u := (.slice A1 z1.length c1)) hQ4.res
    have hin2 := in4 hin hQ4.res (by decide) (.slice A5 z5.length c5) (.slice A1 z1.length c1) (.slice A0 z0.length c0) (.slice A1 z1.length c1)
    obtain ⟨q0, q1, q2, q3⟩ := hR.bx.c4
    refine bodyPost_ret (v := .agg #[.slice A5 z5.length c5, .slice A1 z1.length c1, .slice A0 z0.length c0, .slice A1 z1.length c1]) (by simp [results, Tryd.results23, go_sem, q0, q1, q2, q3]) rfl ⟨_, rfl, hin2, ⟨HE5.out.trans HR.out.1.symm, HR.out.2.symm, rfl, rfl⟩, below4 hQ4.bel (by omega) _ _ _ _⟩
  · have HR := Lib.hid (HW.out.2 hp)
    clear HW
    go_enter Tryd.func23, Tryd.ntmps23
    go_wp2_with (first
      | (go_at_call 18; go_must ((with_reducible refine (HLP.out _ hQ.out.bel).mono ?_); clear HLP; rintro e w1 ⟨A4, c4, rfl, h1⟩; have hQ1 := Lib.hid ((hQ.out.next h1).next (below_box (o := .cells #[.int .i64 fb, .int .i64 fm, .int .i64 0, .slice A4 nf c4] 24))); obtain ⟨k0, k1, k2, k3⟩ := hQ1.out.box.bx.c4; obtain ⟨f0, f1, f2, f3⟩ := hQ1.out.box.bx.f4; obtain ⟨l0, l1, l2, l3⟩ := hQ1.out.lbx.bx.c4; clear h1 a0 a1 a2 a3))
      | (go_at_call 13; go_must (have hQ2 := Lib.hid ((hQ1.out.set 2 (.slice A0 z0.length c0) rfl).set 3 (.slice A1 z1.length c1) rfl); clear k0 k1 k2 k3 f0 f1 f2 f3 l0 l1 l2 l3 hQ1; (with_reducible refine (HP.out _ hQ2.out.bel).mono ?_); clear HP; rintro e w2 ⟨⟨A5, c5, z5⟩, rfl, ⟨hr5, he5⟩, h2⟩; have hQ3 := Lib.hid (hQ2.out.next h2); have HR5 := Lib.hid hr5; have HE5 := Lib.hid he5; obtain ⟨k0, k1, k2, k3⟩ := hQ3.out.box.bx.c4; obtain ⟨f0, f1, f2, f3⟩ := hQ3.out.box.bx.f4; obtain ⟨l0, l1, l2, l3⟩ := hQ3.out.res.bx.c4; obtain ⟨m0, m1, m2, m3⟩ := hQ3.out.res.bx.f4; clear hr5 he5 h2 hQ2; simp only [RowV.val])))
    have hQ4 := hQ3.out.set 1 (.slice A5 z5.length c5) rfl
    have hin : Jr.In (w2.setCell ⟨w.heap.size, 1, none⟩ (.slice A5 z5.length c5)) ⟨⟨A0, c0, z0⟩, ⟨A5, c5, z5⟩, ⟨A0, c0, z0⟩, ⟨A1, c1, z1⟩⟩ := Jr.In.set (r := ⟨⟨A0, c0, z0⟩, ⟨A5, c5, z5⟩, ⟨A0, c0, z0⟩, ⟨A1, c1, z1⟩⟩) ⟨HJ.out.n0.next hQ3.out.bel, HR5.out, HJ.out.n0.next hQ3.out.bel, HJ.out.n1.next hQ3.out.bel⟩ hQ3.out.box (by decide) 1 _
    have hR := set4 (x := (.slice A0 z0.length c0)) (y := (.slice A5 z5.length c5)) (z := (.slice A0 z0.length c0)) (u := (.slice A1 z1.length c1)) hQ4.res
    have hin2 := in4 hin hQ4.res (by decide) (.slice A0 z0.length c0) (.slice A5 z5.length c5) (.slice A0 z0.length c0) (.slice A1 z1.length c1)
    obtain ⟨q0, q1, q2, q3⟩ := hR.bx.c4
    refine bodyPost_ret (v := .agg #[.slice A0 z0.length c0, .slice A5 z5.length c5, .slice A0 z0.length c0, .slice A1 z1.length c1]) (by simp [results, Tryd.results23, go_sem, q0, q1, q2, q3]) rfl ⟨_, rfl, hin2, ⟨HR.out.1.symm, HE5.out.trans HR.out.2.symm, rfl, rfl⟩, below4 hQ4.bel (by omega) _ _ _ _⟩

end Go.Proofs.YtgbgbodhpahceaaDoor.Jrn
