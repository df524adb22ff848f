import Derived.Test.YtjedkkkhficmoaaDoorMndP
import Derived.Test.YtjedkkkhficmoaaDoorLgrA0
import Derived.Test.YtjedkkkhficmoaaDoorSeesN
import Derived.Test.YtjedkkkhficmoaaDoorJrnX0
import Derived.Test.YtjedkkkhficmoaaDoorLgrG
import Derived.Maps.OwnOps
import Derived.Maps.OwnSet
import Derived.Test.YtjedkkkhficmoaaDoorSlotY
import Derived.LoopN
import Derived.Lib.SliceRun
import Derived.Deep.DeepMust

/- The contracts of mend's small functions, and of ledger's Has. -/
namespace Go.Proofs.YtjedkkkhficmoaaDoor.Mnd
open Go.RowKit Go.Proofs.YtjedkkkhficmoaaDoor.LgrP Go.Proofs.YtjedkkkhficmoaaDoor.MndP Go.Proofs.YtjedkkkhficmoaaDoor.Open Go.Proofs.YtjedkkkhficmoaaDoor.Sees Go.Proofs.YtjedkkkhficmoaaDoor.Box Go.Proofs.YtjedkkkhficmoaaDoor.Held
set_option linter.unusedVariables false
set_option maxRecDepth 100000

theorem power_any (n : Int) (w : World) : Calls Tryd.prog 21 #[.int .i64 n] w (Says w (.int .i64 (cut n))) := by
  have m1 : ∀ W, (Builtin.min_ #[3, 3] 3 #[.int .i64 n, .int .i64 1048576]).run Tryd.prog W = .ok (.int .i64 (min n 1048576)) W := fun W => by
    rw [run_min_int2]; congr 2; split <;> omega
  have m2 : ∀ W, (Builtin.max_ #[3, 3] 3 #[.int .i64 0, .int .i64 (min n 1048576)]).run Tryd.prog W = .ok (.int .i64 (cut n)) W := fun W => by
    rw [run_max_int2]; unfold cut; congr 2; split <;> omega
  generalize min n 1048576 = q at *
  generalize cut n = z at *
  go_enter Tryd.func21, Tryd.ntmps21
  go_wp2
  go_ret
  exact ⟨rfl, Below.refl _ _⟩

set_option maxHeartbeats 1600000 in
theorem has_any (b m k : Int) (A : Option Addr) (n cap : Nat) (l : List Pm) (car : Int) (w : World) (hl : l.length = n) (hn : n ≤ maxLen) (hs : Sees w w.heap.size A (pms l)) :
    Calls Tryd.prog 18 #[.agg #[.int .i64 b, .int .i64 m, .int .i64 k, .slice A n cap], .int .i64 car] w (Says w (.tuple #[.agg #[.int .i64 (had l car).c, .int .i64 (had l car).p], .bool (decide (0 ≤ idx l car))])) := by
  have HPl : Hid (∀ W, Below w.heap.size w W → Calls Tryd.prog 29 #[.slice A n cap, .int .i64 car] W (Says W (.int .i64 (idx l car)))) := Lib.hid fun W hW => Lgr.place_any l A n cap car W hl hn ((hs.below hW (Nat.le_refl _)).more hW.size)
  have hj := Lib.hid (J.two w #[.int .i64 b, .int .i64 m, .int .i64 k, .slice A n cap] #[.int .i64 0, .int .i64 0] 32 54)
  obtain ⟨a0, a1, a2, a3⟩ := (hj.out.bx 1 rfl).c4
  by_cases h0 : idx l car < 0
  · have hh : had l car = ⟨0, 0⟩ := if_pos h0
    have hd : decide (0 ≤ idx l car) = false := decide_eq_false (by omega)
    rw [hh, hd]
    clear hh hd hs hl
    generalize idx l car = ix at *
    go_enter Tryd.func18, Tryd.ntmps18
    go_wp2_with (go_at_call 29; (with_reducible refine (HPl.out _ below_two).mono ?_); clear HPl a0 a1 a2 a3; rintro e w5 ⟨rfl, h5⟩; have hj5 := Lib.hid (hj.out.next h5); obtain ⟨p0, p1⟩ := (hj5.out.bx 0 rfl).c2; obtain ⟨f0, f1⟩ := (hj5.out.bx 0 rfl).f2)
    have hje := ((hj5.out.less (bs' := [(w.heap.size + 1, #[.int .i64 0, .int .i64 0])]) (by simp)).put (by omega) (fun x hx => by cases hx) 0 (.int .i64 0)).put (by omega) (fun x hx => by cases hx) 1 (.int .i64 0)
    obtain ⟨k0, k1⟩ := (hje.bx 0 rfl).c2
    refine bodyPost_ret (v := .tuple #[.agg #[.int .i64 0, .int .i64 0], .bool false]) (by simp [results, Tryd.results18, go_sem, k0, k1]) rfl ⟨rfl, hje.below⟩
  · have hd : decide (0 ≤ idx l car) = true := decide_eq_true (by omega)
    obtain ⟨i, hi⟩ : ∃ i : Nat, idx l car = i := ⟨(idx l car).toNat, by omega⟩
    obtain ⟨p, hp⟩ : ∃ p, l[i]? = some p := by
      unfold idx at hi
      split at hi
      · rename_i j hj'
        have : j = i := by omega
        subst this
        obtain ⟨h1, _⟩ := List.findIdx?_eq_some_iff_getElem.1 hj'
        exact ⟨_, List.getElem?_eq_getElem h1⟩
      · omega
    have hh : had l car = p := by
      unfold had
      rw [hi, if_neg (by omega)]
      simp [hp]
    have hil : i < n := by rw [← hl]; exact (List.getElem?_eq_some_iff.1 hp).1
    obtain ⟨bb, o, rfl, hbb, c0, c1⟩ := pm_cells hs i p hp
    rw [hh, hd]
    rw [hi] at HPl
    obtain ⟨pc, pp⟩ := p
    simp only at c0 c1
    have i1 : (i : Int) < (n : Int) := by omega
    have HC : Hid (∀ W, Below w.heap.size w W → W.cell? ⟨bb, o + i * 2, none⟩ = some (.int .i64 pc) ∧ W.cell? ⟨bb, o + i * 2 + 1, none⟩ = some (.int .i64 pp)) := Lib.hid fun W hW => ⟨(hW.cell (p := ⟨bb, o + i * 2, none⟩) hbb).trans c0, (hW.cell (p := ⟨bb, o + i * 2 + 1, none⟩) hbb).trans c1⟩
    clear hh hd hs hl hi hp h0 c0 c1
    go_enter Tryd.func18, Tryd.ntmps18
    go_wp2_with (go_at_call 29; (with_reducible refine (HPl.out _ below_two).mono ?_); clear HPl a0 a1 a2 a3; rintro e w5 ⟨rfl, h5⟩; have hj5 := Lib.hid (hj.out.next h5); obtain ⟨a0, a1, a2, a3⟩ := (hj5.out.bx 1 rfl).c4; obtain ⟨p0, p1⟩ := (hj5.out.bx 0 rfl).c2; obtain ⟨f0, f1⟩ := (hj5.out.bx 0 rfl).f2; obtain ⟨c0, c1⟩ := HC.out _ hj5.out.below)
    have hje := ((hj5.out.less (bs' := [(w.heap.size + 1, #[.int .i64 0, .int .i64 0])]) (by simp)).put (by omega) (fun x hx => by cases hx) 0 (.int .i64 pc)).put (by omega) (fun x hx => by cases hx) 1 (.int .i64 pp)
    obtain ⟨k0, k1⟩ := (hje.bx 0 rfl).c2
    refine bodyPost_ret (v := .tuple #[.agg #[.int .i64 pc, .int .i64 pp], .bool true]) (by simp [results, Tryd.results18, go_sem, k0, k1]) rfl ⟨rfl, hje.below⟩

/-- what a car may draw, as the closure tells it -/
theorem drawing1_any (b m k : Int) (A : Option Addr) (n cap : Nat) (l : List Pm) (v : Mv) (X : Nat) (w : World) (hl : l.length = n) (hn : n ≤ maxLen) (hs : Sees w w.heap.size A (pms l)) (hX : Bx w X #[.int .i64 b, .int .i64 m, .int .i64 k, .slice A n cap]) :
    Calls Tryd.prog 34 #[.agg #[.int .i64 v.c, .int .i64 v.p], .pointer (some ⟨X, 0, none⟩)] w (Says w (.int .i64 (dr l v))) := by
  have HH : Hid (∀ W, Below w.heap.size w W → Calls Tryd.prog 18 #[.agg #[.int .i64 b, .int .i64 m, .int .i64 k, .slice A n cap], .int .i64 v.c] W (Says W (.tuple #[.agg #[.int .i64 (had l v.c).c, .int .i64 (had l v.c).p], .bool (decide (0 ≤ idx l v.c))]))) := Lib.hid fun W hW => has_any b m k A n cap l v.c W hl hn ((hs.below hW (Nat.le_refl _)).more hW.size)
  have HP : Hid (∀ W, Calls Tryd.prog 21 #[.int .i64 (max v.p (had l v.c).p)] W (Says W (.int .i64 (dr l v)))) := Lib.hid fun W => power_any _ W
  obtain ⟨vc, vp⟩ := v
  simp only at HH HP ⊢
  have m1 : ∀ W, (Builtin.max_ #[3, 3] 3 #[.int .i64 vp, .int .i64 (had l vc).p]).run Tryd.prog W = .ok (.int .i64 (max vp (had l vc).p)) W := fun W => by
    rw [run_max_int2]; congr 2; split <;> omega
  have hj := Lib.hid (J.one w #[.int .i64 vc, .int .i64 vp] 28)
  obtain ⟨a0, a1⟩ := (hj.out.bx 0 rfl).c2
  obtain ⟨x0, x1, x2, x3⟩ := (hX.alloc (.cells #[.int .i64 vc, .int .i64 vp] 28)).c4
  generalize dr l ⟨vc, vp⟩ = z at *
  generalize (had l vc).p = hp at *
  generalize (had l vc).c = hc at *
  generalize decide (0 ≤ idx l vc) = y at *
  generalize max vp hp = q at *
  clear hl hn hs hX
  go_enter Tryd.func34, Tryd.ntmps34
  go_wp2_with (first
    | (go_at_call 18; (with_reducible refine (HH.out _ below_box).mono ?_); clear HH a0 a1 x0 x1 x2 x3; rintro e w5 ⟨rfl, h5⟩; have hj5 := Lib.hid ((hj.out.next h5).push #[.int .i64 hc, .int .i64 hp] 54); obtain ⟨a0, a1⟩ := (hj5.out.bx 1 rfl).c2; obtain ⟨p0, p1⟩ := (hj5.out.bx 0 rfl).c2)
    | (go_at_call 21; (with_reducible refine (HP.out _).mono ?_); clear HP; rintro e w6 ⟨rfl, h6⟩))
  go_ret
  exact ⟨rfl, (hj5.out.next h6).below⟩

theorem drawing_any (b m k : Int) (A : Option Addr) (n cap : Nat) (w : World) :
    Calls Tryd.prog 20 #[.agg #[.int .i64 b, .int .i64 m, .int .i64 k, .slice A n cap]] w fun e w' => e = .returned (.func (.func 34) #[] #[.pointer (some ⟨w.heap.size, 0, none⟩)]) ∧ w' = w.alloc (.cells #[.int .i64 b, .int .i64 m, .int .i64 k, .slice A n cap] 32) := by
  have hmf : ∀ (fn : Fn) (first cap : Array Value) (w : World), (Instr.makeFunc fn first cap).run Tryd.prog w = .ok (.func fn first cap) w := fun _ _ _ _ => rfl
  go_enter Tryd.func20, Tryd.ntmps20
  go_wp2
  go_ret
  exact ⟨rfl, rfl⟩

end Go.Proofs.YtjedkkkhficmoaaDoor.Mnd

/- While Again runs: the books, the stops, who was named. -/
namespace Go.Proofs.YtjedkkkhficmoaaDoor.Mnd
open Go.RowKit Go.Maps Go.Proofs.YtjedkkkhficmoaaDoor.LgrP Go.Proofs.YtjedkkkhficmoaaDoor.MndP Go.Proofs.YtjedkkkhficmoaaDoor.Open Go.Proofs.YtjedkkkhficmoaaDoor.Sees Go.Proofs.YtjedkkkhficmoaaDoor.Box Go.Proofs.YtjedkkkhficmoaaDoor.Held Go.Proofs.YtjedkkkhficmoaaDoor.Jrn
set_option linter.unusedVariables false
set_option maxRecDepth 100000

theorem lawInt : Keyed Tryd.prog 3 := int_keyed Tryd.underlying3
theorem zeroInt (w : World) : (zeroValue 3).run Tryd.prog w = .ok (.int .i64 0) w := by kernel_rfl
/-- the map tells how often each number stands in a row -/
def Tells (D : DataW Unit) (l : List Int) : Prop := IsMap D ∧ ∀ y : Int, D.atKey (.int .i64 y) (.lit (.int .i64 0)) = .lit (.int .i64 (l.count y : Nat))
theorem Tells.start : Tells (.map []) [] := ⟨isMap_empty, fun y => rfl⟩
theorem Tells.put {D : DataW Unit} {l : List Int} (h : Tells D l) (x : Int) {c : Int} (hc : c = ((l.count x + 1 : Nat) : Int)) : Tells (D.put (.int .i64 x) (.lit (.int .i64 c))) (l ++ [x]) := by
  subst hc
  refine ⟨h.1.put _ _, fun y => ?_⟩
  by_cases e : y = x
  · subst e
    rw [atKey_put_same h.1 (by trivial)]
    simp [List.count_append]
  · rw [atKey_put_other (by intro h; injection h with _ h; exact e h), h.2 y]
    have : List.count y [x] = 0 := List.count_eq_zero_of_not_mem (by rw [List.mem_singleton]; exact e)
    simp [List.count_append, this]
theorem map_below {w w' : World} {b n : Nat} {D : DataW Unit} (h : w.ownsMap Tryd.prog 3 (plainElem Tryd.prog 3) b n D) (hb : Below w.heap.size w w') : w'.ownsMap Tryd.prog 3 (plainElem Tryd.prog 3) b n D := by
  have hl := h.lt
  obtain ⟨es, clock, h1, r⟩ := h
  exact ⟨es, clock, (hb.block b hl).trans h1, r⟩
theorem ts_map {w w' : World} {t : TypeId} {A : Option Addr} {xs : List Value} {b n : Nat} {D : DataW Unit} (h : TS w t A xs) (hm : w.ownsMap Tryd.prog 3 (plainElem Tryd.prog 3) b n D) (hg : w.grownBy w' (some b)) : TS w' t A xs := by
  rcases h with h | ⟨g, o, cur, hA, hh, hc⟩
  · exact .inl h
  · refine .inr ⟨g, o, cur, hA, (hg.block g (Array.getElem?_eq_some_iff.1 hh).1 (fun e => ?_)).trans hh, hc⟩
    injection e with e
    subst e
    obtain ⟨es, clock, h1, _⟩ := hm
    rw [hh] at h1
    cases h1
theorem own_next' {W W' : World} {base : Nat} {e : TypeId} {size : Nat} {v : Value} {n : Nat} {xs : List Value} (h : W.ownsRow base e size v n xs) (hb : Below W.heap.size W W') : W'.ownsRow base e size v n xs := own_below h hb fun k hk => (h.lt k hk).2

/-- over w3: the books' block is the next one, the map's the one behind it -/
structure MI (w3 wr : World) (b mg : Int) (A : Option Addr) (c n : Nat) (l : List Pm) (s : List Int) (q : Nat) (v : Value) (D : DataW Unit) (nn : List Int) (nl : Nat) : Prop where
  be : Below w3.heap.size w3 wr
  len : l.length = n
  cap : n ≤ c
  max : c ≤ maxLen
  bx : BxT wr w3.heap.size #[.int .i64 b, .int .i64 mg, .int .i64 0, .slice A n c] 32
  ts : TS wr 54 A (pms l)
  slen : s.length = q
  own : wr.ownsRow (w3.heap.size + 2) 3 1 v q (nums .i64 s)
  nlen : nn.length = nl
  mp : wr.ownsMap Tryd.prog 3 (plainElem Tryd.prog 3) (w3.heap.size + 1) nl D
  tl : Tells D nn
section
variable {w3 wr w' : World} {b mg : Int} {A A' : Option Addr} {c c' n n' : Nat} {l l' : List Pm} {s : List Int} {q : Nat} {v v' : Value} {D D' : DataW Unit} {nn nn' : List Int} {nl : Nat}
theorem MI.next (h : MI w3 wr b mg A c n l s q v D nn nl) (hb : Below wr.heap.size wr w') : MI w3 w' b mg A c n l s q v D nn nl :=
  ⟨h.be.trans (hb.mono h.be.size), h.len, h.cap, h.max, h.bx.next hb, h.ts.next hb, h.slen, own_next' h.own hb, h.nlen, map_below h.mp hb, h.tl⟩
theorem MI.upd (h : MI w3 wr b mg A c n l s q v D nn nl) (hm : w'.ownsMap Tryd.prog 3 (plainElem Tryd.prog 3) (w3.heap.size + 1) (nl + 1) D') (hg : wr.grownBy w' (some (w3.heap.size + 1))) {x : Int} (ht : Tells D' (nn ++ [x])) : MI w3 w' b mg A c n l s q v D' (nn ++ [x]) (nl + 1) :=
  ⟨h.be.grown hg h.be.size (fun r e => by cases e; omega), h.len, h.cap, h.max, (hg.block _ h.bx.bx.lt (fun e => by injection e with e; omega)).trans h.bx, ts_map h.ts h.mp hg, h.slen,
    h.own.kept hg (by
      cases hv : v.ownBlock with
      | none => exact .inl rfl
      | some g => exact .inr fun e => by injection e with e; have := (h.own.lt g hv).1; omega), by simp [h.nlen], hm, ht⟩
theorem MI.app (h : MI w3 wr b mg A c n l s q v D nn nl) {x : Int} (ho : w'.ownsRow (w3.heap.size + 2) 3 1 v' (q + 1) (nums .i64 (s ++ [x]))) (hg : wr.grownBy w' v.ownBlock) : MI w3 w' b mg A c n l (s ++ [x]) (q + 1) v' D nn nl :=
  ⟨h.be.grown hg h.be.size (fun r e => by have := (h.own.lt r e).1; omega), h.len, h.cap, h.max, grown_cells h.bx hg (fun g e => by have := (h.own.lt g e).1; omega), ts_own_grown h.ts h.own (by decide) hg, by simp [h.slen], ho, h.nlen,
    h.mp.kept hg (fun e => by have := (h.own.lt _ e.symm).1; omega), h.tl⟩
theorem MI.set1 (h : MI w3 wr b mg A c n l s q v D nn nl) (m : Int) : MI w3 (wr.setCell ⟨w3.heap.size, 1, none⟩ (.int .i64 m)) b m A c n l s q v D nn nl :=
  ⟨h.be.setCell (p := ⟨w3.heap.size, 1, none⟩) (Nat.le_refl _) _, h.len, h.cap, h.max, h.bx.set 1 _, h.ts.set h.bx (by decide) 1 _, h.slen, ownsRow_setCell_other h.own (a := ⟨w3.heap.size, 1, none⟩) (fun e => by have := (h.own.lt _ e).1; simp only at this; omega) _, h.nlen,
    h.mp.setCell (a := ⟨w3.heap.size, 1, none⟩) (by simp only; omega) _, h.tl⟩
theorem MI.put (h : MI w3 wr b mg A c n l s q v D nn nl) (h1 : l'.length = n') (h2 : n' ≤ c') (h3 : c' ≤ maxLen) (h4 : TS wr 54 A' (pms l')) (b' m' : Int) :
    MI w3 ((((wr.setCell ⟨w3.heap.size, 0, none⟩ (.int .i64 b')).setCell ⟨w3.heap.size, 1, none⟩ (.int .i64 m')).setCell ⟨w3.heap.size, 2, none⟩ (.int .i64 0)).setCell ⟨w3.heap.size, 3, none⟩ (.slice A' n' c')) b' m' A' c' n' l' s q v D nn nl := by
  have ho : ∀ (W : World) j u, W.ownsRow (w3.heap.size + 2) 3 1 v q (nums .i64 s) → (W.setCell ⟨w3.heap.size, j, none⟩ u).ownsRow (w3.heap.size + 2) 3 1 v q (nums .i64 s) := fun W j u hW =>
    ownsRow_setCell_other hW (a := ⟨w3.heap.size, j, none⟩) (fun e => by have := (hW.lt _ e).1; simp only at this; omega) _
  have hm : ∀ (W : World) j u, W.ownsMap Tryd.prog 3 (plainElem Tryd.prog 3) (w3.heap.size + 1) nl D → (W.setCell ⟨w3.heap.size, j, none⟩ u).ownsMap Tryd.prog 3 (plainElem Tryd.prog 3) (w3.heap.size + 1) nl D := fun W j u hW =>
    hW.setCell (a := ⟨w3.heap.size, j, none⟩) (by simp only; omega) _
  have hd : (32 : TypeId) ≠ 54 := by decide
  have hb := h.bx
  exact ⟨below4 h.be (Nat.le_refl _) _ _ _ _, h1, h2, h3, set4 hb, (((h4.set hb hd 0 _).set (hb.set 0 _) hd 1 _).set ((hb.set 0 _).set 1 _) hd 2 _).set (((hb.set 0 _).set 1 _).set 2 _) hd 3 _, h.slen,
    ho _ _ _ (ho _ _ _ (ho _ _ _ (ho _ _ _ h.own))), h.nlen, hm _ _ _ (hm _ _ _ (hm _ _ _ (hm _ _ _ h.mp))), h.tl⟩
end

end Go.Proofs.YtjedkkkhficmoaaDoor.Mnd

/- The contract of Again. -/
namespace Go.Proofs.YtjedkkkhficmoaaDoor.Mnd
open Go.RowKit Go.Maps Go.Proofs.YtjedkkkhficmoaaDoor.SatP Go.Proofs.YtjedkkkhficmoaaDoor.LgrP Go.Proofs.YtjedkkkhficmoaaDoor.MndP Go.Proofs.YtjedkkkhficmoaaDoor.Open Go.Proofs.YtjedkkkhficmoaaDoor.Sees Go.Proofs.YtjedkkkhficmoaaDoor.Box Go.Proofs.YtjedkkkhficmoaaDoor.Held Go.Proofs.YtjedkkkhficmoaaDoor.Jrn Go.Proofs.YtjedkkkhficmoaaDoor.Crc
set_option linter.unusedVariables false
set_option linter.unusedSimpArgs false
set_option maxRecDepth 100000

/-- what Grant tells, as it is carried through the region -/
def GTv (cb E : Int) (N : Nat) (L : List Pm) (vv : Value) (W : World) : Prop := ∃ A4 c4, vv = .tuple #[.agg #[.int .i64 cb, .int .i64 0, .int .i64 0, .slice A4 N c4], .int .i64 E] ∧ N ≤ c4 ∧ c4 ≤ maxLen ∧ (E = 0 → TS W 54 A4 (pms L))
def GAv (cb E : Int) (N : Nat) (L : List Pm) (vv : Value) (W : World) : Prop := ∃ A4 c4, vv = .agg #[.int .i64 cb, .int .i64 0, .int .i64 0, .slice A4 N c4] ∧ N ≤ c4 ∧ c4 ≤ maxLen ∧ (E = 0 → TS W 54 A4 (pms L))
def ZBv (y0 : Nat) (vv : Value) (W : World) : Prop := ∃ B5, vv = .pointer (some ⟨B5, 0, none⟩) ∧ BxT W B5 #[.int .i64 0, .int .i64 0, .int .i64 0, .slice none 0 0] 32 ∧ y0 ≤ B5
theorem GTv.next {cb E : Int} {N : Nat} {L : List Pm} {vv : Value} {W W' : World} (h : GTv cb E N L vv W) (hb : Below W.heap.size W W') : GTv cb E N L vv W' := by
  obtain ⟨A4, c4, h1, h2, h3, h4⟩ := h
  exact ⟨A4, c4, h1, h2, h3, fun e => (h4 e).next hb⟩
theorem GAv.next {cb E : Int} {N : Nat} {L : List Pm} {vv : Value} {W W' : World} (h : GAv cb E N L vv W) (hb : Below W.heap.size W W') : GAv cb E N L vv W' := by
  obtain ⟨A4, c4, h1, h2, h3, h4⟩ := h
  exact ⟨A4, c4, h1, h2, h3, fun e => (h4 e).next hb⟩
theorem ZBv.next {y0 : Nat} {vv : Value} {W W' : World} (h : ZBv y0 vv W) (hb : Below W.heap.size W W') : ZBv y0 vv W' := by
  obtain ⟨B5, h1, h2, h3⟩ := h
  exact ⟨B5, h1, h2.next hb, h3⟩
def AgR (x3 xm b2 n c1 N y0 : Nat) (cb mc mp d E : Int) (A1 : Option Addr) (L : List Pm) : Nat → Value → World → Prop := Slot.row [
fun vv _ => vv = .agg #[.int .i64 cb, .int .i64 0, .int .i64 0, .slice A1 n c1],
  fun vv _ => vv = .pointer (some ⟨xm, 0, none⟩),
  fun vv _ => vv = .int .i64 mc,
  fun vv _ => vv = .func (.func 34) #[] #[.pointer (some ⟨b2, 0, none⟩)],
  fun vv _ => vv = .agg #[.int .i64 mc, .int .i64 mp],
  fun vv _ => vv = .int .i64 d,
  fun vv w' => GTv cb E N L vv w',
  fun vv w' => GTv cb E N L vv w',
  fun vv w' => GAv cb E N L vv w',
  fun vv _ => vv = .int .i64 E,
  fun vv w' => ZBv y0 vv w']
theorem AgR_call (ρ : Operand → Value) (o : Oper) (W : World) (b2 : Nat) (mc mp : Int) (ho : o.op = Op.call { callee := Callee.value (Operand.tmp 61), args := #[Operand.tmp 62], argTypes := #[28] })
    (h0 : ρ (.tmp 61) = .func (.func 34) #[] #[.pointer (some ⟨b2, 0, none⟩)]) (h1 : ρ (.tmp 62) = .agg #[.int .i64 mc, .int .i64 mp]) : (execOp ρ o).run Tryd.prog W = .ok (.enter 34 #[.agg #[.int .i64 mc, .int .i64 mp], .pointer (some ⟨b2, 0, none⟩)]) W := by
  unfold execOp
  rw [ho]
  go_simp
theorem AgR_alloc (ρ : Operand → Value) (o : Oper) (W : World) (ho : o.op = Op.alloc 32) : (execOp ρ o).run Tryd.prog W = .ok (.value (.pointer (some ⟨W.heap.size, 0, none⟩))) (W.alloc (.cells #[.int .i64 0, .int .i64 0, .int .i64 0, .slice none 0 0] 32)) := by
  unfold execOp
  rw [ho]
  go_simp
theorem AgR_next (x3 xm b2 n c1 N y0 : Nat) (cb mc mp d E : Int) (A1 : Option Addr) (L : List Pm) : ∀ kk vv W W', AgR x3 xm b2 n c1 N y0 cb mc mp d E A1 L kk vv W → Below W.heap.size W W' → AgR x3 xm b2 n c1 N y0 cb mc mp d E A1 L kk vv W' := Slot.row_next ⟨fun _ _ _ h hb => h, fun _ _ _ h hb => h, fun _ _ _ h hb => h, fun _ _ _ h hb => h, fun _ _ _ h hb => h, fun _ _ _ h hb => h, fun _ _ _ h hb => GTv.next h hb, fun _ _ _ h hb => GTv.next h hb, fun _ _ _ h hb => GAv.next h hb, fun _ _ _ h hb => h, fun _ _ _ h hb => ZBv.next h hb, trivial⟩
theorem AgR_r0 (ρ : Operand → Value) (o : Oper) (W : World) (x3 xm b2 n c1 N y0 : Nat) (cb mc mp d E : Int) (A1 : Option Addr) (L : List Pm)  (ho : o.op = Op.load 32 (Operand.tmp 12)) (h0 : ρ (Operand.tmp 12) = .pointer (some ⟨x3, 0, none⟩)) (g0 : W.cell? ⟨x3, 0, none⟩ = some (.int .i64 cb)) (g1 : W.cell? ⟨x3, 1, none⟩ = some (.int .i64 0)) (g2 : W.cell? ⟨x3, 2, none⟩ = some (.int .i64 0)) (g3 : W.cell? ⟨x3, 3, none⟩ = some (.slice A1 n c1)) : (execOp ρ o).run Tryd.prog W = .ok (.value (.agg #[.int .i64 cb, .int .i64 0, .int .i64 0, .slice A1 n c1])) W := by
  unfold execOp
  rw [ho]
  go_simp
theorem AgR_r1 (ρ : Operand → Value) (o : Oper) (W : World) (x3 xm b2 n c1 N y0 : Nat) (cb mc mp d E : Int) (A1 : Option Addr) (L : List Pm)  (ho : o.op = Op.fieldAddr 28 (Operand.tmp 16) 0) (h0 : ρ (Operand.tmp 16) = .pointer (some ⟨xm, 0, none⟩)) : (execOp ρ o).run Tryd.prog W = .ok (.value (.pointer (some ⟨xm, 0, none⟩))) W := by
  unfold execOp
  rw [ho]
  go_simp
theorem AgR_r2 (ρ : Operand → Value) (o : Oper) (W : World) (x3 xm b2 n c1 N y0 : Nat) (cb mc mp d E : Int) (A1 : Option Addr) (L : List Pm)  (ho : o.op = Op.load 3 (Operand.tmp 59)) (h0 : ρ (Operand.tmp 59) = .pointer (some ⟨xm, 0, none⟩)) (g0 : W.cell? ⟨xm, 0, none⟩ = some (.int .i64 mc)) : (execOp ρ o).run Tryd.prog W = .ok (.value (.int .i64 mc)) W := by
  unfold execOp
  rw [ho]
  go_simp
theorem AgR_r4 (ρ : Operand → Value) (o : Oper) (W : World) (x3 xm b2 n c1 N y0 : Nat) (cb mc mp d E : Int) (A1 : Option Addr) (L : List Pm)  (ho : o.op = Op.load 28 (Operand.tmp 16)) (h0 : ρ (Operand.tmp 16) = .pointer (some ⟨xm, 0, none⟩)) (g0 : W.cell? ⟨xm, 0, none⟩ = some (.int .i64 mc)) (g1 : W.cell? ⟨xm, 1, none⟩ = some (.int .i64 mp)) : (execOp ρ o).run Tryd.prog W = .ok (.value (.agg #[.int .i64 mc, .int .i64 mp])) W := by
  unfold execOp
  rw [ho]
  go_simp
theorem AgR_r8 (ρ : Operand → Value) (o : Oper) (W : World) (x3 xm b2 n c1 N y0 : Nat) (cb mc mp d E : Int) (A1 : Option Addr) (L : List Pm) (A4:Option Addr) (c4:Nat) (ho : o.op = Op.extract (Operand.tmp 57) 0) (h0 : ρ (Operand.tmp 57) = .tuple #[.agg #[.int .i64 cb, .int .i64 0, .int .i64 0, .slice A4 N c4], .int .i64 E]) : (execOp ρ o).run Tryd.prog W = .ok (.value (.agg #[.int .i64 cb, .int .i64 0, .int .i64 0, .slice A4 N c4])) W := by
  unfold execOp
  rw [ho]
  go_simp
theorem AgR_r9 (ρ : Operand → Value) (o : Oper) (W : World) (x3 xm b2 n c1 N y0 : Nat) (cb mc mp d E : Int) (A1 : Option Addr) (L : List Pm) (A4:Option Addr) (c4:Nat) (ho : o.op = Op.extract (Operand.tmp 57) 1) (h0 : ρ (Operand.tmp 57) = .tuple #[.agg #[.int .i64 cb, .int .i64 0, .int .i64 0, .slice A4 N c4], .int .i64 E]) : (execOp ρ o).run Tryd.prog W = .ok (.value (.int .i64 E)) W := by
  unfold execOp
  rw [ho]
  go_simp

/-- what Again answers -/
def AP (w : World) (b m : Int) (x : St) (e : Ending) (w' : World) : Prop :=
  ∃ A c A2 c2, e = .returned (.tuple #[.agg #[.int .i64 b, .int .i64 m, .int .i64 0, .slice A x.l.length c], .slice A2 x.s.length c2]) ∧ x.l.length ≤ c ∧ c ≤ maxLen ∧ TS w' 54 A (pms x.l) ∧
    x.s.length ≤ c2 ∧ c2 ≤ maxLen ∧ TS w' 3 A2 (nums .i64 x.s) ∧ Below w.heap.size w w'
theorem drawing_at (b m k : Int) (A : Option Addr) (n cap : Nat) (w : World) :
    Calls Tryd.prog 20 #[.agg #[.int .i64 b, .int .i64 m, .int .i64 k, .slice A n cap]] w fun e w' => ∃ B2, e = .returned (.func (.func 34) #[] #[.pointer (some ⟨B2, 0, none⟩)]) ∧ BxT w' B2 #[.int .i64 b, .int .i64 m, .int .i64 k, .slice A n cap] 32 ∧ Below w.heap.size w w' :=
  (drawing_any b m k A n cap w).mono fun e w' ⟨h1, h2⟩ => ⟨w.heap.size, h1, by subst h2; exact BxT.new _ _ _, by subst h2; exact below_box⟩
theorem infoI : (Tryd.prog.info? 3).map (fun i => (i.zero, i.size, i.bytes)) = some (some (.int .i64 0), 1, 8) := by kernel_rfl
/-- Grant, at letters -/
theorem grant_at (W : World) (cb mc d E : Int) (A1 : Option Addr) (n c1 N : Nat) (x : St) (L : List Pm) (t : List Pm) (v : Mv) (hok : Ok cb x) (hcb : 0 ≤ cb ∧ cb ≤ 1048576) (hx : x.l.length = n) (h1 : n ≤ c1) (h2 : c1 ≤ maxLen) (hs : Sees W W.heap.size A1 (pms x.l)) (hv : inC v.c = true) (hn : v.c ∉ x.n) (hm : v.c = mc) (hd : dr t v = d)
    (hE : (if tot (pk x.l) + d ≤ cb then 0 else 20) = E) (hL : (if E = 0 then x.l ++ [⟨mc, d⟩] else x.l) = L) (hN : L.length = N) :
    Calls Tryd.prog 22 #[.agg #[.int .i64 cb, .int .i64 0, .int .i64 0, .slice A1 n c1], .int .i64 mc, .int .i64 d] W fun e w' => ∃ A4 c4, e = .returned (.tuple #[.agg #[.int .i64 cb, .int .i64 0, .int .i64 0, .slice A4 N c4], .int .i64 E]) ∧ N ≤ c4 ∧ c4 ≤ maxLen ∧ (E = 0 → TS w' 54 A4 (pms L)) ∧ Below W.heap.size W w' := by
  have hg := hok.ge A1 c1 t hv hn
  rw [hm, hd, hE] at hg
  have := Lgr.grant_ts ⟨cb, 0, 0, A1, c1, x.l⟩ mc d W ⟨by simp only; omega, h2, hs⟩ ⟨hcb, by simp, by simp, hok.pp, hok.few_l⟩
  unfold Lgr.GrantPostT Lgr.gl at this
  simp only [hg, hL, hN] at this
  subst hx
  exact this.mono fun e w' ⟨A', c', k1, k2, k3, _, k4, k5⟩ => ⟨A', c', k1, k2, k3, k4, k5⟩

set_option maxHeartbeats 51200000 in
theorem again_any (j : Jr) (z0 z1 : List Int) (l : List Mv) (a : Option Addr) (len cp : Nat) (bud : Int) (w : World) (ht : Tab w) (hj : j.In w) (he : j.n0.bs = z0 ∧ j.n1.bs = z1) (hl : l.length = len) (hlen : len ≤ 1000) (hs : Sees w w.heap.size a (mvs l)) :
    Calls Tryd.prog 9 #[j.val, .slice a len cp, .int .i64 bud] w (AP w (cut bud) (JrnP.load z0 z1).m (run (JrnP.load z0 z1).l (cut bud) l)) := by
  have hmm := @run_makeMap Tryd.prog
  rcases hg : JrnP.load z0 z1 with ⟨ge, gb, gm, gl, gs⟩
  simp only
  obtain ⟨gn, hgn⟩ : ∃ n, gl.length = n := ⟨_, rfl⟩
  have HLd : Hid (∀ W, Below w.heap.size w W → Calls Tryd.prog 19 #[j.val] W fun e w' => ∃ A c, e = .returned (.tuple #[.agg #[.int .i64 gb, .int .i64 gm, .int .i64 0, .slice A gn c], .int .u64 gs, .bool (decide (0 < gs))]) ∧ LI w' A c gn gl ∧ Below W.heap.size W w') := Lib.hid fun W hW => load_li z0 z1 j.a0.bs j.a1.bs j (ht.next hW) (hj.next hW) ⟨he.1, he.2, rfl, rfl⟩ hg hgn
  have HS := Lib.hid hs
  have HL := Lib.hid hl
  have hcb := cut_in bud
  have HCB := Lib.hid hcb
  have HPw : Hid (∀ W, Calls Tryd.prog 21 #[.int .i64 bud] W (Says W (.int .i64 (cut bud)))) := Lib.hid fun W => power_any bud W
  generalize cut bud = cb at *
  generalize decide (0 < gs) = gv at *
  obtain ⟨⟨A0, c0, q0⟩, ⟨A01, c01, q01⟩, ⟨A02, c02, q02⟩, ⟨A03, c03, q03⟩⟩ := j
  simp only [Jr.val, Jr.arr, RowV.val] at HLd ⊢
  clear hg hs hl he hj ht hcb
  generalize q0.length = l0 at *
  generalize q01.length = l1 at *
  generalize q02.length = l2 at *
  generalize q03.length = l3 at *
  have hj0 := Lib.hid (J.two w #[.slice A0 l0 c0, .slice A01 l1 c01, .slice A02 l2 c02, .slice A03 l3 c03] #[.int .i64 0, .int .i64 0, .int .i64 0, .slice none 0 0] 38 32)
  have hz0 : Hid (BxT ((w.alloc (.cells #[.slice A0 l0 c0, .slice A01 l1 c01, .slice A02 l2 c02, .slice A03 l3 c03] 38)).alloc (.cells #[.int .i64 0, .int .i64 0, .int .i64 0, .slice none 0 0] 32)) (w.heap.size + 1) #[.int .i64 0, .int .i64 0, .int .i64 0, .slice none 0 0] 32) := Lib.hid (by have := BxT.new (w.alloc (.cells #[.slice A0 l0 c0, .slice A01 l1 c01, .slice A02 l2 c02, .slice A03 l3 c03] 38)) #[.int .i64 0, .int .i64 0, .int .i64 0, .slice none 0 0] 32; simpa using this)
  obtain ⟨a0, a1, a2, a3⟩ := (hj0.out.bx 1 rfl).c4
  go_enter Tryd.func9, Tryd.ntmps9
  go_wp2_with (first
    | (go_at_call 19; go_must (refine (HLd.out _ below_two).mono ?_; clear HLd a0 a1 a2 a3; rintro e w1 ⟨A, c, rfl, hli, h1⟩; have hb1 := Lib.hid (hj0.out.below.trans ((h1.trans (below_box (o := .cells #[.int .i64 gb, .int .i64 gm, .int .i64 0, .slice A gn c] 32) |>.mono h1.size)).mono hj0.out.below.size)); have hz1 := Lib.hid ((hz0.out.next h1).next (below_box (o := .cells #[.int .i64 gb, .int .i64 gm, .int .i64 0, .slice A gn c] 32))); have ht1 := Lib.hid (BxT.new w1 #[.int .i64 gb, .int .i64 gm, .int .i64 0, .slice A gn c] 32); have hl1 := Lib.hid (hli.next (below_box (o := .cells #[.int .i64 gb, .int .i64 gm, .int .i64 0, .slice A gn c] 32))); have hx1 := Lib.hid (Nat.le_trans hj0.out.below.size h1.size); clear hli h1 hz0 hj0; obtain ⟨t0, t1, t2, t3⟩ := ht1.out.bx.c4))
    | (go_at_call 20; (refine (drawing_at gb gm 0 A gn c _).mono ?_; rintro e w2 ⟨B2, rfl, hB2, h2⟩; have hd2 := Lib.hid hB2; have hb2 := Lib.hid (hb1.out.trans (h2.mono hb1.out.size)); have hz2 := Lib.hid (hz1.out.next h2); have ht2 := Lib.hid (ht1.out.next h2); have hl2 := Lib.hid (hl1.out.next h2); clear hB2 h2 hb1 hz1 ht1 hl1 t0 t1 t2 t3))
    | (go_at_call 21; (refine (HPw.out _).mono ?_; rintro e w3 ⟨rfl, h3⟩; have hd3 := Lib.hid (hd2.out.next h3); have hb3 := Lib.hid (hb2.out.trans (h3.mono hb2.out.size)); have hz3 := Lib.hid (hz2.out.next h3); have ht3 := Lib.hid (ht2.out.next h3); have hl3 := Lib.hid (hl2.out.next h3); clear h3 HPw hd2 hb2 hz2 ht2 hl2)))
  have HI0 : Hid (MI w3 ((w3.alloc (.cells #[.int .i64 cb, .int .i64 0, .int .i64 0, .slice none 0 0] 32)).alloc (.map #[] 0)) cb 0 none 0 0 [] [] 0 (.slice none 0 0) (.map []) [] 0) := Lib.hid ⟨below_two, rfl, Nat.le_refl _, Nat.zero_le _, (BxT.new w3 _ 32).next below_box, TS.nil _ _ _, rfl, by simpa [nums] using World.ownsRow_nil _ _ _ _, rfl, by have := World.ownsMap_made (H := Unit) (w3.alloc (.cells #[.int .i64 cb, .int .i64 0, .int .i64 0, .slice none 0 0] 32)) Tryd.prog 3 (plainElem Tryd.prog 3); simpa using this, Tells.start⟩
  have hx3 : w1.heap.size < w3.heap.size := ht3.out.bx.lt
  have hw3 : w.heap.size ≤ w3.heap.size := hb3.out.size
  go_loopw [13, 33] (fun v i wr => ∃ (k : Nat) (A1 : Option Addr) (c1 n q nl : Nat) (D : DataW Unit), k ≤ len ∧ i = .int .i64 k ∧ Hid (MI w3 wr cb 0 A1 c1 n (run gl cb (l.take k)).l (run gl cb (l.take k)).s q v D (run gl cb (l.take k)).n nl)) (fun _ i _ => len - (intOf i).toNat)
  case atStart => exact ⟨0, none, 0, 0, 0, 0, .map [], Nat.zero_le _, rfl, HI0⟩
  case round =>
    clear HI0
    obtain ⟨k, A1, c1, n, q, nl, D, hk, rfl, hi⟩ := hrel
    have hbw := hb3.out.trans (hi.out.be.mono hw3)
    have HM := Lib.hid hi.out.mp.lt
    by_cases hlt : k < len
    · have hkl : k < l.length := by rw [HL.out]; exact hlt
      obtain ⟨bb, o, rfl, hbb, e0, e1⟩ := mv_cells (HS.out.below hbw (Nat.le_refl _)) k l[k] (List.getElem?_eq_getElem hkl)
      have HT := Lib.hid (run_take gl cb (List.getElem?_eq_getElem hkl))
      have HOK := Lib.hid (ok_run gl cb (l.take k))
      generalize l[k] = mv at e0 e1 HT
      generalize run gl cb (l.take k) = x at hi HT HOK
      obtain ⟨mc, mp⟩ := mv
      simp only at e0 e1
      have i1 : (k : Int) < (len : Int) := by omega
      have e3 : IntKind.i64.wrap ((k : Int) + 1) = ((k + 1 : Nat) : Int) := by rw [IntWalk.i64_in _ (by omega)]; rfl
      have hbm : Below wr.heap.size wr (wr.alloc (.cells #[.int .i64 mc, .int .i64 mp] 28)) := below_box
      have him := Lib.hid (hi.out.next hbm)
      have hxm := Lib.hid (BxT.new wr #[.int .i64 mc, .int .i64 mp] 28)
      have HBW := Lib.hid hbw
      have HLT := Lib.hid hlt
      obtain ⟨x0, x1⟩ := hxm.out.bx.c2
      clear hi hbm hbw hkl hlt
      by_cases hc0 : mc < 0
      · have hT : Hid (run gl cb (l.take (k + 1)) = x) := Lib.hid (by rw [HT.out]; exact step_out (.inl (by unfold inC; simp; omega)))
        clear HT HOK
        go_wp2
        go_roundw
        case rel => exact ⟨k + 1, A1, c1, n, q, nl, D, HLT.out, rfl, by rw [hT.out]; exact him⟩
        case measure => have := HLT.out; simp [intOf]; omega
      · by_cases hc1 : 64 ≤ mc
        · have hT : Hid (run gl cb (l.take (k + 1)) = x) := Lib.hid (by rw [HT.out]; exact step_out (.inl (by unfold inC; simp; omega)))
          clear HT HOK
          go_wp2
          go_roundw
          case rel => exact ⟨k + 1, A1, c1, n, q, nl, D, HLT.out, rfl, by rw [hT.out]; exact him⟩
          case measure => have := HLT.out; simp [intOf]; omega
        · have hin : inC mc = true := inC_iff.2 ⟨by omega, by omega⟩
          have hwf : (Lit.int .i64 mc).wf = true := WalkArith.wf_i64 (by omega)
          obtain ⟨cc, hrun, hat, hwc⟩ := him.out.mp.lookup_int lawInt Tryd.underlying65 Tryd.underlying3 (zeroInt _) (keyOf_int_mk Tryd.underlying3 hwf)
          have hcc : cc = (x.n.count mc : Nat) := by
            have := him.out.tl.2 mc
            rw [this] at hat
            injection hat with hat
            injection hat with _ hat
            exact hat.symm
          clear hat hwc
          by_cases hmem : mc ∈ x.n
          · have hpos : 0 < cc := by rw [hcc]; have := List.count_pos_iff.2 hmem; omega
            have hT : Hid (run gl cb (l.take (k + 1)) = x) := Lib.hid (by rw [HT.out]; exact step_out (.inr hmem))
            clear HT HOK hcc hmem hin
            go_wp2
            go_roundw
            case rel => exact ⟨k + 1, A1, c1, n, q, nl, D, HLT.out, rfl, by rw [hT.out]; exact him⟩
            case measure => have := HLT.out; simp [intOf]; omega
          · have hz : cc = 0 := by rw [hcc, List.count_eq_zero_of_not_mem hmem]; rfl
            have HTN : Hid (Tells (D.put (.int .i64 mc) (.lit (.int .i64 1))) (x.n ++ [mc])) := Lib.hid (him.out.tl.put mc (by rw [List.count_eq_zero_of_not_mem hmem]; rfl))
            have hnl : nl ≤ 64 := by rw [← him.out.nlen]; exact HOK.out.few
            have HIN := Lib.hid (And.intro hin hmem)
            have HF := Lib.hid HOK.out.few_s
            subst hz
            clear hcc hmem hin
            have hmp := him.out.mp
            go_wp2_with (at_mapUpdate; refine wpList_mapUpdate_own _ rfl _ _ _ 65 rfl 3 3 lawInt Tryd.underlying65 _ (w3.heap.size + 1) nl _ rfl hmp (by unfold maxLen; omega) _ _ _ rfl rfl (keyOf_int_mk Tryd.underlying3 hwf) _ [] (plainElem_int Tryd.underlying3 (WalkArith.wf_i64 (by omega))) ?_; clear x0 x1 hrun; intro wu hown1 hgrow1)
            have hiu := Lib.hid (him.out.upd hown1 hgrow1 HTN.out)
            have hxu : Hid (BxT wu wr.heap.size #[.int .i64 mc, .int .i64 mp] 28) := Lib.hid ((hgrow1.block _ hxm.out.bx.lt (fun e => by injection e with e; have := HM.out; omega)).trans hxm.out)
            clear hown1 hgrow1 hmp him hxm HTN
            obtain ⟨d, hd⟩ : ∃ d, dr gl ⟨mc, mp⟩ = d := ⟨_, rfl⟩
            obtain ⟨E, hE⟩ : ∃ E : Int, (if tot (pk x.l) + d ≤ cb then (0 : Int) else 20) = E := ⟨_, rfl⟩
            obtain ⟨L, hL⟩ : ∃ L, (if E = 0 then x.l ++ [⟨mc, d⟩] else x.l) = L := ⟨_, rfl⟩
            obtain ⟨N, hN⟩ : ∃ N, L.length = N := ⟨_, rfl⟩
            have HE : Hid ((E = 0 ∧ L = x.l ++ [⟨mc, d⟩] ∧ run gl cb (l.take (k + 1)) = ⟨x.l ++ [⟨mc, d⟩], x.s, x.n ++ [mc]⟩) ∨ (E = 20 ∧ run gl cb (l.take (k + 1)) = ⟨x.l, x.s ++ [mc], x.n ++ [mc]⟩)) := Lib.hid (by
              rw [HT.out]
              by_cases h1 : tot (pk x.l) + d ≤ cb
              · rw [if_pos h1] at hE
                rw [if_pos hE.symm] at hL
                have := step_yes (t := gl) (b := cb) (x := x) (m := ⟨mc, mp⟩) HIN.out.1 HIN.out.2 (by rw [hd]; exact h1)
                rw [hd] at this
                exact .inl ⟨hE.symm, hL.symm, this⟩
              · rw [if_neg h1] at hE
                exact .inr ⟨hE.symm, step_no (t := gl) (b := cb) (x := x) (m := ⟨mc, mp⟩) HIN.out.1 HIN.out.2 (by rw [hd]; exact h1)⟩)
            have HA : Hid (∀ W, Below wu.heap.size wu W → (W.cell? ⟨w3.heap.size, 0, none⟩ = some (.int .i64 cb) ∧ W.cell? ⟨w3.heap.size, 1, none⟩ = some (.int .i64 0) ∧ W.cell? ⟨w3.heap.size, 2, none⟩ = some (.int .i64 0) ∧ W.cell? ⟨w3.heap.size, 3, none⟩ = some (.slice A1 n c1)) ∧
                (W.cell? ⟨wr.heap.size, 0, none⟩ = some (.int .i64 mc) ∧ W.cell? ⟨wr.heap.size, 1, none⟩ = some (.int .i64 mp)) ∧ Calls Tryd.prog 34 #[.agg #[.int .i64 mc, .int .i64 mp], .pointer (some ⟨B2, 0, none⟩)] W (Says W (.int .i64 d)) ∧
                Calls Tryd.prog 22 #[.agg #[.int .i64 cb, .int .i64 0, .int .i64 0, .slice A1 n c1], .int .i64 mc, .int .i64 d] W fun e w' => ∃ A4 c4, e = .returned (.tuple #[.agg #[.int .i64 cb, .int .i64 0, .int .i64 0, .slice A4 N c4], .int .i64 E]) ∧ N ≤ c4 ∧ c4 ≤ maxLen ∧ (E = 0 → TS w' 54 A4 (pms L)) ∧ Below W.heap.size W w') := Lib.hid fun W hW => by
              have h1 := hiu.out.next hW
              have hq := hl3.out.next h1.be
              refine ⟨h1.bx.bx.c4, (hxu.out.next hW).bx.c2, ?_, ?_⟩
              · have := drawing1_any gb gm 0 A gn c gl ⟨mc, mp⟩ B2 W hq.len (Nat.le_trans hq.cap hq.max) hq.see (hd3.out.next h1.be).bx
                rw [hd] at this
                exact this
              · exact grant_at W cb mc d E A1 n c1 N x L gl ⟨mc, mp⟩ HOK.out HCB.out h1.len h1.cap h1.max h1.ts.sees HIN.out.1 HIN.out.2 rfl hd hE hL hN
            have HN := Lib.hid hN
            clear hE hL hd hN HT HOK HIN
            refine Slot.wp_region_slotsl 11 [9] (fun _ => .int .i64 E) (AgR w3.heap.size wr.heap.size B2 n c1 N wu.heap.size cb mc mp d E A1 L) (by kernel_rfl) (by kernel_rfl) (by kernel_rfl) (by kernel_rfl) (AgR_next w3.heap.size wr.heap.size B2 n c1 N wu.heap.size cb mc mp d E A1 L) (by intro i9 hi9; simp only [List.mem_cons, List.not_mem_nil, or_false] at hi9; subst hi9; exact ⟨fun _ => rfl, fun _ _ h => h⟩) ?_ ?_
            · intro ii o x W K fr hi ho hB hd sl hbs hK
              have HX := Lib.hid (HA.out W hB)
              match ii, ho with
              | 0, ho =>
                obtain rfl := Option.some.inj ho
                refine Slot.op_go ho rfl ?_
                exact Slot.wp_value (AgR_r0 fr.eval _ W w3.heap.size wr.heap.size B2 n c1 N wu.heap.size cb mc mp d E A1 L  rfl (Slot.eval_at ((hbs 12 (Slot.off_of (by kernel_rfl))).trans rfl)) (HX.out.1.1) (HX.out.1.2.1) (HX.out.1.2.2.1) (HX.out.1.2.2.2)) (hK _ _ (Below.refl _ _) rfl)
              | 1, ho =>
                obtain rfl := Option.some.inj ho
                refine Slot.op_go ho rfl ?_
                exact Slot.wp_value (AgR_r1 fr.eval _ W w3.heap.size wr.heap.size B2 n c1 N wu.heap.size cb mc mp d E A1 L  rfl (Slot.eval_at ((hbs 16 (Slot.off_of (by kernel_rfl))).trans rfl))) (hK _ _ (Below.refl _ _) rfl)
              | 2, ho =>
                obtain rfl := Option.some.inj ho
                refine Slot.op_go ho rfl ?_
                have e1 : x 1 = .pointer (some ⟨wr.heap.size, 0, none⟩) := hd ⟨1, .data⟩ (by simp) rfl
                exact Slot.wp_value (AgR_r2 fr.eval _ W w3.heap.size wr.heap.size B2 n c1 N wu.heap.size cb mc mp d E A1 L  rfl (Slot.eval_at ((sl 1 _ 59 rfl rfl).trans (congrArg some e1))) (HX.out.2.1.1)) (hK _ _ (Below.refl _ _) rfl)
              | 3, ho =>
                obtain rfl := Option.some.inj ho
                refine Slot.op_go ho rfl ?_
                exact Slot.wp_value (Slot.run_move rfl (Slot.eval_at ((hbs 11 (Slot.off_of (by kernel_rfl))).trans rfl))) (hK _ _ (Below.refl _ _) rfl)
              | 4, ho =>
                obtain rfl := Option.some.inj ho
                refine Slot.op_go ho rfl ?_
                exact Slot.wp_value (AgR_r4 fr.eval _ W w3.heap.size wr.heap.size B2 n c1 N wu.heap.size cb mc mp d E A1 L  rfl (Slot.eval_at ((hbs 16 (Slot.off_of (by kernel_rfl))).trans rfl)) (HX.out.2.1.1) (HX.out.2.1.2)) (hK _ _ (Below.refl _ _) rfl)
              | 5, ho =>
                obtain rfl := Option.some.inj ho
                refine Slot.op_go ho rfl ?_
                have e3 : x 3 = .func (.func 34) #[] #[.pointer (some ⟨B2, 0, none⟩)] := hd ⟨3, .data⟩ (by simp) rfl
                have s0 : fr.eval (Operand.tmp 61) = .func (.func 34) #[] #[.pointer (some ⟨B2, 0, none⟩)] := (Slot.eval_at ((sl 3 _ 61 rfl rfl).trans (congrArg some e3)))
                have e4 : x 4 = .agg #[.int .i64 mc, .int .i64 mp] := hd ⟨4, .data⟩ (by simp) rfl
                have s1 : fr.eval (Operand.tmp 62) = .agg #[.int .i64 mc, .int .i64 mp] := (Slot.eval_at ((sl 4 _ 62 rfl rfl).trans (congrArg some e4)))
                refine Slot.wp_call (f := 34) (AgR_call fr.eval _ W B2 mc mp rfl s0 s1) rfl (HX.out.2.2.1) ?_
                rintro e w2 ⟨rfl, h1⟩
                exact ⟨_, rfl, hK _ _ h1 rfl⟩
              | 6, ho =>
                obtain rfl := Option.some.inj ho
                refine Slot.op_go ho rfl ?_
                have e0 : x 0 = .agg #[.int .i64 cb, .int .i64 0, .int .i64 0, .slice A1 n c1] := hd ⟨0, .data⟩ (by simp) rfl
                have e2 : x 2 = .int .i64 mc := hd ⟨2, .data⟩ (by simp) rfl
                have e5 : x 5 = .int .i64 d := hd ⟨5, .data⟩ (by simp) rfl
                have s0 : fr.eval (Operand.tmp 58) = .agg #[.int .i64 cb, .int .i64 0, .int .i64 0, .slice A1 n c1] := (Slot.eval_at ((sl 0 _ 58 rfl rfl).trans (congrArg some e0)))
                have s1 : fr.eval (Operand.tmp 60) = .int .i64 mc := (Slot.eval_at ((sl 2 _ 60 rfl rfl).trans (congrArg some e2)))
                have s2 : fr.eval (Operand.tmp 63) = .int .i64 d := (Slot.eval_at ((sl 5 _ 63 rfl rfl).trans (congrArg some e5)))
                have ha : (#[fr.eval (Operand.tmp 58), fr.eval (Operand.tmp 60), fr.eval (Operand.tmp 63)] : Array Value) = #[.agg #[.int .i64 cb, .int .i64 0, .int .i64 0, .slice A1 n c1], .int .i64 mc, .int .i64 d] := by rw [s0, s1, s2]
                refine Slot.wp_call (f := 22) (by kernel_rfl) ha (HX.out.2.2.2) ?_
                rintro e w2 ⟨A4, c4, rfl, k1, k2, k3, h1⟩
                exact ⟨_, rfl, hK _ _ h1 ⟨A4, c4, rfl, k1, k2, k3⟩⟩
              | 7, ho =>
                obtain rfl := Option.some.inj ho
                refine Slot.op_go ho rfl ?_
                obtain ⟨A4, c4, e6, g4⟩ := (hd ⟨6, .data⟩ (by simp) rfl : GTv cb E N L (x 6) W)
                exact Slot.wp_value (Slot.run_move rfl (Slot.eval_at ((sl 6 _ 64 rfl rfl).trans (congrArg some e6)))) (hK _ _ (Below.refl _ _) ⟨A4, c4, rfl, g4⟩)
              | 8, ho =>
                obtain rfl := Option.some.inj ho
                refine Slot.op_go ho rfl ?_
                obtain ⟨A4, c4, e7, g4⟩ := (hd ⟨7, .data⟩ (by simp) rfl : GTv cb E N L (x 7) W)
                exact Slot.wp_value (AgR_r8 fr.eval _ W w3.heap.size wr.heap.size B2 n c1 N wu.heap.size cb mc mp d E A1 L A4 c4 rfl (Slot.eval_at ((sl 7 _ 57 rfl rfl).trans (congrArg some e7)))) (hK _ _ (Below.refl _ _) ⟨A4, c4, rfl, g4⟩)
              | 9, ho =>
                obtain rfl := Option.some.inj ho
                refine Slot.op_go ho rfl ?_
                obtain ⟨A4, c4, e7, g4⟩ := (hd ⟨7, .data⟩ (by simp) rfl : GTv cb E N L (x 7) W)
                exact Slot.wp_value (AgR_r9 fr.eval _ W w3.heap.size wr.heap.size B2 n c1 N wu.heap.size cb mc mp d E A1 L A4 c4 rfl (Slot.eval_at ((sl 7 _ 57 rfl rfl).trans (congrArg some e7)))) (hK _ _ (Below.refl _ _) rfl)
              | 10, ho =>
                obtain rfl := Option.some.inj ho
                refine Slot.op_go ho rfl ?_
                exact Slot.wp_value (W' := W.alloc (.cells #[.int .i64 0, .int .i64 0, .int .i64 0, .slice none 0 0] 32)) (AgR_alloc fr.eval _ W rfl) (hK _ _ below_box ⟨W.heap.size, rfl, BxT.new _ _ _, hB.size⟩)
              | n + 11, ho => exact absurd hi (by omega)
            · intro x W hB hx
              obtain ⟨A4, c4, e7, g4⟩ := (hx 7 (by simp) : GTv cb E N L (x 7) W)
              obtain ⟨A4, c4, e8, g4⟩ := (hx 8 (by simp) : GAv cb E N L (x 8) W)
              have e9 : x 9 = .int .i64 E := hx 9 (by simp)
              obtain ⟨B5, e10, hB5, hn5⟩ := (hx 10 (by simp) : ZBv wu.heap.size (x 10) W)
              simp only [Inv.fill, Act.put, List.setIfInBounds_toArray, List.set_cons_zero, List.set_cons_succ, List.take_succ_cons, List.take_zero, List.drop_succ_cons, List.drop_zero, e7, e8, e9, e10]
              clear hx e7 e8 e9 e10
              obtain ⟨hN4, hm4, ht4⟩ := g4
              have hb4 : Below wu.heap.size wu ((((W.setCell ⟨B5, 0, none⟩ (.int .i64 cb)).setCell ⟨B5, 1, none⟩ (.int .i64 0)).setCell ⟨B5, 2, none⟩ (.int .i64 0)).setCell ⟨B5, 3, none⟩ (.slice A4 N c4)) := below4 hB hn5 _ _ _ _
              have hi4 := Lib.hid (hiu.out.next hb4)
              have hx4 := Lib.hid (hxu.out.next hb4)
              have hB4 : Hid (BxT ((((W.setCell ⟨B5, 0, none⟩ (.int .i64 cb)).setCell ⟨B5, 1, none⟩ (.int .i64 0)).setCell ⟨B5, 2, none⟩ (.int .i64 0)).setCell ⟨B5, 3, none⟩ (.slice A4 N c4)) B5 #[.int .i64 cb, .int .i64 0, .int .i64 0, .slice A4 N c4] 32) := Lib.hid (set4 hB5)
              have hdl : (32 : TypeId) ≠ 54 := by decide
              have ht5 : Hid (E = 0 → TS ((((W.setCell ⟨B5, 0, none⟩ (.int .i64 cb)).setCell ⟨B5, 1, none⟩ (.int .i64 0)).setCell ⟨B5, 2, none⟩ (.int .i64 0)).setCell ⟨B5, 3, none⟩ (.slice A4 N c4)) 54 A4 (pms L)) := Lib.hid fun e => ((((ht4 e).set hB5 hdl 0 _).set (hB5.set 0 _) hdl 1 _).set ((hB5.set 0 _).set 1 _) hdl 2 _).set (((hB5.set 0 _).set 1 _).set 2 _) hdl 3 _
              have HC4 := Lib.hid (And.intro hN4 hm4)
              obtain ⟨k0, k1, k2, k3⟩ := hB5.bx.c4
              obtain ⟨f0, f1, f2, f3⟩ := hB5.bx.f4
              clear hN4 hm4 ht4 hb4 hB5 hn5 hB HA hiu hxu hdl
              change wpList _ _ _ _ _ _
              go_wp2
              refine ⟨rfl, rfl, ⟨fun o d ho hd => by obtain rfl := Option.some.inj ho; obtain rfl := Option.some.inj hd; simp [execOp, Act.eval, go_sem], trivial⟩, ?_⟩
              clear k0 k1 k2 k3 f0 f1 f2 f3
              generalize hW4 : ((((W.setCell ⟨B5, 0, none⟩ (.int .i64 cb)).setCell ⟨B5, 1, none⟩ (.int .i64 0)).setCell ⟨B5, 2, none⟩ (.int .i64 0)).setCell ⟨B5, 3, none⟩ (.slice A4 N c4)) = W4 at hi4 hx4 hB4 ht5 ⊢
              clear hW4
              change wpList _ _ _ _ _ _
              rcases HE.out with ⟨rfl, h2, h3⟩ | ⟨rfl, h3⟩
              · have HR := Lib.hid h3
                have HL2 := Lib.hid h2
                obtain ⟨r0, r1, r2, r3⟩ := hB4.out.bx.c4
                obtain ⟨y0, y1, y2, y3⟩ := hi4.out.bx.bx.c4
                obtain ⟨p0, p1, p2, p3⟩ := hi4.out.bx.bx.f4
                clear h2 h3 HE
                go_wp2
                go_roundw
                case rel => exact ⟨k + 1, A4, c4, N, q, nl + 1, _, HLT.out, rfl, by rw [HR.out, ← HL2.out]; exact Lib.hid (hi4.out.put HN.out HC4.out.1 HC4.out.2 (ht5.out rfl) cb 0)⟩
                case measure => have := HLT.out; simp [intOf]; omega
              · have HR := Lib.hid h3
                obtain ⟨i0, hi, hz0, hz1, hz2⟩ := info_parts infoI
                obtain ⟨r0, r1⟩ := hx4.out.bx.c2
                have HOwn := Lib.hid hi4.out.own
                have HQ : Hid (q ≤ 64) := Lib.hid (by rw [← hi4.out.slen]; exact HF.out)
                have hsz := Lib.hid hi4.out.be.size
                have hsz2 := Lib.hid hi4.out.mp.lt
                clear h3 HE
                go_wp2_with (at_builtin; refine wpList_append_own _ rfl _ _ 33 rfl (w3.heap.size + 2) 3 i0 (.int .i64 0) 1 8 Tryd.underlying33 hi hz0 hz1 hz2 rfl (by decide) _ _ _ rfl (HOwn.out.alloc _) ⟨_, 0, none⟩ 1 1 [.int .i64 mc] rfl rfl (cell_one_new _ _ _) (by simp [Value.oneCell']) (by have := HQ.out; unfold maxLen; omega) (by have := HQ.out; omega) (by have := hsz2.out; simp; omega) ?_; intro v' w5 hown5 hgrow5 _; have HO5 := Lib.hid hown5; have HG5 := Lib.hid hgrow5; clear hown5 hgrow5; clear r0 r1)
                go_roundw
                case rel => exact ⟨k + 1, A1, c1, n, q + 1, nl + 1, _, HLT.out, rfl, by rw [HR.out]; exact Lib.hid ((hi4.out.next below_box).app (by simpa [nums] using HO5.out) HG5.out)⟩
                case measure => have := HLT.out; simp [intOf]; omega
    · obtain rfl : k = len := by omega
      have hT : l.take k = l := List.take_of_length_le (by rw [HL.out]; exact Nat.le_refl _)
      rw [hT] at hi
      obtain ⟨t0, t1, t2, t3⟩ := (ht3.out.next hi.out.be).bx.c4
      have h16 := Lib.hid (hi.out.set1 gm)
      have hz5 : Hid (BxT (wr.setCell ⟨w3.heap.size, 1, none⟩ (.int .i64 gm)) (w.heap.size + 1) #[.int .i64 0, .int .i64 0, .int .i64 0, .slice none 0 0] 32) := Lib.hid (hz3.out.next h16.out.be)
      have hbw5 := Lib.hid (hb3.out.trans (h16.out.be.mono hw3))
      obtain ⟨y0, y1, y2, y3⟩ := hi.out.bx.bx.c4
      obtain ⟨p0, p1, p2, p3⟩ := hi.out.bx.bx.f4
      obtain ⟨r0, r1, r2, r3⟩ := h16.out.bx.bx.c4
      obtain ⟨s0, s1, s2, s3⟩ := hz5.out.bx.c4
      obtain ⟨o0, o1, o2, o3⟩ := hz5.out.bx.f4
      obtain ⟨A2, c2, rfl, _⟩ := own_form hi.out.own
      have hcc := own_cap hi.out.own
      have hlw := hz3.out.bx.lt
      generalize run gl cb l = x at *
      have hf := set4 hz5.out (x := .int .i64 cb) (y := .int .i64 gm) (z := .int .i64 0) (u := .slice A1 n c1)
      have hdl : (32 : TypeId) ≠ 54 := by decide
      have hzb := hz5.out
      have htf := (((h16.out.ts.set hzb hdl 0 (.int .i64 cb)).set (hzb.set 0 _) hdl 1 (.int .i64 gm)).set ((hzb.set 0 _).set 1 _) hdl 2 (.int .i64 0)).set (((hzb.set 0 _).set 1 _).set 2 _) hdl 3 (.slice A1 n c1)
      have hdi : (32 : TypeId) ≠ 3 := by decide
      have hof := ((((TS.own h16.out.own).set hzb hdi 0 (.int .i64 cb)).set (hzb.set 0 _) hdi 1 (.int .i64 gm)).set ((hzb.set 0 _).set 1 _) hdi 2 (.int .i64 0)).set (((hzb.set 0 _).set 1 _).set 2 _) hdi 3 (.slice A1 n c1)
      have hbf := below4 hbw5.out (X := w.heap.size + 1) (by omega) (.int .i64 cb) (.int .i64 gm) (.int .i64 0) (.slice A1 n c1)
      have HFin := Lib.hid (And.intro hf (And.intro htf (And.intro hof hbf)))
      have HLn := Lib.hid (And.intro hi.out.len (And.intro hi.out.slen (And.intro hi.out.cap hi.out.max)))
      clear hf htf hof hbf hi h16 hz5 hbw5 hzb hT
      go_wp2
      obtain ⟨hf, htf, hof, hbf⟩ := HFin.out
      obtain ⟨g0, g1, g2, g3⟩ := hf.bx.c4
      obtain ⟨rfl, rfl, hcap, hmax⟩ := HLn.out
      refine bodyPost_ret (v := .tuple #[.agg #[.int .i64 cb, .int .i64 gm, .int .i64 0, .slice A1 x.l.length c1], .slice A2 x.s.length c2]) (by simp [results, Tryd.results9, go_sem, g0, g1, g2, g3]) rfl ⟨A1, c1, A2, c2, rfl, hcap, hmax, htf, hcc.1, hcc.2, hof, hbf⟩

end Go.Proofs.YtjedkkkhficmoaaDoor.Mnd

/- Again at letters; few; the law's example. -/
namespace Go.Proofs.YtjedkkkhficmoaaDoor.Mnd
open Go.RowKit Go.Proofs.YtjedkkkhficmoaaDoor.SatP Go.Proofs.YtjedkkkhficmoaaDoor.LgrP Go.Proofs.YtjedkkkhficmoaaDoor.MndP Go.Proofs.YtjedkkkhficmoaaDoor.Open Go.Proofs.YtjedkkkhficmoaaDoor.Sees Go.Proofs.YtjedkkkhficmoaaDoor.Box Go.Proofs.YtjedkkkhficmoaaDoor.Held Go.Proofs.YtjedkkkhficmoaaDoor.Jrn Go.Proofs.YtjedkkkhficmoaaDoor.Crc Go.Proofs.YtjedkkkhficmoaaDoor.JrnP
set_option linter.unusedVariables false
set_option linter.unusedSimpArgs false
set_option maxRecDepth 100000

/-- numbers in memory -/
structure NI (W : World) (A : Option Addr) (c n : Nat) (s : List Int) : Prop where
  len : s.length = n
  cap : n ≤ c
  max : c ≤ maxLen
  see : Sees W W.heap.size A (nums .i64 s)
theorem NI.next {W W' : World} {A : Option Addr} {c n : Nat} {s : List Int} (h : NI W A c n s) (hb : Below W.heap.size W W') : NI W' A c n s := ⟨h.len, h.cap, h.max, Jrn.sees_next h.see hb⟩
/-- cars that move, in memory -/
structure VI (W : World) (A : Option Addr) (c n : Nat) (l : List Mv) : Prop where
  len : l.length = n
  cap : n ≤ c
  max : c ≤ maxLen
  see : Sees W W.heap.size A (mvs l)
theorem VI.next {W W' : World} {A : Option Addr} {c n : Nat} {l : List Mv} (h : VI W A c n l) (hb : Below W.heap.size W W') : VI W' A c n l := ⟨h.len, h.cap, h.max, Jrn.sees_next h.see hb⟩
/-- Again, at letters -/
theorem again_at {W : World} (z0 z1 : List Int) (j : Jr) (ht : Tab W) (hj : j.In W) (he : j.n0.bs = z0 ∧ j.n1.bs = z1) {l : List Mv} {a : Option Addr} {len cp : Nat} (hv : VI W a cp len l) (hlen : len ≤ 1000) (bud : Int) {b m : Int} {x : St} {nl ns : Nat} (hb : cut bud = b) (hm : (JrnP.load z0 z1).m = m) (hx : run (JrnP.load z0 z1).l b l = x) (h1 : x.l.length = nl) (h2 : x.s.length = ns) :
    Calls Tryd.prog 9 #[j.val, .slice a len cp, .int .i64 bud] W fun e w' => ∃ A c A2 c2, e = .returned (.tuple #[.agg #[.int .i64 b, .int .i64 m, .int .i64 0, .slice A nl c], .slice A2 ns c2]) ∧ LI w' A c nl x.l ∧ NI w' A2 c2 ns x.s ∧ Below W.heap.size W w' := by
  have := again_any j z0 z1 l a len cp bud W ht hj he hv.len hlen hv.see
  rw [hb, hm, hx] at this
  refine this.mono ?_
  rintro e w' ⟨A, c, A2, c2, rfl, k1, k2, k3, k4, k5, k6, k7⟩
  rw [h1, h2]
  exact ⟨A, c, A2, c2, rfl, ⟨h1, by omega, k2, k3.sees⟩, ⟨h2, by omega, k5, k6.sees⟩, k7⟩
theorem load_nil : JrnP.load [] [] = bad 0 := load_none (get_short By.nil (by decide)) (get_short By.nil (by decide))
/-- with nothing ever written -/
theorem again_nil {W : World} (j : Jr) (ht : Tab W) (hj : j.In W) (he : j.n0.bs = [] ∧ j.n1.bs = []) {l : List Mv} {a : Option Addr} {len cp : Nat} (hv : VI W a cp len l) (hlen : len ≤ 1000) (bud : Int) {b : Int} {x : St} {nl ns : Nat} (hb : cut bud = b) (hx : run [] b l = x) (h1 : x.l.length = nl) (h2 : x.s.length = ns) :
    Calls Tryd.prog 9 #[j.val, .slice a len cp, .int .i64 bud] W fun e w' => ∃ A c A2 c2, e = .returned (.tuple #[.agg #[.int .i64 b, .int .i64 0, .int .i64 0, .slice A nl c], .slice A2 ns c2]) ∧ LI w' A c nl x.l ∧ NI w' A2 c2 ns x.s ∧ Below W.heap.size W w' :=
  again_at [] [] j ht hj he hv hlen bud hb (by rw [load_nil]; rfl) (by rw [load_nil]; exact hx) h1 h2
/-- the Margin that a journal tells may be one -/
theorem get_may (z : List Int) : (0 ≤ (JrnP.get z).m ∧ (JrnP.get z).m ≤ 1048576) := by
  unfold JrnP.get
  split
  · exact ⟨by decide, by decide⟩
  · split
    · exact ⟨by decide, by decide⟩
    · unfold getR
      split
      · split
        · split
          · rename_i h
            exact (may_parts h).2.1
          · exact ⟨by decide, by decide⟩
        · exact ⟨by decide, by decide⟩
      · exact ⟨by decide, by decide⟩
theorem best_may {p : Int} {x y : G} (hx : 0 ≤ x.m ∧ x.m ≤ 1048576) (hy : 0 ≤ y.m ∧ y.m ≤ 1048576) : 0 ≤ (best p x y).m ∧ (best p x y).m ≤ 1048576 := by
  unfold best
  split
  · exact hy
  · exact hx
theorem load_may (z0 z1 : List Int) : 0 ≤ (JrnP.load z0 z1).m ∧ (JrnP.load z0 z1).m ≤ 1048576 := best_may (best_may ⟨by decide, by decide⟩ (get_may z0)) (get_may z1)

theorem mFew_any (a : Option Addr) (n c : Nat) (w : World) : Calls Tryd.prog 8 #[.slice a n c] w fun e w' => e = .returned (.bool (decide (n ≤ 100))) ∧ Below w.heap.size w w' := by
  have e1 : decide ((n : Int) ≤ 100) = decide (n ≤ 100) := by congr 1; exact propext ⟨fun h => by omega, fun h => by omega⟩
  go_enter Tryd.func8, Tryd.ntmps8
  go_wp2
  go_ret
  exact ⟨by first | rfl | rw [e1], Below.refl _ _⟩

/-- what the example's Again answers -/
theorem again_ex {W : World} (j : Jr) (ht : Tab W) (hj : j.In W) (he : j.n0.bs = [] ∧ j.n1.bs = []) (X : Nat) (hX : Bx W X #[.int .i64 1, .int .i64 6, .int .i64 2, .int .i64 5]) :
    Calls Tryd.prog 9 #[j.val, .slice (some ⟨X, 0, none⟩) 2 2, .int .i64 10] W fun e w' => ∃ g o c g2 o2 c2, e = .returned (.tuple #[.agg #[.int .i64 10, .int .i64 0, .int .i64 0, .slice (some ⟨g, o, none⟩) 1 c], .slice (some ⟨g2, o2, none⟩) 1 c2]) ∧
      (g < w'.heap.size ∧ w'.cell? ⟨g, o, none⟩ = some (.int .i64 1) ∧ w'.cell? ⟨g, o + 1, none⟩ = some (.int .i64 6)) ∧ (g2 < w'.heap.size ∧ w'.cell? ⟨g2, o2, none⟩ = some (.int .i64 2)) ∧ Below W.heap.size W w' := by
  have hv : VI W (some ⟨X, 0, none⟩) 2 2 [⟨1, 6⟩, ⟨2, 5⟩] := ⟨rfl, Nat.le_refl _, by decide, .inr ⟨X, 0, rfl, hX.lt, fun k u hu => by rw [Nat.zero_add]; exact hX.cell (by simpa [mvs, Mv.cells] using hu)⟩⟩
  refine (again_nil j ht hj he hv (by omega) 10 (b := 10) (x := ⟨[⟨1, 6⟩], [2], [1, 2]⟩) (nl := 1) (ns := 1) (by decide) (by rfl) rfl rfl).mono ?_
  rintro e w' ⟨A, c, A2, c2, rfl, h1, h2, h3⟩
  obtain ⟨g, o, rfl, hg, k0, k1⟩ := pm_cells h1.see 0 ⟨1, 6⟩ rfl
  obtain ⟨g2, o2, rfl, hg2, k2⟩ := h2.see.at_ (k := 0) (u := .int .i64 2) rfl
  exact ⟨g, o, c, g2, o2, c2, rfl, ⟨hg, by simpa using k0, by simpa using k1⟩, ⟨hg2, by simpa using k2⟩, h3⟩

theorem awake_any (w : World) (ht : Tab w) : Calls Tryd.prog 7 #[] w fun e w' => e = .returned (.bool true) ∧ Below w.heap.size w w' := by
  have HT := Lib.hid ht
  clear ht
  have HA : Hid (∀ j W X, Tab W → Jr.In W j → (j.n0.bs = [] ∧ j.n1.bs = []) → Bx W X #[.int .i64 1, .int .i64 6, .int .i64 2, .int .i64 5] → Calls Tryd.prog 9 #[j.val, .slice (some ⟨X, 0, none⟩) 2 2, .int .i64 10] W fun e w' => ∃ g o c g2 o2 c2, e = .returned (.tuple #[.agg #[.int .i64 10, .int .i64 0, .int .i64 0, .slice (some ⟨g, o, none⟩) 1 c], .slice (some ⟨g2, o2, none⟩) 1 c2]) ∧
      (g < w'.heap.size ∧ w'.cell? ⟨g, o, none⟩ = some (.int .i64 1) ∧ w'.cell? ⟨g, o + 1, none⟩ = some (.int .i64 6)) ∧ (g2 < w'.heap.size ∧ w'.cell? ⟨g2, o2, none⟩ = some (.int .i64 2)) ∧ Below W.heap.size W w') := Lib.hid fun j W X h1 h2 h3 h4 => again_ex j h1 h2 h3 X h4
  have nq : ∀ W, (Go.binOp .eql 54 (.agg #[.int .i64 1, .int .i64 6]) (.agg #[.int .i64 1, .int .i64 6])).run Tryd.prog W = .ok (.bool true) W := fun W => by simp [go_sem, Tryd.underlying54, Tryd.underlying3]
  go_enter Tryd.func7, Tryd.ntmps7
  go_wp2_with (first
    | (go_at_call 10; (refine (from_nil _).mono ?_; rintro e w2 ⟨⟨⟨A0, c0, q0⟩, ⟨A1, c1, q1⟩, ⟨A2, c2, q2⟩, ⟨A3, c3, q3⟩⟩, rfl, hi2, hb2, h2⟩; have HI := Lib.hid (hi2.next (below_box (o := .cells #[.int .i64 1, .int .i64 6, .int .i64 2, .int .i64 5] 28))); have HB := Lib.hid (And.intro hb2.1 hb2.2.1); have HX := Lib.hid (Bx.new w2 #[.int .i64 1, .int .i64 6, .int .i64 2, .int .i64 5] 28); have HBel := Lib.hid (h2.trans (below_box (o := .cells #[.int .i64 1, .int .i64 6, .int .i64 2, .int .i64 5] 28) |>.mono h2.size)); have HT2 := Lib.hid (HT.out.next HBel.out); clear hi2 hb2 h2 HT; simp only [Jr.val, Jr.arr, RowV.val]))
    | (go_at_call 9; (refine (HA.out ⟨⟨A0, c0, q0⟩, ⟨A1, c1, q1⟩, ⟨A2, c2, q2⟩, ⟨A3, c3, q3⟩⟩ _ _ HT2.out HI.out HB.out HX.out).mono ?_; clear HA HI HB HX HT2; rintro e w3 ⟨g, o, c, g2, o2, c5, rfl, hg, hg2, h3⟩; have hj3 := Lib.hid (Bx.new w3 #[.int .i64 10, .int .i64 0, .int .i64 0, .slice (some ⟨g, o, none⟩) 1 c] 32); have HBel3 := Lib.hid (HBel.out.trans ((h3.trans (below_box (o := .cells #[.int .i64 10, .int .i64 0, .int .i64 0, .slice (some ⟨g, o, none⟩) 1 c] 32) |>.mono h3.size)).mono HBel.out.size)); obtain ⟨k0, k1, k2, k3⟩ := hj3.out.c4; have d0 := (below_box (w := w3) (o := .cells #[.int .i64 10, .int .i64 0, .int .i64 0, .slice (some ⟨g, o, none⟩) 1 c] 32)).cell (p := ⟨g, o, none⟩) hg.1 |>.trans hg.2.1; have d1 := (below_box (w := w3) (o := .cells #[.int .i64 10, .int .i64 0, .int .i64 0, .slice (some ⟨g, o, none⟩) 1 c] 32)).cell (p := ⟨g, o + 1, none⟩) hg.1 |>.trans hg.2.2; have d2 := (below_box (w := w3) (o := .cells #[.int .i64 10, .int .i64 0, .int .i64 0, .slice (some ⟨g, o, none⟩) 1 c] 32)).cell (p := ⟨g2, o2, none⟩) hg2.1 |>.trans hg2.2; clear hg hg2 h3 HBel)))
  go_ret
  exact ⟨rfl, HBel3.out⟩

end Go.Proofs.YtjedkkkhficmoaaDoor.Mnd

/- Contracts at letters, for the laws' walks. -/
namespace Go.Proofs.YtjedkkkhficmoaaDoor.Mnd
open Go.RowKit Go.Proofs.YtjedkkkhficmoaaDoor.SatP Go.Proofs.YtjedkkkhficmoaaDoor.LgrP Go.Proofs.YtjedkkkhficmoaaDoor.MndP Go.Proofs.YtjedkkkhficmoaaDoor.Open Go.Proofs.YtjedkkkhficmoaaDoor.Sees Go.Proofs.YtjedkkkhficmoaaDoor.Box Go.Proofs.YtjedkkkhficmoaaDoor.Held Go.Proofs.YtjedkkkhficmoaaDoor.Jrn Go.Proofs.YtjedkkkhficmoaaDoor.Crc Go.Proofs.YtjedkkkhficmoaaDoor.JrnP
set_option linter.unusedVariables false
set_option linter.unusedSimpArgs false
set_option maxRecDepth 100000

/-- bytes in memory -/
structure BI (W : World) (A : Option Addr) (n : Nat) (z : List Int) : Prop where
  len : z.length = n
  see : Sees W W.heap.size A (nums .u8 z)
  byte : ∀ b ∈ z, 0 ≤ b ∧ b ≤ 255
theorem BI.next {W W' : World} {A : Option Addr} {n : Nat} {z : List Int} (h : BI W A n z) (hb : Below W.heap.size W W') : BI W' A n z := ⟨h.len, Jrn.sees_next h.see hb, h.byte⟩
theorem byte_of {z : List Int} (h : ∀ x ∈ z, (Lit.int .u8 x).wf = true) : ∀ b ∈ z, 0 ≤ b ∧ b ≤ 255 := fun b hb => by
  have := h b hb
  simp [Lit.wf, IntKind.min, IntKind.max, IntKind.bits, IntKind.signed] at this
  omega
theorem from_at {W : World} {A0 A1 : Option Addr} {n0 n1 : Nat} {z0 z1 : List Int} (h0 : BI W A0 n0 z0) (h1 : BI W A1 n1 z1) (k0 : n0 ≤ 800) (k1 : n1 ≤ 800) (c0 c1 : Nat) : Calls Tryd.prog 10 #[.slice A0 n0 c0, .slice A1 n1 c1] W (JP W z0 z1 z0 z1) :=
  jFrom_any z0 z1 A0 A1 n0 n1 c0 c1 W h0.len h1.len (by omega) (by omega) h0.see h1.see h0.byte h1.byte
theorem sum_at {W : World} {A : Option Addr} {c n : Nat} {l : List Pm} (h : LI W A c n l) (hn : n ≤ 1000) (b m k : Int) {S : Int} (hS : sm l = S) : Calls Tryd.prog 17 #[.agg #[.int .i64 b, .int .i64 m, .int .i64 k, .slice A n c]] W fun e w' => e = .returned (.int .i64 S) ∧ Below W.heap.size W w' := by
  have := Lgr.sum_any ⟨b, m, k, A, c, l⟩ W (h.lg b m k) (by simp only [h.len]; omega)
  rw [h.val] at this
  simp only [hS] at this
  exact this
theorem has_at {W : World} {A : Option Addr} {c n : Nat} {l : List Pm} (h : LI W A c n l) (b m k car : Int) : Calls Tryd.prog 18 #[.agg #[.int .i64 b, .int .i64 m, .int .i64 k, .slice A n c], .int .i64 car] W fun e w' => e = .returned (.tuple #[.agg #[.int .i64 (had l car).c, .int .i64 (had l car).p], .bool (decide (0 ≤ idx l car))]) ∧ Below W.heap.size W w' :=
  has_any b m k A n c l car W h.len (Nat.le_trans h.cap h.max) h.see
theorem VI.nil (W : World) : VI W none 0 0 [] := ⟨rfl, Nat.le_refl _, Nat.zero_le _, .inl rfl⟩

end Go.Proofs.YtjedkkkhficmoaaDoor.Mnd
