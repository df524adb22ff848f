/- ScriptBack, walked. -/
import Derived.Test.YtjkpmppjnklajaaGreatDoorScrR
import Derived.Test.YtjkpmppjnklajaaGreatDoorScrV
namespace Go.Proofs.YtjkpmppjnklajaaGreatDoor.Scr
open Go.RowKit Go.Maps Go.Proofs.YtjkpmppjnklajaaGreatDoor.ScrP Go.Proofs.YtjkpmppjnklajaaGreatDoor.Box Go.Proofs.YtjkpmppjnklajaaGreatDoor.Held Go.Proofs.YtjkpmppjnklajaaGreatDoor.Sees Go.Proofs.YtjkpmppjnklajaaGreatDoor.Jrn
set_option linter.unusedVariables false
set_option linter.unusedSimpArgs false
set_option maxRecDepth 100000

theorem nrm_in {t : T} (h : t.In) : t.nrm.In := ⟨h.cap, h.bl, fun e he => by
  obtain ⟨x, hx, rfl⟩ := List.mem_map.1 he
  have hx := h.es x (List.mem_filter.1 hx).1
  unfold ScrP.nrm E.In In64
  simp only
  have h1 := hx.1
  have h2 := hx.2
  unfold In64 at h1 h2
  constructor <;> split <;> omega⟩
def fil (l : List E) : List E := (l.filter isK).map ScrP.nrm
theorem fil_no {l : List E} {e : E} (h : isK e = false) : fil (l ++ [e]) = fil l := by unfold fil; rw [List.filter_append, List.filter_cons_of_neg (by rw [h]; decide), List.filter_nil, List.append_nil]
theorem fil_yes {l : List E} {e : E} (h : isK e = true) : fil (l ++ [e]) = fil l ++ [ScrP.nrm e] := by unfold fil; rw [List.filter_append, List.filter_cons_of_pos h, List.filter_nil, List.map_append]; rfl
theorem fil_len (l : List E) : (fil l).length ≤ l.length := by unfold fil; rw [List.length_map]; exact List.length_filter_le _ _
theorem kw_names (k : Int) (h : isK ⟨k, 0, 0⟩ = true) : (kw k).1 ≠ [] := (kd_kw (of_decide_eq_true h)).1

/-- while an event is looked at: its box is the newest block -/
structure Kp (W0 wr : World) (v : Value) (N : Nat) (xs : List Value) (U : World) : Prop where
  b : Below W0.heap.size W0 U
  o : U.ownsRow W0.heap.size 45 3 v N xs
  z : U.heap.size = wr.heap.size + 1
  l : ∀ g, v.ownBlock = some g → g < wr.heap.size
  h : W0.heap.size ≤ wr.heap.size
theorem Kp.new {W0 wr : World} {v : Value} {N : Nat} {xs : List Value} (hb : Below W0.heap.size W0 wr) (ho : wr.ownsRow W0.heap.size 45 3 v N xs) (cs : Array Value) (t : TypeId) : Kp W0 wr v N xs (wr.alloc (.cells cs t)) :=
  ⟨hb.alloc hb.size _, ho.alloc _, by simp, fun g e => (ho.lt g e).2, hb.size⟩
theorem Kp.set {W0 wr U : World} {v : Value} {N : Nat} {xs : List Value} (h : Kp W0 wr v N xs U) (j : Nat) (u : Value) : Kp W0 wr v N xs (U.setCell ⟨wr.heap.size, j, none⟩ u) :=
  ⟨h.b.setCell h.h u, h.o.kept (grown_cell _ _ _ _) (.inr fun e => by have := h.l _ e; omega), by rw [← h.z]; simp [World.setCell], h.l, h.h⟩
theorem Kp.cell {W0 wr U : World} {v : Value} {N : Nat} {xs : List Value} (h : Kp W0 wr v N xs U) (t : TypeId) (a b c : Value) : ∀ j u, [a, b, c][j]? = some u → (U.alloc (.cells #[a, b, c] t)).cell? ((⟨wr.heap.size + 1, 0, none⟩ : Addr).add j) = some u := by
  have := new_cell3 U t a b c
  rwa [h.z] at this
/-- a tick's value whose events are these -/
def RV (m g : Bool) (cp : Int) (bl k : Nat) (fl : List E) (v : Value) (W : World) : Prop := ∃ A c, v = .agg #[.bool m, .bool g, .int .i64 cp, .int .u64 bl, .slice A k c] ∧ Sees W W.heap.size A (evc fl)
theorem RV.next {m g : Bool} {cp : Int} {bl k : Nat} {fl : List E} {v : Value} {W W' : World} (h : RV m g cp bl k fl v W) (hb : Below W.heap.size W W') : RV m g cp bl k fl v W' := by
  obtain ⟨A, c, h1, h2⟩ := h
  exact ⟨A, c, h1, h2.on hb⟩
def BackF (m g : Bool) (cp : Int) (bl k : Nat) (fl : List E) (V1 V3 V6 : Value) (s : ByteArray) : Nat → Value → World → Prop
  | 0, vv, _ => vv = .int .i64 0
  | 1, vv, _ => vv = .bool true
  | 2, vv, _ => vv = .bool true
  | 3, vv, _ => vv = V3
  | 4, vv, w' => RV m g cp bl k fl vv w'
  | 5, vv, _ => vv = V6
  | 6, vv, _ => vv = .bool true
  | 7, vv, _ => vv = .bool true
  | 8, vv, _ => vv = .bool true
  | 9, vv, _ => vv = V3
  | 10, vv, _ => vv = .string s
  | 11, vv, _ => vv = V1
  | 12, vv, _ => vv = .string s
  | 13, vv, _ => vv = .bool true
  | 14, vv, _ => vv = .bool true
  | _, _, _ => True
theorem RV.elim {m g : Bool} {cp : Int} {bl k : Nat} {fl : List E} {v : Value} {W : World} {C : Prop} (h : RV m g cp bl k fl v W) (f : ∀ A c, v = .agg #[.bool m, .bool g, .int .i64 cp, .int .u64 bl, .slice A k c] → Sees W W.heap.size A (evc fl) → C) : C := by
  obtain ⟨A, c, h1, h2⟩ := h
  exact f A c h1 h2
theorem BackF.rv {m g : Bool} {cp : Int} {bl k : Nat} {fl : List E} {V1 V3 V6 : Value} {s : ByteArray} {v : Value} {W : World} (h : BackF m g cp bl k fl V1 V3 V6 s 4 v W) : RV m g cp bl k fl v W := h
set_option maxHeartbeats 12800000 in
theorem _root_.Go.Proofs.YtjkpmppjnklajaaGreatDoor.Walk.scriptBack_walk (w : World) (hE : Env w) (x : Tk) (hx : x.In w) : Calls Tryz.prog 5 #[x.val] w (Says w (.bool true)) := by
  obtain ⟨i0, hi, hz0, hz1, hz2⟩ := info_parts info_rE
  obtain ⟨t, A, c⟩ := x
  obtain ⟨ht, hs⟩ := hx
  obtain ⟨n, hn⟩ : ∃ n, t.es.length = n := ⟨_, rfl⟩
  obtain ⟨k, hk⟩ : ∃ k, (fil t.es).length = k := ⟨_, rfl⟩
  unfold Tk.val
  simp only at ht hs ⊢
  rw [hn]
  have hkn : k ≤ n := by rw [← hk, ← hn]; exact fil_len _
  have HN := Lib.hid hn
  have HK := Lib.hid hk
  have hj0 : Hid (JS w [(w.heap.size, tvc t.m t.g t.cap t.bl A n c)] _) := Lib.hid (J.one w (tvc t.m t.g t.cap t.bl A n c) 25)
  have HA : Hid (∀ W, JS w [(w.heap.size, tvc t.m t.g t.cap t.bl A n c)] W → Calls Tryz.prog 7 #[] W (Says W (.bool true))) := Lib.hid fun W h => awake_any W (hE.next (J.below h))
  by_cases h40 : n ≤ 40
  · have HP1 : Hid (∀ W, Below w.heap.size w W → Calls Tryz.prog 8 #[.agg #[.bool t.m, .bool t.g, .int .i64 t.cap, .int .u64 t.bl, .slice A n c]] W (Says W (.string (S (put t))))) := Lib.hid fun W h => Put_any t A n c W ht hn (by omega) ((hs.below h (Nat.le_refl _)).more h.size) (hE.next h)
    have HO1 : Hid (∀ W, Below w.heap.size w W → Calls Tryz.prog 10 #[.agg #[.bool t.m, .bool t.g, .int .i64 t.cap, .int .u64 t.bl, .slice A n c]] W fun e w' => ∃ A' c', e = .returned (.agg #[.bool t.m, .bool t.g, .int .i64 t.cap, .int .u64 t.bl, .slice A' n c']) ∧ Hid (Below W.heap.size W w' ∧ Sees w' w'.heap.size A' (evc t.es))) := Lib.hid fun W h => (of_any t A n c W hn (by omega) ((hs.below h (Nat.le_refl _)).more h.size)).mono fun e w' ⟨A', c', h1, h2⟩ => ⟨A', c', by rw [h1, hn]; rfl, Lib.hid ⟨h2.out.1, h2.out.2.1⟩⟩
    have HPa : Hid (∀ W, Below w.heap.size w W → Calls Tryz.prog 11 #[.string (S (put t))] W fun e w' => ∃ A' c', e = .returned (.tuple #[.agg #[.bool t.m, .bool t.g, .int .i64 t.cap, .int .u64 t.bl, .slice A' k c'], .int .i64 0]) ∧ Hid (Below W.heap.size W w' ∧ Sees w' w'.heap.size A' (evc (fil t.es)))) := Lib.hid fun W h => by
      have hl : (put t).length ≤ 60 + 60 * t.es.length := put_len ht t.es ht.es
      have hp := Parse_any (put t) (by omega) W (hE.next h)
      unfold ParsePost at hp
      rw [pr_put ht (by omega)] at hp
      exact hp.mono fun e w' ⟨A', c', h1, h2⟩ => ⟨A', c', by rw [h1]; unfold tv tvc T.nrm; simp only; rw [← hk]; rfl, Lib.hid ⟨h2.out.1, h2.out.2.1⟩⟩
    have HO2 : Hid (∀ A' c' W, Sees W W.heap.size A' (evc (fil t.es)) → Calls Tryz.prog 10 #[.agg #[.bool t.m, .bool t.g, .int .i64 t.cap, .int .u64 t.bl, .slice A' k c']] W fun e w' => ∃ A' c', e = .returned (.agg #[.bool t.m, .bool t.g, .int .i64 t.cap, .int .u64 t.bl, .slice A' k c']) ∧ Hid (Below W.heap.size W w' ∧ Sees w' w'.heap.size A' (evc (fil t.es)))) := Lib.hid fun A' c' W h => (of_any t.nrm A' k c' W hk (by omega) h).mono fun e w' ⟨A', c', h1, h2⟩ => ⟨A', c', by rw [h1]; unfold tv tvc T.nrm; simp only; rw [← hk]; rfl, Lib.hid ⟨h2.out.1, h2.out.2.1⟩⟩
    have HSm : Hid (∀ A' B' c' d' W, Sees W W.heap.size A' (evc (fil t.es)) → Sees W W.heap.size B' (evc (fil t.es)) → Calls Tryz.prog 13 #[.agg #[.bool t.m, .bool t.g, .int .i64 t.cap, .int .u64 t.bl, .slice A' k c'], .agg #[.bool t.m, .bool t.g, .int .i64 t.cap, .int .u64 t.bl, .slice B' k d']] W (Says W (.bool true))) := Lib.hid fun A' B' c' d' W h1 h2 => Same_any t.nrm A' B' k c' d' W hk (by omega) h1 h2
    have HP2 : Hid (∀ A' c' W, Below w.heap.size w W → Sees W W.heap.size A' (evc (fil t.es)) → Calls Tryz.prog 8 #[.agg #[.bool t.m, .bool t.g, .int .i64 t.cap, .int .u64 t.bl, .slice A' k c']] W (Says W (.string (S (put t))))) := Lib.hid fun A' c' W h1 h2 => by
      have h := Put_any t.nrm A' k c' W (nrm_in ht) hk (by omega) h2 (hE.next h1)
      rw [put_nrm] at h
      exact h
    have htc : tvc t.m t.g t.cap t.bl A n c = #[.bool t.m, .bool t.g, .int .i64 t.cap, .int .u64 t.bl, .slice A n c] := rfl
    rw [htc] at hj0 HA
    have htv : tv t A n c = .agg #[.bool t.m, .bool t.g, .int .i64 t.cap, .int .u64 t.bl, .slice A n c] := rfl
    rw [htv]
    have i1 : ¬ (40 : Int) < (n : Int) := by omega
    clear hE hs htc htv hn hk ht
    generalize S (put t) = s at *
    generalize t.m = m at *
    generalize t.g = g at *
    generalize t.cap = cp at *
    generalize t.bl = bl at *
    generalize t.es = l at *
    clear t
    go_enter Tryz.func5, Tryz.ntmps5
    go_wp2_with (first
      | (go_at_call 7; refine (HA.out _ hj0.out).mono ?_; clear HA; rintro e w1 ⟨rfl, h1⟩; have hj1 : Hid (JS w [(w.heap.size, #[.bool m, .bool g, .int .i64 cp, .int .u64 bl, .slice A n c])] w1) := Lib.hid (J.next hj0.out h1); clear hj0 h1; obtain ⟨c0, c1, c2, c3, c4⟩ := (hj1.out.bx 0 rfl).c5)
      | (go_at_call 8; refine (HP1.out _ (J.below hj1.out)).mono ?_; rintro e w2 ⟨rfl, h2⟩; have hj2 : Hid (JS w _ w2) := Lib.hid (J.next hj1.out h2); clear hj1 h2)
      | (go_at_call 11; refine (HPa.out _ (J.below hj2.out)).mono ?_; clear HPa c0 c1 c2 c3 c4; rintro e w3 ⟨A3, m3, rfl, h3⟩; have hx3 : w.heap.size < w3.heap.size := ((J.next hj2.out h3.out.1).bx 0 rfl).lt; have hj3 : Hid (JS w _ (w3.alloc (.cells #[.bool m, .bool g, .int .i64 cp, .int .u64 bl, .slice A3 k m3] 25))) := Lib.hid (J.push (J.next hj2.out h3.out.1) #[.bool m, .bool g, .int .i64 cp, .int .u64 bl, .slice A3 k m3] 25); have hs3 := Lib.hid (h3.out.2.on (W' := w3.alloc (.cells #[.bool m, .bool g, .int .i64 cp, .int .u64 bl, .slice A3 k m3] 25)) below_box); clear hj2 h3; obtain ⟨c0, c1, c2, c3, c4⟩ := (hj3.out.bx 1 rfl).c5)
      | (go_at_call 10; refine (HO1.out _ (J.below hj3.out)).mono ?_; clear HO1 c0 c1 c2 c3 c4; rintro e w5 ⟨A5, m5, rfl, h5⟩; have hx5 : w3.heap.size < w5.heap.size := ((J.next hj3.out h5.out.1).bx 0 rfl).lt; have hj5 : Hid (JS w _ (w5.alloc (.cells #[.bool m, .bool g, .int .i64 cp, .int .u64 bl, .slice A5 n m5] 31))) := Lib.hid (J.push (J.next hj3.out h5.out.1) #[.bool m, .bool g, .int .i64 cp, .int .u64 bl, .slice A5 n m5] 31); have hs5 := Lib.hid (h5.out.2.on (W' := w5.alloc (.cells #[.bool m, .bool g, .int .i64 cp, .int .u64 bl, .slice A5 n m5] 31)) below_box); have hs4 := Lib.hid ((hs3.out.on h5.out.1).on (W' := w5.alloc (.cells #[.bool m, .bool g, .int .i64 cp, .int .u64 bl, .slice A5 n m5] 31)) below_box); have hs4y := Lib.hid ((hs3.out.on h5.out.1).below (C := w5.heap.size) (below_box (o := .cells #[.bool m, .bool g, .int .i64 cp, .int .u64 bl, .slice A5 n m5] 31)) (Nat.le_refl _)); clear hj3 hs3 h5))
    obtain ⟨W0, hW0⟩ : ∃ W0 : World, w5.alloc (.cells #[.bool m, .bool g, .int .i64 cp, .int .u64 bl, .slice A5 n m5] 31) = W0 := ⟨_, rfl⟩
    rw [hW0] at hj5 hs5 hs4 hs4y
    try rw [hW0]
    clear hW0
    have hs4x : Hid (Sees W0 w5.heap.size A3 (evc (fil l))) := hs4y
    generalize w5.heap.size = X6 at *
    generalize w3.heap.size = X4 at *
    go_loopw [7, 8] (fun v i wr => ∃ q : Nat, q ≤ n ∧ i = .int .i64 q ∧ Hid (Below W0.heap.size W0 wr) ∧ Hid (wr.ownsRow W0.heap.size 45 3 v (fil (l.take q)).length (evc (fil (l.take q))))) (fun _ i _ => n - (intOf i).toNat)
    case atStart => exact ⟨0, Nat.zero_le _, rfl, Lib.hid (Below.refl _ _), Lib.hid (World.ownsRow_nil _ _ _ _)⟩
    case round =>
      obtain ⟨q, hq, rfl, HB, HO⟩ := hrel
      rename Value => v
      have hjr : Hid (JS w _ wr) := Lib.hid (J.next hj5.out HB.out)
      obtain ⟨d0, d1, d2, d3, d4⟩ := (hjr.out.bx 0 rfl).c5
      by_cases hlt : q < n
      · obtain ⟨e, he⟩ : ∃ e, l[q]? = some e := ⟨l[q]'(by rw [HN.out]; exact hlt), List.getElem?_eq_getElem _⟩
        obtain ⟨bb, o, rfl, hbb, c0, c1, c2⟩ := sees_ev hs5.out HB.out he
        have HT : Hid (l.take (q + 1) = l.take q ++ [e]) := Lib.hid (by rw [List.take_add_one, he]; rfl)
        have i2 : (q : Int) < (n : Int) := by omega
        have e3 : IntKind.i64.wrap ((q : Int) + 1) = ((q + 1 : Nat) : Int) := by rw [IntWalk.i64_in _ (by omega)]; rfl
        have HLT := Lib.hid hlt
        have hfl : Hid ((fil (l.take q)).length ≤ 40) := Lib.hid (by have := fil_len (l.take q); rw [List.length_take] at this; omega)
        have HKd := Lib.hid (fun W => rKind_any e.k W)
        have Hnr : Hid (ScrP.nrm e = ⟨e.k, if (kw e.k).2.1 then e.c else 0, if (kw e.k).2.2 then e.n else 0⟩) := Lib.hid rfl
        obtain ⟨y0, y1, y2⟩ := (Bx.new wr #[.int .i64 e.k, .int .i64 e.c, .int .i64 e.n] 45).c3
        obtain ⟨f0, f1, f2⟩ := (Bx.new wr #[.int .i64 e.k, .int .i64 e.c, .int .i64 e.n] 45).f3
        have K0 := Lib.hid (Kp.new HB.out HO.out #[.int .i64 e.k, .int .i64 e.c, .int .i64 e.n] 45)
        cases hk : isK e
        · have hT2 : Hid (fil (l.take (q + 1)) = fil (l.take q)) := Lib.hid (by rw [HT.out, fil_no hk])
          rw [kw_no (of_decide_eq_false hk)] at HKd
          simp only at HKd
          have e1 := s_empty
          clear he hk Hnr
          generalize S [] = s0 at *
          go_wp2_with (go_at_call 14; refine (HKd.out _).mono ?_; rintro e' w' ⟨rfl, rfl⟩)
          go_roundw
          case rel => exact ⟨q + 1, by omega, rfl, Lib.hid K0.out.b, Lib.hid (by rw [hT2.out]; exact K0.out.o)⟩
          case measure => have := HLT.out; simp [intOf]; omega
        · have hT2 : Hid (fil (l.take (q + 1)) = fil (l.take q) ++ [ScrP.nrm e]) := Lib.hid (by rw [HT.out, fil_yes hk])
          have hne := (kd_kw (of_decide_eq_true hk)).1
          obtain ⟨⟨wd, b1, b2⟩, hkw⟩ : ∃ x, kw e.k = x := ⟨_, rfl⟩
          rw [hkw] at HKd hne Hnr
          simp only at HKd hne Hnr
          have hl0 : ¬ (S wd).toList = [] := by rw [s_list]; exact hne
          have hl1 : (S wd).toList.isEmpty = false := by rw [s_list]; cases wd with
            | nil => exact absurd rfl hne
            | cons c r => rfl
          clear he hk hne hkw
          generalize S wd = sw at *
          generalize hNr : ScrP.nrm e = en at *
          clear hNr
          generalize hFL : fil (l.take q) = fl at *
          clear hFL
          have HFl : Hid (fl.length ≤ 40) := hfl
          have hfl' := hfl.out
          cases b1 <;> cases b2
          · simp only [Bool.false_eq_true, if_false, if_true] at Hnr
            have KU := Lib.hid (Kp.new HB.out HO.out #[.int .i64 e.k, .int .i64 0, .int .i64 0] 45)
            have HO7 := Lib.hid (KU.out.o.alloc (.cells #[.int .i64 e.k, .int .i64 0, .int .i64 0] 45))
            have HB7 := Lib.hid (KU.out.b.alloc KU.out.b.size (.cells #[.int .i64 e.k, .int .i64 0, .int .i64 0] 45))
            go_wp2_with (first
              | (go_at_call 14; refine (HKd.out _).mono ?_; rintro e' w' ⟨rfl, rfl⟩)
              | (at_builtin; refine wpList_append_own_at _ rfl (.tmp 55) (.tmp 57) 29 rfl W0.heap.size 45 i0 (.agg #[.int .i64 0, .int .i64 0, .int .i64 0]) 3 24 Tryz.underlying29 hi hz0 hz1 hz2 rfl (by decide) _ fl.length _ rfl HO7.out ⟨wr.heap.size + 1, 0, none⟩ 1 1 [.int .i64 e.k, .int .i64 0, .int .i64 0] rfl rfl (KU.out.cell _ _ _ _) (three_one _ _ _) (by unfold maxLen; omega) (by omega) HB7.out.size ?_; intro v6 w6 hown6 hg6 _ hat6))
            go_roundw
            case rel => exact ⟨q + 1, by omega, rfl, Lib.hid (HB7.out.grown hg6 HB7.out.size (fun g e => (HO7.out.lt g e).1)), Lib.hid (by rw [hT2.out, Hnr.out, List.length_append, evc_snoc]; exact hown6)⟩
            case measure => have := HLT.out; simp [intOf]; omega
          · simp only [Bool.false_eq_true, if_false, if_true] at Hnr
            have KU := Lib.hid (Kp.new HB.out HO.out #[.int .i64 e.k, .int .i64 0, .int .i64 e.n] 45)
            have HO7 := Lib.hid (KU.out.o.alloc (.cells #[.int .i64 e.k, .int .i64 0, .int .i64 e.n] 45))
            have HB7 := Lib.hid (KU.out.b.alloc KU.out.b.size (.cells #[.int .i64 e.k, .int .i64 0, .int .i64 e.n] 45))
            go_wp2_with (first
              | (go_at_call 14; refine (HKd.out _).mono ?_; rintro e' w' ⟨rfl, rfl⟩)
              | (at_builtin; refine wpList_append_own_at _ rfl (.tmp 55) (.tmp 57) 29 rfl W0.heap.size 45 i0 (.agg #[.int .i64 0, .int .i64 0, .int .i64 0]) 3 24 Tryz.underlying29 hi hz0 hz1 hz2 rfl (by decide) _ fl.length _ rfl HO7.out ⟨wr.heap.size + 1, 0, none⟩ 1 1 [.int .i64 e.k, .int .i64 0, .int .i64 e.n] rfl rfl (KU.out.cell _ _ _ _) (three_one _ _ _) (by unfold maxLen; omega) (by omega) HB7.out.size ?_; intro v6 w6 hown6 hg6 _ hat6))
            go_roundw
            case rel => exact ⟨q + 1, by omega, rfl, Lib.hid (HB7.out.grown hg6 HB7.out.size (fun g e => (HO7.out.lt g e).1)), Lib.hid (by rw [hT2.out, Hnr.out, List.length_append, evc_snoc]; exact hown6)⟩
            case measure => have := HLT.out; simp [intOf]; omega
          · simp only [Bool.false_eq_true, if_false, if_true] at Hnr
            have KU := Lib.hid (Kp.new HB.out HO.out #[.int .i64 e.k, .int .i64 e.c, .int .i64 0] 45)
            have HO7 := Lib.hid (KU.out.o.alloc (.cells #[.int .i64 e.k, .int .i64 e.c, .int .i64 0] 45))
            have HB7 := Lib.hid (KU.out.b.alloc KU.out.b.size (.cells #[.int .i64 e.k, .int .i64 e.c, .int .i64 0] 45))
            go_wp2_with (first
              | (go_at_call 14; refine (HKd.out _).mono ?_; rintro e' w' ⟨rfl, rfl⟩)
              | (at_builtin; refine wpList_append_own_at _ rfl (.tmp 55) (.tmp 57) 29 rfl W0.heap.size 45 i0 (.agg #[.int .i64 0, .int .i64 0, .int .i64 0]) 3 24 Tryz.underlying29 hi hz0 hz1 hz2 rfl (by decide) _ fl.length _ rfl HO7.out ⟨wr.heap.size + 1, 0, none⟩ 1 1 [.int .i64 e.k, .int .i64 e.c, .int .i64 0] rfl rfl (KU.out.cell _ _ _ _) (three_one _ _ _) (by unfold maxLen; omega) (by omega) HB7.out.size ?_; intro v6 w6 hown6 hg6 _ hat6))
            go_roundw
            case rel => exact ⟨q + 1, by omega, rfl, Lib.hid (HB7.out.grown hg6 HB7.out.size (fun g e => (HO7.out.lt g e).1)), Lib.hid (by rw [hT2.out, Hnr.out, List.length_append, evc_snoc]; exact hown6)⟩
            case measure => have := HLT.out; simp [intOf]; omega
          · simp only [Bool.false_eq_true, if_false, if_true] at Hnr
            have KU := Lib.hid (Kp.new HB.out HO.out #[.int .i64 e.k, .int .i64 e.c, .int .i64 e.n] 45)
            have HO7 := Lib.hid (KU.out.o.alloc (.cells #[.int .i64 e.k, .int .i64 e.c, .int .i64 e.n] 45))
            have HB7 := Lib.hid (KU.out.b.alloc KU.out.b.size (.cells #[.int .i64 e.k, .int .i64 e.c, .int .i64 e.n] 45))
            go_wp2_with (first
              | (go_at_call 14; refine (HKd.out _).mono ?_; rintro e' w' ⟨rfl, rfl⟩)
              | (at_builtin; refine wpList_append_own_at _ rfl (.tmp 55) (.tmp 57) 29 rfl W0.heap.size 45 i0 (.agg #[.int .i64 0, .int .i64 0, .int .i64 0]) 3 24 Tryz.underlying29 hi hz0 hz1 hz2 rfl (by decide) _ fl.length _ rfl HO7.out ⟨wr.heap.size + 1, 0, none⟩ 1 1 [.int .i64 e.k, .int .i64 e.c, .int .i64 e.n] rfl rfl (KU.out.cell _ _ _ _) (three_one _ _ _) (by unfold maxLen; omega) (by omega) HB7.out.size ?_; intro v6 w6 hown6 hg6 _ hat6))
            go_roundw
            case rel => exact ⟨q + 1, by omega, rfl, Lib.hid (HB7.out.grown hg6 HB7.out.size (fun g e => (HO7.out.lt g e).1)), Lib.hid (by rw [hT2.out, Hnr.out, List.length_append, evc_snoc]; exact hown6)⟩
            case measure => have := HLT.out; simp [intOf]; omega
      · obtain rfl : q = n := by omega
        have i2 : ¬ (q : Int) < (q : Int) := by omega
        have hown := HO.out
        rw [List.take_of_length_le (by rw [HN.out]; exact Nat.le_refl _), HK.out] at hown
        obtain ⟨A7, m7, rfl, hm7, hs7, hl7⟩ := own_formN hown (by decide)
        have hX6 : X6 < W0.heap.size := (hj5.out.bx 0 rfl).lt
        have hs7' : Hid (Sees (wr.setCell ⟨X6, 4, none⟩ (.slice A7 k m7)) wr.heap.size A7 (evc (fil l))) := Lib.hid (by
          have h := hown.kept (grown_cell wr X6 4 (.slice A7 k m7)) (.inr fun e => by have := (hl7 _ e).1; omega)
          obtain ⟨A8, m8, e8, _, h8, _⟩ := own_formN h (by decide)
          injection e8 with e1 _ e2
          subst e1 e2
          simpa [World.setCell] using h8)
        obtain ⟨f0, f1, f2, f3, f4⟩ := (hjr.out.bx 0 rfl).f5
        have hs4' := Lib.hid ((hs4.out.on HB.out).on (W' := wr) (Below.refl _ _))
        go_wp2
        have hjw : Hid (JS w [(X6, #[.bool m, .bool g, .int .i64 cp, .int .u64 bl, .slice A7 k m7]), (X4, #[.bool m, .bool g, .int .i64 cp, .int .u64 bl, .slice A3 k m3]), (w.heap.size, #[.bool m, .bool g, .int .i64 cp, .int .u64 bl, .slice A q c])] (wr.setCell ⟨X6, 4, none⟩ (.slice A7 k m7))) := Lib.hid (J.put hjr.out (by omega) (fun x hx => by simp only [List.mem_cons, List.not_mem_nil, or_false] at hx; rcases hx with rfl | rfl <;> simp only <;> omega) 4 (.slice A7 k m7))
        have hz9 : (wr.setCell ⟨X6, 4, none⟩ (.slice A7 k m7)).heap.size = wr.heap.size := by simp [World.setCell]
        have hs9 : Hid (Sees (wr.setCell ⟨X6, 4, none⟩ (.slice A7 k m7)) (wr.setCell ⟨X6, 4, none⟩ (.slice A7 k m7)).heap.size A7 (evc (fil l))) := Lib.hid (by rw [hz9]; exact hs7'.out)
        have hs8 : Hid (Sees (wr.setCell ⟨X6, 4, none⟩ (.slice A7 k m7)) (wr.setCell ⟨X6, 4, none⟩ (.slice A7 k m7)).heap.size A3 (evc (fil l))) := Lib.hid (by
          have hw3 : Sees W0 X6 A3 (evc (fil l)) := hs4x.out
          rw [hz9]
          exact (hw3.kept fun b o hb => (World.cell?_setCell_other _ _ _ _ (fun e => by have := congrArg Addr.block e; simp only at this; omega)).trans (HB.out.cell (p := ⟨b, o, none⟩) (Nat.lt_trans hb hX6))).more (by have := HB.out.size; omega))
        generalize wr.setCell ⟨X6, 4, none⟩ (.slice A7 k m7) = Wr at *
        clear hz9 hs7' hs4' d0 d1 d2 d3 d4 f0 f1 f2 f3 f4 hjr HO hown HB hl7
        have HX : Hid (∀ W, Below Wr.heap.size Wr W → JS w [(X6, #[.bool m, .bool g, .int .i64 cp, .int .u64 bl, .slice A7 k m7]), (X4, #[.bool m, .bool g, .int .i64 cp, .int .u64 bl, .slice A3 k m3]), (w.heap.size, #[.bool m, .bool g, .int .i64 cp, .int .u64 bl, .slice A q c])] W ∧ Sees W W.heap.size A7 (evc (fil l)) ∧ Sees W W.heap.size A3 (evc (fil l))) := Lib.hid fun W h => ⟨J.next hjw.out h, hs9.out.on h, hs8.out.on h⟩
        refine Held.wp_region_invt 15 (BackF m g cp bl k (fil l) (.agg #[.bool m, .bool g, .int .i64 cp, .int .u64 bl, .slice A q c]) (.agg #[.bool m, .bool g, .int .i64 cp, .int .u64 bl, .slice A3 k m3]) (.agg #[.bool m, .bool g, .int .i64 cp, .int .u64 bl, .slice A7 k m7]) s) (by kernel_rfl) (by kernel_rfl) ?_ ?_ ?_
        · intro i v W W' h hb
          unfold BackF at h ⊢
          split at h <;> first | exact h | exact RV.next h hb
        · intro i o x W K hi ho hB hd hK
          have hjx := Lib.hid (HX.out W hB)
          match i, ho with
          | 0, ho =>
            obtain rfl := Option.some.inj ho
            simp only [Inv.fill, Act.put, List.setIfInBounds_toArray, List.set_cons_zero, List.set_cons_succ, List.take_succ_cons, List.take_zero] at hK ⊢
            clear hd ho 
            rw [wpOp]
            refine (if_pos rfl).mpr (.inl ?_)
            go_simp
            exact hK _ _ (Below.refl _ _) rfl
          | 1, ho =>
            obtain rfl := Option.some.inj ho
            have e0 : x 0 = .int .i64 0 := hd ⟨0, .data⟩ (by simp) rfl
            simp only [Inv.fill, Act.put, List.setIfInBounds_toArray, List.set_cons_zero, List.set_cons_succ, List.take_succ_cons, List.take_zero, e0] at hK ⊢
            clear hd ho e0
            rw [wpOp]
            refine (if_pos rfl).mpr (.inl ?_)
            go_simp
            exact hK _ _ (Below.refl _ _) rfl
          | 2, ho =>
            obtain rfl := Option.some.inj ho
            have e1 : x 1 = .bool true := hd ⟨1, .data⟩ (by simp) rfl
            simp only [Inv.fill, Act.put, List.setIfInBounds_toArray, List.set_cons_zero, List.set_cons_succ, List.take_succ_cons, List.take_zero, e1] at hK ⊢
            clear hd ho e1
            rw [wpOp]
            refine (if_pos rfl).mpr (.inl ?_)
            go_simp
            exact hK _ _ (Below.refl _ _) rfl
          | 3, ho =>
            obtain rfl := Option.some.inj ho
            have e2 : x 2 = .bool true := hd ⟨2, .guard⟩ (by simp) rfl
            simp only [Inv.fill, Act.put, List.setIfInBounds_toArray, List.set_cons_zero, List.set_cons_succ, List.take_succ_cons, List.take_zero, e2] at hK ⊢
            clear hd ho e2
            rw [wpOp]
            refine (if_pos rfl).mpr (.inl ?_)
            obtain ⟨c0, c1, c2, c3, c4⟩ := (hjx.out.1.bx 1 rfl).c5
            go_simp
            exact hK _ _ (Below.refl _ _) rfl
          | 4, ho =>
            obtain rfl := Option.some.inj ho
            have e3 : x 3 = .agg #[.bool m, .bool g, .int .i64 cp, .int .u64 bl, .slice A3 k m3] := hd ⟨3, .data⟩ (by simp) rfl
            have e2 : x 2 = .bool true := hd ⟨2, .guard⟩ (by simp) rfl
            simp only [Inv.fill, Act.put, List.setIfInBounds_toArray, List.set_cons_zero, List.set_cons_succ, List.take_succ_cons, List.take_zero, e3, e2] at hK ⊢
            clear hd ho e3 e2
            rw [wpOp]
            refine (if_pos rfl).mpr (.inl ?_)
            have hc := HO2.out A3 m3 W hjx.out.2.2
            go_simp
            refine hc.mono ?_
            rintro e w2 ⟨A', c', rfl, h2⟩
            exact hK _ _ h2.out.1 ⟨A', c', rfl, h2.out.2⟩
          | 5, ho =>
            obtain rfl := Option.some.inj ho
            have e2 : x 2 = .bool true := hd ⟨2, .guard⟩ (by simp) rfl
            simp only [Inv.fill, Act.put, List.setIfInBounds_toArray, List.set_cons_zero, List.set_cons_succ, List.take_succ_cons, List.take_zero, e2] at hK ⊢
            clear hd ho e2
            rw [wpOp]
            refine (if_pos rfl).mpr (.inl ?_)
            obtain ⟨c0, c1, c2, c3, c4⟩ := (hjx.out.1.bx 0 rfl).c5
            go_simp
            exact hK _ _ (Below.refl _ _) rfl
          | 6, ho =>
            obtain rfl := Option.some.inj ho
            have h4 := hd ⟨4, .data⟩ (by simp) rfl
            have hc : Calls Tryz.prog 13 #[x 4, .agg #[.bool m, .bool g, .int .i64 cp, .int .u64 bl, .slice A7 k m7]] W (Says W (.bool true)) := by
              have h5 : RV m g cp bl k (fil l) (x 4) W := BackF.rv h4
              clear hK hd
              obtain ⟨A4, m4, e4, hs44⟩ := h5
              rw [e4]
              exact HSm.out A4 A7 m4 m7 W hs44 hjx.out.2.1
            clear h4
            have e5 : x 5 = .agg #[.bool m, .bool g, .int .i64 cp, .int .u64 bl, .slice A7 k m7] := hd ⟨5, .data⟩ (by simp) rfl
            have e2 : x 2 = .bool true := hd ⟨2, .guard⟩ (by simp) rfl
            simp only [Inv.fill, Act.put, List.setIfInBounds_toArray, List.set_cons_zero, List.set_cons_succ, List.take_succ_cons, List.take_zero, e5, e2] at hK ⊢
            clear hd ho e5 e2
            rw [wpOp]
            refine (if_pos rfl).mpr (.inl ?_)
            go_simp
            refine hc.mono ?_
            rintro e w2 ⟨rfl, h2⟩
            exact hK _ _ h2 rfl
          | 7, ho =>
            obtain rfl := Option.some.inj ho
            have e2 : x 2 = .bool true := hd ⟨2, .data⟩ (by simp) rfl
            have e6 : x 6 = .bool true := hd ⟨6, .data⟩ (by simp) rfl
            simp only [Inv.fill, Act.put, List.setIfInBounds_toArray, List.set_cons_zero, List.set_cons_succ, List.take_succ_cons, List.take_zero, e2, e6] at hK ⊢
            clear hd ho e2 e6
            rw [wpOp]
            refine (if_pos rfl).mpr (.inl ?_)
            go_simp
            exact hK _ _ (Below.refl _ _) rfl
          | 8, ho =>
            obtain rfl := Option.some.inj ho
            have e7 : x 7 = .bool true := hd ⟨7, .data⟩ (by simp) rfl
            simp only [Inv.fill, Act.put, List.setIfInBounds_toArray, List.set_cons_zero, List.set_cons_succ, List.take_succ_cons, List.take_zero, e7] at hK ⊢
            clear hd ho e7
            rw [wpOp]
            refine (if_pos rfl).mpr (.inl ?_)
            go_simp
            exact hK _ _ (Below.refl _ _) rfl
          | 9, ho =>
            obtain rfl := Option.some.inj ho
            have e8 : x 8 = .bool true := hd ⟨8, .guard⟩ (by simp) rfl
            simp only [Inv.fill, Act.put, List.setIfInBounds_toArray, List.set_cons_zero, List.set_cons_succ, List.take_succ_cons, List.take_zero, e8] at hK ⊢
            clear hd ho e8
            rw [wpOp]
            refine (if_pos rfl).mpr (.inl ?_)
            obtain ⟨c0, c1, c2, c3, c4⟩ := (hjx.out.1.bx 1 rfl).c5
            go_simp
            exact hK _ _ (Below.refl _ _) rfl
          | 10, ho =>
            obtain rfl := Option.some.inj ho
            have e9 : x 9 = .agg #[.bool m, .bool g, .int .i64 cp, .int .u64 bl, .slice A3 k m3] := hd ⟨9, .data⟩ (by simp) rfl
            have e8 : x 8 = .bool true := hd ⟨8, .guard⟩ (by simp) rfl
            simp only [Inv.fill, Act.put, List.setIfInBounds_toArray, List.set_cons_zero, List.set_cons_succ, List.take_succ_cons, List.take_zero, e9, e8] at hK ⊢
            clear hd ho e9 e8
            rw [wpOp]
            refine (if_pos rfl).mpr (.inl ?_)
            have hc := HP2.out A3 m3 W (J.below hjx.out.1) hjx.out.2.2
            go_simp
            refine hc.mono ?_
            rintro e w2 ⟨rfl, h2⟩
            exact hK _ _ h2 rfl
          | 11, ho =>
            obtain rfl := Option.some.inj ho
            have e8 : x 8 = .bool true := hd ⟨8, .guard⟩ (by simp) rfl
            simp only [Inv.fill, Act.put, List.setIfInBounds_toArray, List.set_cons_zero, List.set_cons_succ, List.take_succ_cons, List.take_zero, e8] at hK ⊢
            clear hd ho e8
            rw [wpOp]
            refine (if_pos rfl).mpr (.inl ?_)
            obtain ⟨c0, c1, c2, c3, c4⟩ := (hjx.out.1.bx 2 rfl).c5
            go_simp
            exact hK _ _ (Below.refl _ _) rfl
          | 12, ho =>
            obtain rfl := Option.some.inj ho
            have e11 : x 11 = .agg #[.bool m, .bool g, .int .i64 cp, .int .u64 bl, .slice A q c] := hd ⟨11, .data⟩ (by simp) rfl
            have e8 : x 8 = .bool true := hd ⟨8, .guard⟩ (by simp) rfl
            simp only [Inv.fill, Act.put, List.setIfInBounds_toArray, List.set_cons_zero, List.set_cons_succ, List.take_succ_cons, List.take_zero, e11, e8] at hK ⊢
            clear hd ho e11 e8
            rw [wpOp]
            refine (if_pos rfl).mpr (.inl ?_)
            have hc := HP1.out W (J.below hjx.out.1)
            go_simp
            refine hc.mono ?_
            rintro e w2 ⟨rfl, h2⟩
            exact hK _ _ h2 rfl
          | 13, ho =>
            obtain rfl := Option.some.inj ho
            have e10 : x 10 = .string s := hd ⟨10, .data⟩ (by simp) rfl
            have e12 : x 12 = .string s := hd ⟨12, .data⟩ (by simp) rfl
            have e8 : x 8 = .bool true := hd ⟨8, .guard⟩ (by simp) rfl
            simp only [Inv.fill, Act.put, List.setIfInBounds_toArray, List.set_cons_zero, List.set_cons_succ, List.take_succ_cons, List.take_zero, e10, e12, e8] at hK ⊢
            clear hd ho e10 e12 e8
            rw [wpOp]
            refine (if_pos rfl).mpr (.inl ?_)
            go_simp
            exact hK _ _ (Below.refl _ _) rfl
          | 14, ho =>
            obtain rfl := Option.some.inj ho
            have e8 : x 8 = .bool true := hd ⟨8, .data⟩ (by simp) rfl
            have e13 : x 13 = .bool true := hd ⟨13, .data⟩ (by simp) rfl
            simp only [Inv.fill, Act.put, List.setIfInBounds_toArray, List.set_cons_zero, List.set_cons_succ, List.take_succ_cons, List.take_zero, e8, e13] at hK ⊢
            clear hd ho e8 e13
            rw [wpOp]
            refine (if_pos rfl).mpr (.inl ?_)
            go_simp
            exact hK _ _ (Below.refl _ _) rfl
          | n + 15, ho => exact absurd hi (by omega)
        · intro x W hB hx
          have e14 : x 14 = .bool true := hx 14 (by decide)
          have hjx := Lib.hid (HX.out W hB)
          simp only [Inv.fill, Act.put, List.setIfInBounds_toArray, List.set_cons_zero, List.set_cons_succ, List.take_succ_cons, List.take_zero, List.drop_succ_cons, List.drop_zero, e14]
          clear hx e14
          change wpList _ _ _ _ _ _
          go_wp2
          go_ret
          exact ⟨rfl, J.below hjx.out.1⟩
  · have i1 : (40 : Int) < (n : Int) := by omega
    have htc : tvc t.m t.g t.cap t.bl A n c = #[.bool t.m, .bool t.g, .int .i64 t.cap, .int .u64 t.bl, .slice A n c] := rfl
    rw [htc] at hj0 HA
    have htv : tv t A n c = .agg #[.bool t.m, .bool t.g, .int .i64 t.cap, .int .u64 t.bl, .slice A n c] := rfl
    rw [htv]
    clear hn ht hk hE hs htv htc
    go_enter Tryz.func5, Tryz.ntmps5
    go_wp2_with (go_at_call 7; refine (HA.out _ hj0.out).mono ?_; rintro e w1 ⟨rfl, h1⟩; have hj1 : Hid (JS w [(w.heap.size, #[.bool t.m, .bool t.g, .int .i64 t.cap, .int .u64 t.bl, .slice A n c])] w1) := Lib.hid (J.next hj0.out h1); obtain ⟨c0, c1, c2, c3, c4⟩ := (hj1.out.bx 0 rfl).c5)
    go_ret
    exact ⟨rfl, J.below hj1.out⟩
end Go.Proofs.YtjkpmppjnklajaaGreatDoor.Scr
