/- The reference's Parse. -/
import Derived.Test.YthpbcbbiampamaaGreatDoorScrR
import Derived.Test.YthpbcbbiampamaaGreatDoorScrS
import Derived.Deep.CutRange
namespace Go.Proofs.YthpbcbbiampamaaGreatDoor.Scr
open Go.RowKit Go.Maps Go.Proofs.YthpbcbbiampamaaGreatDoor.ScrP Go.Proofs.YthpbcbbiampamaaGreatDoor.Box Go.Proofs.YthpbcbbiampamaaGreatDoor.Held Go.Proofs.YthpbcbbiampamaaGreatDoor.Sees Go.Proofs.YthpbcbbiampamaaGreatDoor.Jrn
set_option linter.unusedVariables false
set_option linter.unusedSimpArgs false
set_option maxRecDepth 100000

theorem prs_short {l : By} (h : (sp l).length < 4) : prs l = none := by
  unfold prs
  revert h
  generalize sp l = q
  intro h
  match q, h with
  | [], _ => rfl
  | [_], _ => rfl
  | [_, _], _ => rfl
  | [_, _, _], _ => rfl
  | _ :: _ :: _ :: _ :: _, h => simp at h; omega
theorem prs_four {l : By} {w0 w1 w2 w3 : By} (h0 : (sp l)[0]? = some w0) (h1 : (sp l)[1]? = some w1) (h2 : (sp l)[2]? = some w2) (h3 : (sp l)[3]? = some w3) :
    prs l = if (w0 = wMains ∨ w0 = wNone) ∧ (w1 = wGen ∨ w1 = wNone) then (num w2).bind fun c => (bit w3).bind fun b => (ev ((sp l).drop 4)).map fun es => ⟨decide (w0 = wMains), decide (w1 = wGen), c, b, es⟩ else none := by
  unfold prs
  revert h0 h1 h2 h3
  generalize sp l = q
  intro h0 h1 h2 h3
  match q, h0, h1, h2, h3 with
  | a :: b :: c :: d :: r, h0, h1, h2, h3 =>
    simp only [List.getElem?_cons_zero, List.getElem?_cons_succ, Option.some.injEq] at h0 h1 h2 h3
    subst h0 h1 h2 h3
    rfl
theorem num_rn (w : By) : num w = if (rn w).2 then some (rn w).1 else none := by
  unfold rn
  cases num w <;> rfl
theorem bit_rb (w : By) : bit w = if (rb w).2 then some (rb w).1 else none := by
  unfold rb
  cases bit w <;> rfl
theorem zap {w W : World} {D : Nat} (hD : Bx W D #[.bool false, .bool false, .int .i64 0, .int .u64 0, .slice none 0 0]) (hw : Below w.heap.size w W) (hwD : w.heap.size ≤ D) :
    Below w.heap.size w (((((W.setCell ⟨D, 0, none⟩ (.bool false)).setCell ⟨D, 1, none⟩ (.bool false)).setCell ⟨D, 2, none⟩ (.int .i64 0)).setCell ⟨D, 3, none⟩ (.int .u64 0)).setCell ⟨D, 4, none⟩ (.slice none 0 0)) ∧
    Bx (((((W.setCell ⟨D, 0, none⟩ (.bool false)).setCell ⟨D, 1, none⟩ (.bool false)).setCell ⟨D, 2, none⟩ (.int .i64 0)).setCell ⟨D, 3, none⟩ (.int .u64 0)).setCell ⟨D, 4, none⟩ (.slice none 0 0)) D #[.bool false, .bool false, .int .i64 0, .int .u64 0, .slice none 0 0] :=
  ⟨((((hw.setCell hwD _).setCell hwD _).setCell hwD _).setCell hwD _).setCell hwD _, ((((hD.set (j := 0) _).set (j := 1) _).set (j := 2) _).set (j := 3) _).set (j := 4) _⟩

/-- while an event is read: its box, the tick, the row of events -/
structure Lp (wc : World) (B N : Nat) (ec bc : Array Value) (v : Value) (es : List E) (W : World) : Prop where
  j : J wc W [(N, ec), (B, bc)]
  o : W.ownsRow (B + 1) 45 3 v es.length (evc es)
  l : ∀ g, v.ownBlock = some g → g < N
  n : B < N
  b : wc.heap.size ≤ B
  sz : W.heap.size = N + 1
theorem Lp.new {wc wr : World} {B : Nat} {bc : Array Value} {v : Value} {es : List E} (hj : J wc wr [(B, bc)]) (ho : wr.ownsRow (B + 1) 45 3 v es.length (evc es)) (hb : wc.heap.size ≤ B) (cs : Array Value) (t : TypeId) : Lp wc B wr.heap.size cs bc v es (wr.alloc (.cells cs t)) :=
  ⟨hj.push cs t, ho.alloc _, fun g e => (ho.lt g e).2, (hj.bx 0 rfl).lt, hb, by simp⟩
theorem Lp.set {wc W : World} {B N : Nat} {ec bc : Array Value} {v : Value} {es : List E} (h : Lp wc B N ec bc v es W) (j : Nat) (u : Value) : Lp wc B N (ec.setIfInBounds j u) bc v es (W.setCell ⟨N, j, none⟩ u) :=
  ⟨h.j.put (by have := h.n; have := h.b; omega) (fun x hx => by rw [List.mem_singleton.1 hx]; have := h.n; show B ≠ N; omega) j u, h.o.kept (grown_cell _ _ _ _) (.inr fun e => by have := h.l _ e; omega), h.l, h.n, h.b, by rw [← h.sz]; simp [World.setCell]⟩
theorem Lp.cell {wc W : World} {B N : Nat} {ec bc : Array Value} {v : Value} {es : List E} (h : Lp wc B N ec bc v es W) (t : TypeId) (a b c : Value) : ∀ j u, [a, b, c][j]? = some u → (W.alloc (.cells #[a, b, c] t)).cell? ((⟨N + 1, 0, none⟩ : Addr).add j) = some u := by
  have := new_cell3 W t a b c
  rwa [h.sz] at this
theorem fk_any (w : By) : (kd w = none ∧ (fk w 7).1 = -1) ∨ ∃ k c m, kd w = some (k, c, m) ∧ fk w 7 = (k, c, m) ∧ 0 ≤ k := by
  by_cases h : w = []
  · subst h
    exact .inl ⟨by decide, by decide⟩
  · exact fk_all w h
theorem set_low {w W : World} {D : Nat} {x0 x1 x2 x3 x4 y0 y1 y2 y3 y4 : Value} (hD : Bx W D #[x0, x1, x2, x3, x4]) (hw : Below w.heap.size w W) (hwD : w.heap.size ≤ D) :
    Below w.heap.size w (((((W.setCell ⟨D, 0, none⟩ y0).setCell ⟨D, 1, none⟩ y1).setCell ⟨D, 2, none⟩ y2).setCell ⟨D, 3, none⟩ y3).setCell ⟨D, 4, none⟩ y4) ∧
    Bx (((((W.setCell ⟨D, 0, none⟩ y0).setCell ⟨D, 1, none⟩ y1).setCell ⟨D, 2, none⟩ y2).setCell ⟨D, 3, none⟩ y3).setCell ⟨D, 4, none⟩ y4) D #[y0, y1, y2, y3, y4] :=
  ⟨((((hw.setCell hwD _).setCell hwD _).setCell hwD _).setCell hwD _).setCell hwD _, ((((hD.set (j := 0) _).set (j := 1) _).set (j := 2) _).set (j := 3) _).set (j := 4) _⟩
theorem own_low {W : World} {D B j : Nat} {u : Value} {e : TypeId} {s n : Nat} {v : Value} {xs : List Value} (hDB : D < B) (h : W.ownsRow (B + 1) e s v n xs) : (W.setCell ⟨D, j, none⟩ u).ownsRow (B + 1) e s v n xs :=
  h.kept (grown_cell _ _ _ _) (.inr fun e => by have := (h.lt _ e).1; omega)

set_option maxHeartbeats 12800000 in
theorem rParse_any (l : By) (hl : l.length ≤ 100000) (w : World) : Calls Tryz.prog 12 #[.string (S l)] w (ParsePost l w) := by
  obtain ⟨i0, hi, hz0, hz1, hz2⟩ := info_parts info_rE
  have hsz := s_size l
  by_cases hbig : 4096 < l.length
  · have hp : pr l = (t0, 13) := by unfold pr; rw [if_pos hbig]
    have i1 : (4096 : Int) < ((S l).size : Int) := by omega
    unfold ParsePost
    rw [hp]
    unfold tv tvc t0
    simp only
    clear hsz hl
    generalize S l = s at *
    have hj0 := Lib.hid (Bx.new w #[.bool false, .bool false, .int .i64 0, .int .u64 0, .slice none 0 0] 31)
    obtain ⟨q0, q1, q2, q3, q4⟩ := hj0.out.c5
    obtain ⟨f0, f1, f2, f3, f4⟩ := hj0.out.f5
    go_enter Tryz.func12, Tryz.ntmps12
    go_wp2
    refine bodyPost_ret (v := .tuple #[.agg #[.bool false, .bool false, .int .i64 0, .int .u64 0, .slice none 0 0], .int .i64 13]) (by simp [results, Tryz.results12, go_sem, *]) rfl ⟨none, 0, rfl, Lib.hid ⟨?_, .inl rfl, Nat.le_refl _⟩⟩
    exact below_box
  · have i1 : ¬ (4096 : Int) < ((S l).size : Int) := by omega
    obtain ⟨m1, m2⟩ := sp_small l.length l (Nat.le_refl _)
    have hq5 : (sp l).length ≤ 5000 := by omega
    have HSp := Lib.hid (rSplit_any l (w.alloc (.cells #[.bool false, .bool false, .int .i64 0, .int .u64 0, .slice none 0 0] 31)) (by omega))
    have HBAD : Hid (prs l = none → pr l = (t0, 11)) := Lib.hid fun h => by unfold pr; rw [if_neg hbig, h]
    have HGOOD : Hid (∀ t, prs l = some t → pr l = (t, 0)) := Lib.hid fun t h => by unfold pr; rw [if_neg hbig, h]
    have HSH : Hid ((sp l).length < 4 → prs l = none) := Lib.hid prs_short
    have HFO : Hid (∀ w0 w1 w2 w3, (sp l)[0]? = some w0 → (sp l)[1]? = some w1 → (sp l)[2]? = some w2 → (sp l)[3]? = some w3 → prs l = if (w0 = wMains ∨ w0 = wNone) ∧ (w1 = wGen ∨ w1 = wNone) then (num w2).bind fun c => (bit w3).bind fun b => (ev ((sp l).drop 4)).map fun es => ⟨decide (w0 = wMains), decide (w1 = wGen), c, b, es⟩ else none) := Lib.hid fun w0 w1 w2 w3 h0 h1 h2 h3 => prs_four h0 h1 h2 h3
    have HWL : Hid (∀ x ∈ sp l, x.length ≤ 5000) := Lib.hid fun x hx => by have := m2 x hx; omega
    show Calls _ _ _ _ fun e w' => ∃ A c, e = .returned (.tuple #[tv (pr l).1 A (pr l).1.es.length c, .int .i64 (pr l).2]) ∧ Hid (Below w.heap.size w w' ∧ Sees w' w'.heap.size A (evc (pr l).1.es) ∧ (pr l).1.es.length ≤ c)
    have hj0 := Lib.hid (Bx.new w #[.bool false, .bool false, .int .i64 0, .int .u64 0, .slice none 0 0] 31)
    have HB0 : Hid (Below w.heap.size w (w.alloc (.cells #[.bool false, .bool false, .int .i64 0, .int .u64 0, .slice none 0 0] 31))) := Lib.hid below_box
    clear hbig hl m1 m2 hsz
    generalize pr l = PR at *
    generalize prs l = PS at *
    generalize sp l = q at *
    go_enter Tryz.func12, Tryz.ntmps12
    go_upto_region 4 with (go_at_call 29; refine HSp.out.mono ?_; rintro e W0 ⟨v, rfl, hown, hbel⟩; obtain ⟨A, cA, rfl, hcA, hsee, _⟩ := own_formN hown (by decide); have HSEE := Lib.hid hsee; have HW0 : Hid (Below w.heap.size w W0) := Lib.hid (HB0.out.trans (hbel.mono (by simp))); have HD : Hid (Bx W0 w.heap.size #[.bool false, .bool false, .int .i64 0, .int .u64 0, .slice none 0 0]) := Lib.hid (hj0.out.next hbel); clear hsee hown hbel HSp hj0 HB0)
    have hwD : w.heap.size < W0.heap.size := HD.out.lt
    by_cases h4 : q.length < 4
    · have i4 : (q.length : Int) < 4 := by omega
      obtain rfl := HBAD.out (HSH.out h4)
      obtain ⟨q0, q1, q2, q3, q4⟩ := HD.out.c5
      obtain ⟨f0, f1, f2, f3, f4⟩ := HD.out.f5
      have hz := zap HD.out HW0.out (Nat.le_refl _)
      clear HFO HGOOD HBAD HSH HWL h4
      go_wp2
      obtain ⟨q0, q1, q2, q3, q4⟩ := hz.2.c5
      refine bodyPost_ret (v := .tuple #[.agg #[.bool false, .bool false, .int .i64 0, .int .u64 0, .slice none 0 0], .int .i64 11]) (by simp [results, Tryz.results12, go_sem, q0, q1, q2, q3, q4]) rfl ⟨none, 0, rfl, Lib.hid ⟨hz.1, .inl rfl, Nat.le_refl _⟩⟩
    · have hq4 : 4 ≤ q.length := by omega
      have i4 : ¬ (q.length : Int) < 4 := by omega
      obtain ⟨w0, x0⟩ : ∃ w0, q[0]? = some w0 := ⟨_, List.getElem?_eq_getElem (by omega)⟩
      obtain ⟨w1, x1⟩ : ∃ w1, q[1]? = some w1 := ⟨_, List.getElem?_eq_getElem (by omega)⟩
      obtain ⟨w2, x2⟩ : ∃ w2, q[2]? = some w2 := ⟨_, List.getElem?_eq_getElem (by omega)⟩
      obtain ⟨w3, x3⟩ : ∃ w3, q[3]? = some w3 := ⟨_, List.getElem?_eq_getElem (by omega)⟩
      have hFO := HFO.out w0 w1 w2 w3 x0 x1 x2 x3
      have hA : ∃ b o, A = some ⟨b, o, none⟩ ∧ b < W0.heap.size ∧ ∀ j x, q[j]? = some x → W0.cell? ⟨b, o + j, none⟩ = some (.string (S x)) := by
        rcases HSEE.out with h | ⟨b, o, h1, h2, h3⟩
        · have := strs_len q; rw [h] at this; simp at this; omega
        · exact ⟨b, o, h1, h2, fun j x hx => h3 j _ (strs_at hx)⟩
      obtain ⟨ba, oa, rfl, hba, hcell⟩ := hA
      have c0 := hcell 0 w0 x0
      have c1 := hcell 1 w1 x1
      have c2 := hcell 2 w2 x2
      have c3 := hcell 3 w3 x3
      rw [Nat.add_zero] at c0
      have j0 : (0 : Int) < (q.length : Int) := by omega
      have j1 : (1 : Int) < (q.length : Int) := by omega
      have j2 : (2 : Int) < (q.length : Int) := by omega
      have j3 : (3 : Int) < (q.length : Int) := by omega
      have HC := Lib.hid hcell
      have HL2 := Lib.hid (HWL.out w2 (List.mem_of_getElem? x2))
      have HL3 := Lib.hid (HWL.out w3 (List.mem_of_getElem? x3))
      have wl : ∀ (x k : By), ((S x).toList == k) = decide (x = k) := fun x k => by
        rw [s_list]
        by_cases h : x = k
        · rw [decide_eq_true h, h]; simp
        · rw [decide_eq_false h]; exact beq_eq_false_iff_ne.2 h
      have em : ((S w0).toList == [109, 97, 105, 110, 115]) = decide (w0 = wMains) := wl w0 wMains
      have en : ((S w0).toList == [110, 111, 110, 101]) = decide (w0 = wNone) := wl w0 wNone
      have eg : ((S w1).toList == [103, 101, 110]) = decide (w1 = wGen) := wl w1 wGen
      have eo : ((S w1).toList == [110, 111, 110, 101]) = decide (w1 = wNone) := wl w1 wNone
      clear wl
      by_cases hgood : (w0 = wMains ∨ w0 = wNone) ∧ (w1 = wGen ∨ w1 = wNone)
      · have hPS : PS = (num w2).bind fun c => (bit w3).bind fun b => (ev (q.drop 4)).map fun es => ⟨decide (w0 = wMains), decide (w1 = wGen), c, b, es⟩ := by rw [hFO, if_pos hgood]
        have HWG : Hid ((decide (w0 = wMains) = true ∧ decide (w1 = wGen) = true) ∨ (decide (w0 = wMains) = true ∧ decide (w1 = wGen) = false ∧ decide (w1 = wNone) = true) ∨ (decide (w0 = wMains) = false ∧ decide (w0 = wNone) = true ∧ decide (w1 = wGen) = true) ∨ (decide (w0 = wMains) = false ∧ decide (w0 = wNone) = true ∧ decide (w1 = wGen) = false ∧ decide (w1 = wNone) = true)) := Lib.hid (by
          simp only [decide_eq_false_iff_not, decide_eq_true_eq]
          by_cases a0 : w0 = wMains
          · by_cases a1 : w1 = wGen
            · exact .inl ⟨a0, a1⟩
            · exact .inr (.inl ⟨a0, a1, hgood.2.resolve_left a1⟩)
          · by_cases a1 : w1 = wGen
            · exact .inr (.inr (.inl ⟨a0, hgood.1.resolve_left a0, a1⟩))
            · exact .inr (.inr (.inr ⟨a0, hgood.1.resolve_left a0, a1, hgood.2.resolve_left a1⟩)))
        have HN2 := Lib.hid fun W => rnum_any w2 W (by have := HL2.out; omega)
        have HN3 : Hid (∀ W, Calls Tryz.prog 31 #[.string (S w3), .int .u64 18446744073709551615] W fun e w' => e = .returned (.tuple #[.int .u64 ((rb w3).1 : Nat), .bool (rb w3).2]) ∧ W = w') := Lib.hid fun W => by
          have := rdig_any 18446744073709551615 w3 W (by decide) (by decide) (by have := HL3.out; omega)
          rw [← rb_eq] at this
          exact this
        rw [num_rn w2, bit_rb w3] at hPS
        obtain ⟨z, hz1⟩ : ∃ z, (rn w2).1 = z := ⟨_, rfl⟩
        obtain ⟨o1, hz2⟩ : ∃ z, (rn w2).2 = z := ⟨_, rfl⟩
        obtain ⟨u, hz3⟩ : ∃ z, (rb w3).1 = z := ⟨_, rfl⟩
        obtain ⟨o2, hz4⟩ : ∃ z, (rb w3).2 = z := ⟨_, rfl⟩
        rw [hz1, hz2] at HN2 hPS
        rw [hz3, hz4] at HN3 hPS
        obtain ⟨s2, hs2⟩ : ∃ z, S w2 = z := ⟨_, rfl⟩
        obtain ⟨s3, hs3⟩ : ∃ z, S w3 = z := ⟨_, rfl⟩
        rw [hs2] at HN2 c2
        rw [hs3] at HN3 c3
        have HPS := Lib.hid hPS
        clear HFO hFO hgood hPS HSH HSEE hcell x0 x1 x2 x3 h4 HL2 HL3 hz1 hz2 hz3 hz4 hs2 hs3
        generalize decide (w0 = wMains) = m0 at *
        generalize decide (w0 = wNone) = dn at *
        generalize decide (w1 = wGen) = g0 at *
        generalize decide (w1 = wNone) = do_ at *
        generalize S w0 = s0 at *
        generalize S w1 = s1 at *
        go_cut [54] from 28 to 54 (fun s54 wx => s54 = .bool false ∧ wx = W0)
        case first =>
          clear HPS HN2 HN3 HGOOD HBAD HWL HC c2 c3 j2 j3
          rcases HWG.out with ⟨rfl, rfl⟩ | ⟨rfl, rfl, rfl⟩ | ⟨rfl, rfl, rfl⟩ | ⟨rfl, rfl, rfl, rfl⟩
          all_goals
            clear HWG
            go_wp2_with fail
            go_meet
            exact ⟨rfl, rfl⟩
        case rest =>
          clear HWG
          obtain ⟨rfl, rfl⟩ := hcut
          cases o1
          · obtain rfl := HBAD.out HPS.out
            clear HPS HGOOD HBAD HWL HC
            obtain ⟨q0, q1, q2, q3, q4⟩ := HD.out.c5
            obtain ⟨f0, f1, f2, f3, f4⟩ := HD.out.f5
            have hz := zap HD.out HW0.out (Nat.le_refl _)
            go_wp2_with (first | (go_at_call 30; ((with_reducible refine (HN2.out _).mono ?_); rintro e w' ⟨rfl, rfl⟩)) | (go_at_call 31; ((with_reducible refine (HN3.out _).mono ?_); rintro e w' ⟨rfl, rfl⟩)))
            obtain ⟨q0, q1, q2, q3, q4⟩ := hz.2.c5
            refine bodyPost_ret (v := .tuple #[.agg #[.bool false, .bool false, .int .i64 0, .int .u64 0, .slice none 0 0], .int .i64 11]) (by simp [results, Tryz.results12, go_sem, q0, q1, q2, q3, q4]) rfl ⟨none, 0, rfl, Lib.hid ⟨hz.1, .inl rfl, Nat.le_refl _⟩⟩
          · cases o2
            · obtain rfl := HBAD.out HPS.out
              clear HPS HGOOD HBAD HWL HC
              obtain ⟨q0, q1, q2, q3, q4⟩ := HD.out.c5
              obtain ⟨f0, f1, f2, f3, f4⟩ := HD.out.f5
              have hz := zap HD.out HW0.out (Nat.le_refl _)
              go_wp2_with (first | (go_at_call 30; ((with_reducible refine (HN2.out _).mono ?_); rintro e w' ⟨rfl, rfl⟩)) | (go_at_call 31; ((with_reducible refine (HN3.out _).mono ?_); rintro e w' ⟨rfl, rfl⟩)))
              obtain ⟨q0, q1, q2, q3, q4⟩ := hz.2.c5
              refine bodyPost_ret (v := .tuple #[.agg #[.bool false, .bool false, .int .i64 0, .int .u64 0, .slice none 0 0], .int .i64 11]) (by simp [results, Tryz.results12, go_sem, q0, q1, q2, q3, q4]) rfl ⟨none, 0, rfl, Lib.hid ⟨hz.1, .inl rfl, Nat.le_refl _⟩⟩
            · have HPS2 : Hid (PS = (ev (q.drop 4)).map fun es => ⟨m0, g0, z, u, es⟩) := HPS
              clear HPS
              go_wp2_with (first | (go_at_call 30; ((with_reducible refine (HN2.out _).mono ?_); rintro e w' ⟨rfl, rfl⟩)) | (go_at_call 31; ((with_reducible refine (HN3.out _).mono ?_); rintro e w' ⟨rfl, rfl⟩)))
              refine wp_region_lay 11 _ #[.bool false, .bool false, .int .i64 0, .int .u64 0, .slice none 0 0] 31 _ 9 JS.closed (J.start _) (by kernel_rfl) (by kernel_rfl) rfl rfl rfl (fun ρ w' => by simp [execOp, go_sem]) ?_
              simp only [List.take_succ_cons, List.take_zero, List.drop_succ_cons, List.drop_zero]
              apply Exists.intro
              refine ⟨fun w10 h10 => ?_, fun B W1 hJ1 hb1 hB hBx => ?_⟩
              · haveI := Ext.some h10
                have q0 := ext_old h10 (a := ⟨ba, oa, none⟩) hba c0
                have q1 := ext_old h10 (a := ⟨ba, oa + 1, none⟩) hba c1
                repeat go_big_quiet_step (fail)
                exact wpQuiet_nil rfl
              · have HJ1 := Lib.hid (J.more hJ1 hBx)
                obtain ⟨q0, q1, q2, q3, q4⟩ := (HJ1.out.bx 0 rfl).c5
                obtain ⟨f0, f1, f2, f3, f4⟩ := (HJ1.out.bx 0 rfl).f5
                have hne : ∀ x ∈ ([] : List (Nat × Array Value)), x.1 ≠ B := fun x hx => by cases hx
                have HJ2 := Lib.hid (((((HJ1.out.put hB hne 0 (.bool m0)).put hB hne 1 (.bool g0)).put hB hne 2 (.int .i64 z)).put hB hne 3 (.int .u64 (u : Nat))).put hB hne 4 (.slice none 0 0))
                clear hJ1 hb1 hBx HJ1 c0 c1 c2 c3 em en eg eo
                change wpList _ _ _ _ _ _
                go_wp2_with fail
                clear HN2 HN3 f0 f1 f2 f3 f4 q0 q1 q2 q3 q4 hne j0 j1 j2 j3
                have hDB : w.heap.size < B := Nat.lt_of_lt_of_le hwD hB
                go_loopw [10, 11, 12, 13, 14, 15, 16, 17, 18, 19, 20, 21] (fun i _ _ _ _ _ _ _ _ _ _ _ wr => ∃ (a : Nat) (es : List E) (v : Value), i = .int .i64 a ∧ Hid (At q a es ∧ es.length ≤ a) ∧ Hid (J wc wr [(B, #[.bool m0, .bool g0, .int .i64 z, .int .u64 (u : Nat), v])]) ∧ Hid (wr.ownsRow (B + 1) 45 3 v es.length (evc es))) (fun i _ _ _ _ _ _ _ _ _ _ _ _ => q.length - (intOf i).toNat)
                case atStart => exact ⟨4, [], _, rfl, Lib.hid ⟨At.start hq4, Nat.zero_le _⟩, HJ2, Lib.hid (World.ownsRow_nil _ _ _ _)⟩
                case round =>
                  clear HJ2
                  obtain ⟨a, es, v, rfl, hat, HJ, HO⟩ := hrel
                  by_cases hlt : a < q.length
                  · obtain ⟨wd, hwd⟩ : ∃ wd, q[a]? = some wd := ⟨_, List.getElem?_eq_getElem hlt⟩
                    have i5 : (a : Int) < (q.length : Int) := by omega
                    obtain ⟨a1, ha1⟩ : ∃ a1, a + 1 = a1 := ⟨_, rfl⟩
                    have wa1 : IntKind.i64.wrap ((a : Int) + 1) = (a1 : Int) := by rw [IntWalk.i64_in _ (by omega)]; omega
                    have LP0 := Lib.hid (Lp.new HJ.out HO.out hB #[.int .i64 (-1), .int .i64 0, .int .i64 0] 45)
                    obtain ⟨sd, hsd⟩ : ∃ sd, S wd = sd := ⟨_, rfl⟩
                    have HCD : Hid (wc.cell? ⟨ba, oa + a, none⟩ = some (.string sd)) := Lib.hid (by rw [← hsd]; exact HC.out a wd hwd)
                    have HEQ : Hid (∀ k : Nat, ((S (kw k).1).toList == sd.toList) = decide ((kw k).1 = wd)) := Lib.hid fun k => by rw [← hsd]; exact s_beql _ _
                    clear hsd HJ HO
                    go_wp2_with fail
                    go_loopw [12, 13, 14, 15, 16, 17] (fun hc hn k _ _ _ wi => ∃ kk : Nat, k = .int .i64 kk ∧ kk ≤ 7 ∧ hc = .bool (fk wd kk).2.1 ∧ hn = .bool (fk wd kk).2.2 ∧ Hid (Lp wc B wr.heap.size #[.int .i64 (fk wd kk).1, .int .i64 0, .int .i64 0] #[.bool m0, .bool g0, .int .i64 z, .int .u64 (u : Nat), v] v es wi)) (fun _ _ k _ _ _ _ => 7 - (intOf k).toNat)
                    case atStart => exact ⟨0, rfl, Nat.zero_le _, rfl, rfl, LP0⟩
                    case round =>
                      clear LP0
                      obtain ⟨kk, rfl, hkk, rfl, rfl, LP⟩ := hrel
                      rename World => wi
                      have cd := (LP.out.j.below.cell (p := ⟨ba, oa + a, none⟩) hba).trans HCD.out
                      have hszi := LP.out.sz
                      by_cases hk : kk < 7
                      · have HKd := Lib.hid fun W => rKind_any (kk : Int) W
                        have heq := HEQ.out kk
                        have hfk : Hid (fk wd (kk + 1) = if (kw kk).1 = wd then ((kk : Int), (kw kk).2) else fk wd kk) := Lib.hid rfl
                        obtain ⟨⟨kx, kc, kn_⟩, hkw⟩ : ∃ x, kw (kk : Int) = x := ⟨_, rfl⟩
                        rw [hkw] at HKd heq hfk
                        simp only at HKd heq hfk
                        obtain ⟨⟨fv, fc, fn⟩, hf⟩ : ∃ x, fk wd kk = x := ⟨_, rfl⟩
                        rw [hf] at LP hfk
                        simp only [hf] at LP ⊢
                        obtain ⟨r0, r1, r2⟩ := (LP.out.j.bx 0 rfl).c3
                        obtain ⟨g0_, g1_, g2_⟩ := (LP.out.j.bx 0 rfl).f3
                        have i8 : (kk : Int) < 7 := by omega
                        have e8 : IntKind.i64.wrap ((kk : Int) + 1) = ((kk + 1 : Nat) : Int) := by rw [IntWalk.i64_in _ (by omega)]; rfl
                        have HKK := Lib.hid hk
                        by_cases he : kx = wd
                        · rw [decide_eq_true he] at heq
                          have hfk2 : Hid (fk wd (kk + 1) = ((kk : Int), kc, kn_)) := Lib.hid (by rw [hfk.out, if_pos he])
                          have LPn : Hid (Lp wc B wr.heap.size #[.int .i64 kk, .int .i64 0, .int .i64 0] #[.bool m0, .bool g0, .int .i64 z, .int .u64 (u : Nat), v] v es _) := Lib.hid (LP.out.set 0 (.int .i64 kk))
                          clear he hkw hf hfk hk
                          generalize S kx = sx at *
                          go_wp2_with (go_at_call 14; refine (HKd.out _).mono ?_; rintro e' w' ⟨rfl, rfl⟩)
                          go_roundw
                          case rel => exact ⟨kk + 1, rfl, by have := HKK.out; omega, by rw [hfk2.out], by rw [hfk2.out], by rw [hfk2.out]; exact LPn⟩
                          case measure => have := HKK.out; simp [intOf]; omega
                        · rw [decide_eq_false he] at heq
                          have hfk2 : Hid (fk wd (kk + 1) = (fv, fc, fn)) := Lib.hid (by rw [hfk.out, if_neg he])
                          clear he hkw hf hfk hk
                          generalize S kx = sx at *
                          go_wp2_with (go_at_call 14; refine (HKd.out _).mono ?_; rintro e' w' ⟨rfl, rfl⟩)
                          go_roundw
                          case rel => exact ⟨kk + 1, rfl, by have := HKK.out; omega, by rw [hfk2.out], by rw [hfk2.out], by rw [hfk2.out]; exact LP⟩
                          case measure => have := HKK.out; simp [intOf]; omega
                      · obtain rfl : kk = 7 := by omega
                        have i8 : ¬ (7 : Int) < 7 := by omega
                        clear HEQ HCD cd hkk hk
                        obtain ⟨r0, r1, r2⟩ := (LP.out.j.bx 0 rfl).c3
                        rcases fk_any wd with ⟨hk7, hf7⟩ | ⟨kv, cv, nv, hk7, hf7, hkv⟩
                        · rw [hf7] at LP r0
                          have hev := hat.out.1.no hwd hk7
                          obtain rfl := HBAD.out (by rw [HPS2.out, hev]; rfl)
                          have HDx := Lib.hid (HD.out.next LP.out.j.below)
                          obtain ⟨q0, q1, q2, q3, q4⟩ := HDx.out.c5
                          obtain ⟨f0, f1, f2, f3, f4⟩ := HDx.out.f5
                          have hz := zap HDx.out (HW0.out.trans (LP.out.j.below.mono (Nat.le_of_lt hwD))) (Nat.le_refl _)
                          go_wp2_with fail
                          obtain ⟨q0, q1, q2, q3, q4⟩ := hz.2.c5
                          refine bodyPost_ret (v := .tuple #[.agg #[.bool false, .bool false, .int .i64 0, .int .u64 0, .slice none 0 0], .int .i64 11]) (by simp [results, Tryz.results12, go_sem, q0, q1, q2, q3, q4]) rfl ⟨none, 0, rfl, Lib.hid ⟨hz.1, .inl rfl, Nat.le_refl _⟩⟩
                        · rw [hf7] at LP r0 ⊢
                          simp only at LP r0 ⊢
                          have i9 : ¬ kv < 0 := by omega
                          go_upto_if 119 with fail
                          go_cut [10, 18, 19] from 119 to 139 (fun s10 s18 s19 wx => ∃ (p : Nat) (x : Int), s10 = .int .i64 p ∧ Hid (rd cv (q.drop (a + 1)) = some (x, q.drop p) ∧ a < p ∧ p ≤ q.length) ∧ Hid (Lp wc B wr.heap.size #[.int .i64 kv, .int .i64 x, .int .i64 0] #[.bool m0, .bool g0, .int .i64 z, .int .u64 (u : Nat), v] v es wx))
                          case first =>
                            cases cv
                            · go_wp2_with fail
                              go_meet
                              exact ⟨a1, 0, rfl, Lib.hid ⟨by rw [rd_at, ha1]; rfl, by omega, by omega⟩, LP⟩
                            · by_cases hq6 : a1 < q.length
                              · obtain ⟨y1, hy6⟩ : ∃ y, q[a1]? = some y := ⟨_, List.getElem?_eq_getElem hq6⟩
                                obtain ⟨a2, ha6⟩ : ∃ a2, a1 + 1 = a2 := ⟨_, rfl⟩
                                have i6 : (a1 : Int) < (q.length : Int) := by omega
                                have i6' : ¬ (q.length : Int) ≤ (a1 : Int) := by omega
                                have wa6 : IntKind.i64.wrap ((a1 : Int) + 1) = (a2 : Int) := by rw [IntWalk.i64_in _ (by omega)]; omega
                                have cy6 := (LP.out.j.below.cell (p := ⟨ba, oa + a1, none⟩) hba).trans (HC.out a1 y1 hy6)
                                have HN4 := Lib.hid fun W => rnum_any y1 W (by have := HWL.out y1 (List.mem_of_getElem? hy6); omega)
                                have hn4 := num_rn y1
                                obtain ⟨n6, hxv⟩ : ∃ y, (rn y1).1 = y := ⟨_, rfl⟩
                                obtain ⟨o6, ho4⟩ : ∃ y, (rn y1).2 = y := ⟨_, rfl⟩
                                rw [hxv, ho4] at HN4 hn4
                                have hrd6 : rd true (q.drop a1) = (num y1).map (·, q.drop a2) := by rw [rd_at, hy6, ha6]; rfl
                                obtain ⟨t6, ht1⟩ : ∃ t, S y1 = t := ⟨_, rfl⟩
                                rw [ht1] at HN4 cy6
                                clear hxv ho4 ht1
                                cases o6
                                · have hev := hat.out.1.no1 hwd hk7 (by rw [ha1, hrd6, hn4]; rfl)
                                  obtain rfl := HBAD.out (by rw [HPS2.out, hev]; rfl)
                                  have HDx := Lib.hid (HD.out.next LP.out.j.below)
                                  obtain ⟨q0, q1, q2, q3, q4⟩ := HDx.out.c5
                                  obtain ⟨f0, f1, f2, f3, f4⟩ := HDx.out.f5
                                  have hz := zap HDx.out (HW0.out.trans (LP.out.j.below.mono (Nat.le_of_lt hwD))) (Nat.le_refl _)
                                  clear HDx HPS2 HGOOD HBAD HWL HC hat
                                  go_wp2_with (go_at_call 30; ((with_reducible refine (HN4.out _).mono ?_); rintro e w' ⟨rfl, rfl⟩))
                                  obtain ⟨q0, q1, q2, q3, q4⟩ := hz.2.c5
                                  refine bodyPost_ret (v := .tuple #[.agg #[.bool false, .bool false, .int .i64 0, .int .u64 0, .slice none 0 0], .int .i64 11]) (by simp [results, Tryz.results12, go_sem, q0, q1, q2, q3, q4]) rfl ⟨none, 0, rfl, Lib.hid ⟨hz.1, .inl rfl, Nat.le_refl _⟩⟩
                                · obtain ⟨r0, r1, r2⟩ := (LP.out.j.bx 0 rfl).c3
                                  obtain ⟨g0_, g1_, g2_⟩ := (LP.out.j.bx 0 rfl).f3
                                  have LPx : Hid (Lp wc B wr.heap.size #[.int .i64 kv, .int .i64 n6, .int .i64 0] #[.bool m0, .bool g0, .int .i64 z, .int .u64 (u : Nat), v] v es _) := Lib.hid (LP.out.set 1 (.int .i64 n6))
                                  have hr6 : Hid (rd true (q.drop (a + 1)) = some (n6, q.drop a2) ∧ a < a2 ∧ a2 ≤ q.length) := Lib.hid ⟨by rw [ha1, hrd6, hn4]; rfl, by omega, by omega⟩
                                  clear HPS2 HGOOD HBAD HWL HC
                                  go_wp2_with (go_at_call 30; ((with_reducible refine (HN4.out _).mono ?_); rintro e w' ⟨rfl, rfl⟩))
                                  go_meet
                                  exact ⟨a2, n6, rfl, hr6, LPx⟩
                              · have i6' : (q.length : Int) ≤ (a1 : Int) := by omega
                                have hev := hat.out.1.no1 hwd hk7 (by rw [rd_at, List.getElem?_eq_none_iff.2 (by omega)]; rfl)
                                obtain rfl := HBAD.out (by rw [HPS2.out, hev]; rfl)
                                have HDx := Lib.hid (HD.out.next LP.out.j.below)
                                obtain ⟨q0, q1, q2, q3, q4⟩ := HDx.out.c5
                                obtain ⟨f0, f1, f2, f3, f4⟩ := HDx.out.f5
                                have hz := zap HDx.out (HW0.out.trans (LP.out.j.below.mono (Nat.le_of_lt hwD))) (Nat.le_refl _)
                                clear HDx HPS2 HGOOD HBAD HWL HC hat
                                go_wp2_with fail
                                obtain ⟨q0, q1, q2, q3, q4⟩ := hz.2.c5
                                refine bodyPost_ret (v := .tuple #[.agg #[.bool false, .bool false, .int .i64 0, .int .u64 0, .slice none 0 0], .int .i64 11]) (by simp [results, Tryz.results12, go_sem, q0, q1, q2, q3, q4]) rfl ⟨none, 0, rfl, Lib.hid ⟨hz.1, .inl rfl, Nat.le_refl _⟩⟩
                          case rest =>
                            obtain ⟨p, x, rfl, hp, LPc⟩ := hcut
                            rename World => wj
                            have hszj := LPc.out.sz
                            have hp1 := hp.out.2.1
                            have hp2 := hp.out.2.2
                            clear LP r0 r1 r2
                            cases nv
                            · have hAT : At q p (es ++ [⟨kv, x, 0⟩]) := hat.out.1.more hwd hk7 (x := (x, q.drop p)) (y := 0) hp.out.1 rfl hp1 hp2
                              have hmore : Hid (At q p (es ++ [⟨kv, x, 0⟩]) ∧ (es ++ [⟨kv, x, 0⟩] : List E).length ≤ p) := Lib.hid ⟨hAT, by rw [List.length_append, List.length_singleton]; have := hat.out.2; omega⟩
                              obtain ⟨p0, p1, p2, p3, p4⟩ := (LPc.out.j.bx 1 rfl).c5
                              obtain ⟨r0, r1, r2⟩ := (LPc.out.j.bx 0 rfl).c3
                              have HO7 := Lib.hid (LPc.out.o.alloc (.cells #[.int .i64 kv, .int .i64 x, .int .i64 0] 45))
                              have HB7 := Lib.hid ((LPc.out.j.less (bs' := [(B, #[.bool m0, .bool g0, .int .i64 z, .int .u64 (u : Nat), v])]) (by simp)).alloc (.cells #[.int .i64 kv, .int .i64 x, .int .i64 0] 45))
                              have hes : es.length ≤ 5000 := by have := hat.out.2; omega
                              have hBs : Hid (B + 1 ≤ (wj.alloc (.cells #[.int .i64 kv, .int .i64 x, .int .i64 0] 45)).heap.size) := Lib.hid (by rw [World.size_alloc, LPc.out.sz]; have := LPc.out.n; omega)
                              clear hAT HPS2 HGOOD HBAD HWL HC hat
                              go_wp2_with (first
                                | (go_at_call 30; ((with_reducible refine (HN4.out _).mono ?_); rintro e w' ⟨rfl, rfl⟩))
                                | (at_builtin; go_loud (refine wpList_append_own_at _ rfl (.tmp 162) (.tmp 164) 29 rfl (B + 1) 45 i0 (.agg #[.int .i64 0, .int .i64 0, .int .i64 0]) 3 24 Tryz.underlying29 hi hz0 hz1 hz2 rfl (by decide) _ es.length _ rfl HO7.out ⟨wr.heap.size + 1, 0, none⟩ 1 1 [.int .i64 kv, .int .i64 x, .int .i64 0] rfl rfl (LPc.out.cell _ _ _ _) (three_one _ _ _) (by unfold maxLen; omega) (by omega) hBs.out ?_); go_loud (intro v6 w6 hown6 hg6 _ hat6; obtain ⟨g', c6, rfl⟩ := own_some hown6 (Nat.succ_pos _); have HJ6 := Lib.hid (j_grow HB7.out hg6 (fun g e => (HO7.out.lt g e).1) (by have := LPc.out.b; omega) (fun x hx => by rw [List.mem_singleton.1 hx]; exact Nat.lt_succ_self _)); obtain ⟨p0, p1, p2, p3, p4⟩ := (HJ6.out.bx 0 rfl).c5; obtain ⟨f0, f1, f2, f3, f4⟩ := (HJ6.out.bx 0 rfl).f5)))
                              go_roundw
                              case rel => exact ⟨p, es ++ [⟨kv, x, 0⟩], _, rfl, hmore, Lib.hid (HJ6.out.put LPc.out.b (fun x hx => by cases hx) 4 _), Lib.hid (by rw [List.length_append, evc_snoc]; exact hown6.kept (grown_cell _ _ _ _) (.inr fun e => by have := (hown6.lt _ e).1; omega))⟩
                              case measure => have := hlt; simp [intOf]; omega
                            · by_cases hq3 : p < q.length
                              · obtain ⟨y2, hy3⟩ : ∃ y, q[p]? = some y := ⟨_, List.getElem?_eq_getElem hq3⟩
                                obtain ⟨a3, ha3⟩ : ∃ a2, p + 1 = a2 := ⟨_, rfl⟩
                                have i6 : (p : Int) < (q.length : Int) := by omega
                                have i6' : ¬ (q.length : Int) ≤ (p : Int) := by omega
                                have wa3 : IntKind.i64.wrap ((p : Int) + 1) = (a3 : Int) := by rw [IntWalk.i64_in _ (by omega)]; omega
                                have cy3 := (LPc.out.j.below.cell (p := ⟨ba, oa + p, none⟩) hba).trans (HC.out p y2 hy3)
                                have HN4 := Lib.hid fun W => rnum_any y2 W (by have := HWL.out y2 (List.mem_of_getElem? hy3); omega)
                                have hn4 := num_rn y2
                                obtain ⟨n3, hxv⟩ : ∃ y, (rn y2).1 = y := ⟨_, rfl⟩
                                obtain ⟨o3, ho4⟩ : ∃ y, (rn y2).2 = y := ⟨_, rfl⟩
                                rw [hxv, ho4] at HN4 hn4
                                have hrd3 : rd true (q.drop p) = (num y2).map (·, q.drop a3) := by rw [rd_at, hy3, ha3]; rfl
                                obtain ⟨t3, ht1⟩ : ∃ t, S y2 = t := ⟨_, rfl⟩
                                rw [ht1] at HN4 cy3
                                clear hxv ho4 ht1
                                cases o3
                                · have hev := hat.out.1.no2 hwd hk7 (x := (x, q.drop p)) hp.out.1 (by show rd true (q.drop p) = none; rw [hrd3, hn4]; rfl)
                                  obtain rfl := HBAD.out (by rw [HPS2.out, hev]; rfl)
                                  have HDx := Lib.hid (HD.out.next LPc.out.j.below)
                                  obtain ⟨q0, q1, q2, q3, q4⟩ := HDx.out.c5
                                  obtain ⟨f0, f1, f2, f3, f4⟩ := HDx.out.f5
                                  have hz := zap HDx.out (HW0.out.trans (LPc.out.j.below.mono (Nat.le_of_lt hwD))) (Nat.le_refl _)
                                  clear HDx HPS2 HGOOD HBAD HWL HC hat
                                  go_wp2_with (go_at_call 30; ((with_reducible refine (HN4.out _).mono ?_); rintro e w' ⟨rfl, rfl⟩))
                                  obtain ⟨q0, q1, q2, q3, q4⟩ := hz.2.c5
                                  refine bodyPost_ret (v := .tuple #[.agg #[.bool false, .bool false, .int .i64 0, .int .u64 0, .slice none 0 0], .int .i64 11]) (by simp [results, Tryz.results12, go_sem, q0, q1, q2, q3, q4]) rfl ⟨none, 0, rfl, Lib.hid ⟨hz.1, .inl rfl, Nat.le_refl _⟩⟩
                                · have hAT : At q a3 (es ++ [⟨kv, x, n3⟩]) := hat.out.1.more hwd hk7 (x := (x, q.drop p)) (y := n3) (b := a3) hp.out.1 (by show rd true (q.drop p) = _; rw [hrd3, hn4]; rfl) (by omega) (by omega)
                                  obtain ⟨r0, r1, r2⟩ := (LPc.out.j.bx 0 rfl).c3
                                  obtain ⟨g0_, g1_, g2_⟩ := (LPc.out.j.bx 0 rfl).f3
                                  have LPy : Hid (Lp wc B wr.heap.size #[.int .i64 kv, .int .i64 x, .int .i64 n3] #[.bool m0, .bool g0, .int .i64 z, .int .u64 (u : Nat), v] v es _) := Lib.hid (LPc.out.set 2 (.int .i64 n3))
                                  have hmore : Hid (At q a3 (es ++ [⟨kv, x, n3⟩]) ∧ (es ++ [⟨kv, x, n3⟩] : List E).length ≤ a3) := Lib.hid ⟨hAT, by rw [List.length_append, List.length_singleton]; have := hat.out.2; omega⟩
                                  obtain ⟨p0, p1, p2, p3, p4⟩ := (LPy.out.j.bx 1 rfl).c5
                                  obtain ⟨r0, r1, r2⟩ := (LPy.out.j.bx 0 rfl).c3
                                  have HO7 := Lib.hid (LPy.out.o.alloc (.cells #[.int .i64 kv, .int .i64 x, .int .i64 n3] 45))
                                  have HB7 := Lib.hid ((LPy.out.j.less (bs' := [(B, #[.bool m0, .bool g0, .int .i64 z, .int .u64 (u : Nat), v])]) (by simp)).alloc (.cells #[.int .i64 kv, .int .i64 x, .int .i64 n3] 45))
                                  have hes : es.length ≤ 5000 := by have := hat.out.2; omega
                                  have hBs : Hid (B + 1 ≤ ((wj.setCell ⟨wr.heap.size, 2, none⟩ (.int .i64 n3)).alloc (.cells #[.int .i64 kv, .int .i64 x, .int .i64 n3] 45)).heap.size) := Lib.hid (by rw [World.size_alloc, LPy.out.sz]; have := LPy.out.n; omega)
                                  clear hAT HPS2 HGOOD HBAD HWL HC hat
                                  go_wp2_with (first
                                    | (go_at_call 30; ((with_reducible refine (HN4.out _).mono ?_); rintro e w' ⟨rfl, rfl⟩))
                                    | (at_builtin; go_loud (refine wpList_append_own_at _ rfl (.tmp 162) (.tmp 164) 29 rfl (B + 1) 45 i0 (.agg #[.int .i64 0, .int .i64 0, .int .i64 0]) 3 24 Tryz.underlying29 hi hz0 hz1 hz2 rfl (by decide) _ es.length _ rfl HO7.out ⟨wr.heap.size + 1, 0, none⟩ 1 1 [.int .i64 kv, .int .i64 x, .int .i64 n3] rfl rfl (LPy.out.cell _ _ _ _) (three_one _ _ _) (by unfold maxLen; omega) (by omega) hBs.out ?_); go_loud (intro v6 w6 hown6 hg6 _ hat6; obtain ⟨g', c6, rfl⟩ := own_some hown6 (Nat.succ_pos _); have HJ6 := Lib.hid (j_grow HB7.out hg6 (fun g e => (HO7.out.lt g e).1) (by have := LPy.out.b; omega) (fun x hx => by rw [List.mem_singleton.1 hx]; exact Nat.lt_succ_self _)); obtain ⟨p0, p1, p2, p3, p4⟩ := (HJ6.out.bx 0 rfl).c5; obtain ⟨f0, f1, f2, f3, f4⟩ := (HJ6.out.bx 0 rfl).f5)))
                                  go_roundw
                                  case rel => exact ⟨a3, es ++ [⟨kv, x, n3⟩], _, rfl, hmore, Lib.hid (HJ6.out.put LPy.out.b (fun x hx => by cases hx) 4 _), Lib.hid (by rw [List.length_append, evc_snoc]; exact hown6.kept (grown_cell _ _ _ _) (.inr fun e => by have := (hown6.lt _ e).1; omega))⟩
                                  case measure => have := hlt; simp [intOf]; omega
                              · have i6' : (q.length : Int) ≤ (p : Int) := by omega
                                have hev := hat.out.1.no2 hwd hk7 (x := (x, q.drop p)) hp.out.1 (by show rd true (q.drop p) = none; rw [rd_at, List.getElem?_eq_none_iff.2 (by omega)]; rfl)
                                obtain rfl := HBAD.out (by rw [HPS2.out, hev]; rfl)
                                have HDx := Lib.hid (HD.out.next LPc.out.j.below)
                                obtain ⟨q0, q1, q2, q3, q4⟩ := HDx.out.c5
                                obtain ⟨f0, f1, f2, f3, f4⟩ := HDx.out.f5
                                have hz := zap HDx.out (HW0.out.trans (LPc.out.j.below.mono (Nat.le_of_lt hwD))) (Nat.le_refl _)
                                clear HDx HPS2 HGOOD HBAD HWL HC hat
                                go_wp2_with fail
                                obtain ⟨q0, q1, q2, q3, q4⟩ := hz.2.c5
                                refine bodyPost_ret (v := .tuple #[.agg #[.bool false, .bool false, .int .i64 0, .int .u64 0, .slice none 0 0], .int .i64 11]) (by simp [results, Tryz.results12, go_sem, q0, q1, q2, q3, q4]) rfl ⟨none, 0, rfl, Lib.hid ⟨hz.1, .inl rfl, Nat.le_refl _⟩⟩
                  · have hae : a = q.length := by have := hat.out.1.2.1; omega
                    subst hae
                    obtain rfl := HGOOD.out _ (by rw [HPS2.out, hat.out.1.done]; rfl)
                    have i5 : ¬ (q.length : Int) < (q.length : Int) := by omega
                    have HO9 := Lib.hid HO.out
                    obtain ⟨A5, c5, rfl, hc5, _, _⟩ := own_formN HO.out (by decide)
                    obtain ⟨p0, p1, p2, p3, p4⟩ := (HJ.out.bx 0 rfl).c5
                    have HDx := Lib.hid (HD.out.next HJ.out.below)
                    obtain ⟨q0, q1, q2, q3, q4⟩ := HDx.out.c5
                    obtain ⟨f0, f1, f2, f3, f4⟩ := HDx.out.f5
                    have hz := set_low (y0 := .bool m0) (y1 := .bool g0) (y2 := .int .i64 z) (y3 := .int .u64 (u : Nat)) (y4 := .slice A5 es.length c5) HDx.out (HW0.out.trans (HJ.out.below.mono (Nat.le_of_lt hwD))) (Nat.le_refl _)
                    have hO5 := own_low (j := 4) (u := .slice A5 es.length c5) hDB (own_low (j := 3) (u := .int .u64 (u : Nat)) hDB (own_low (j := 2) (u := .int .i64 z) hDB (own_low (j := 1) (u := .bool g0) hDB (own_low (j := 0) (u := .bool m0) hDB HO9.out))))
                    obtain ⟨A', c', e', _, hs', _⟩ := own_formN hO5 (by decide)
                    injection e' with e1 _ e2
                    subst e1 e2
                    go_wp2_with fail
                    obtain ⟨q0, q1, q2, q3, q4⟩ := hz.2.c5
                    refine bodyPost_ret (v := .tuple #[.agg #[.bool m0, .bool g0, .int .i64 z, .int .u64 (u : Nat), .slice A5 es.length c5], .int .i64 0]) (by simp [results, Tryz.results12, go_sem, q0, q1, q2, q3, q4]) rfl ⟨A5, c5, rfl, Lib.hid ⟨hz.1, hs', hc5⟩⟩
      · have hPS : PS = none := by rw [hFO, if_neg hgood]
        obtain rfl := HBAD.out hPS
        have ways : (decide (w0 = wMains) = false ∧ decide (w0 = wNone) = false) ∨ (decide (w0 = wMains) = true ∧ decide (w1 = wGen) = false ∧ decide (w1 = wNone) = false) ∨ (decide (w0 = wMains) = false ∧ decide (w0 = wNone) = true ∧ decide (w1 = wGen) = false ∧ decide (w1 = wNone) = false) := by
          simp only [decide_eq_false_iff_not, decide_eq_true_eq]
          by_cases a0 : w0 = wMains
          · refine .inr (.inl ⟨a0, fun h => hgood ⟨.inl a0, .inl h⟩, fun h => hgood ⟨.inl a0, .inr h⟩⟩)
          · by_cases a1 : w0 = wNone
            · exact .inr (.inr ⟨a0, a1, fun h => hgood ⟨.inr a1, .inl h⟩, fun h => hgood ⟨.inr a1, .inr h⟩⟩)
            · exact .inl ⟨a0, a1⟩
        have HW := Lib.hid ways
        clear HFO hFO hgood hPS HGOOD HBAD HSH HWL HSEE HC hcell x0 x1 x2 x3 c2 c3 h4 hq4 j2 j3 ways HL2 HL3
        generalize decide (w0 = wMains) = dm at *
        generalize decide (w0 = wNone) = dn at *
        generalize decide (w1 = wGen) = dg at *
        generalize decide (w1 = wNone) = do_ at *
        generalize S w0 = s0 at *
        generalize S w1 = s1 at *
        rcases HW.out with ⟨rfl, rfl⟩ | ⟨rfl, rfl, rfl⟩ | ⟨rfl, rfl, rfl, rfl⟩
        all_goals
          clear HW
          obtain ⟨q0, q1, q2, q3, q4⟩ := HD.out.c5
          obtain ⟨f0, f1, f2, f3, f4⟩ := HD.out.f5
          have hz := zap HD.out HW0.out (Nat.le_refl _)
          go_wp2_with fail
          obtain ⟨q0, q1, q2, q3, q4⟩ := hz.2.c5
          refine bodyPost_ret (v := .tuple #[.agg #[.bool false, .bool false, .int .i64 0, .int .u64 0, .slice none 0 0], .int .i64 11]) (by simp [results, Tryz.results12, go_sem, q0, q1, q2, q3, q4]) rfl ⟨none, 0, rfl, Lib.hid ⟨hz.1, .inl rfl, Nat.le_refl _⟩⟩
end Go.Proofs.YthpbcbbiampamaaGreatDoor.Scr
