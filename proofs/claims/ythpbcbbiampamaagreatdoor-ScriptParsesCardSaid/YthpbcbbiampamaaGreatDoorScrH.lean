/- The line of a tick. -/
import Derived.Test.YthpbcbbiampamaaGreatDoorScrG
import Derived.Test.YthpbcbbiampamaaGreatDoorHeldT
namespace Go.Proofs.YthpbcbbiampamaaGreatDoor.Scr
open Go.RowKit Go.Maps Go.Proofs.YthpbcbbiampamaaGreatDoor.ScrP Go.Proofs.YthpbcbbiampamaaGreatDoor.Box Go.Proofs.YthpbcbbiampamaaGreatDoor.Held Go.Proofs.YthpbcbbiampamaaGreatDoor.Sees Go.Proofs.YthpbcbbiampamaaGreatDoor.Jrn
open Go.ChangeMaps (setBlock)
set_option linter.unusedVariables false
set_option linter.unusedSimpArgs false
set_option maxRecDepth 100000

theorem grown_set {W w1 : World} {r : Nat} {o : Obj} (h : w1 = W ∨ w1 = W.drew) : W.grownBy (setBlock w1 r o) (some r) := by
  have hh : w1.heap = W.heap := by rcases h with rfl | rfl <;> rfl
  have ho : w1.os = W.os ∧ w1.tape = W.tape ∧ w1.output = W.output := by rcases h with rfl | rfl <;> exact ⟨rfl, rfl, rfl⟩
  refine ⟨ho.1, ho.2.1, ho.2.2, ?_, fun i hi hne => ?_⟩
  · show W.heap.size ≤ (w1.heap.setIfInBounds r o).size
    rw [Array.size_setIfInBounds, hh]; exact Nat.le_refl _
  · show (w1.heap.setIfInBounds r o)[i]? = _
    rw [Array.getElem?_setIfInBounds, hh, if_neg (fun e => hne (by rw [e]))]
theorem set_at {W w1 : World} {r : Nat} {o o' : Obj} (h : w1 = W ∨ w1 = W.drew) (hr : W.heap[r]? = some o') : (setBlock w1 r o).heap[r]? = some o := by
  have hh : w1.heap = W.heap := by rcases h with rfl | rfl <;> rfl
  show (w1.heap.setIfInBounds r o)[r]? = _
  rw [Array.getElem?_setIfInBounds, hh, if_pos rfl, if_pos (Array.getElem?_eq_some_iff.1 hr).1]
theorem Ap.turn {w W W' : World} {bs : List (Nat × Array Value)} {l : List By} {v : Value} {r : Nat} (h : Ap w bs l v W) (hg : W.grownBy W' (some r)) (hr : v.ownBlock ≠ some r) (hrb : ∀ x ∈ bs, x.1 ≠ r) (hw : w.heap.size ≤ r) : Ap w bs l v W' :=
  ⟨h.own.kept hg (.inr hr), ⟨h.j.below.grown hg h.j.below.size (fun g hg => by injection hg with hg; omega), fun x hx => (h.j.at_ x hx).kept (hg.block _ (h.j.at_ x hx).lt (fun e => hrb x hx (by injection e)))⟩, h.ne⟩
theorem FM.kept {W W' : World} {b : Nat} {row : Option Nat} (h : FM W b) (hg : W.grownBy W' row) (hr : row ≠ some b) : FM W' b := by
  have hlt : b < W.heap.size := (Array.getElem?_eq_some_iff.1 h).1
  exact (hg.block b hlt (fun e => hr e.symm)).trans h
theorem FM.next {W W' : World} {b : Nat} (h : FM W b) (hb : Below W.heap.size W W') : FM W' b := (hb.block b (Array.getElem?_eq_some_iff.1 h).1).trans h
/-- a row of words isn't the map -/
theorem Ap.ne_map {w W : World} {bs : List (Nat × Array Value)} {l : List By} {v : Value} {b : Nat} (h : Ap w bs l v W) (hf : FM W b) : v.ownBlock ≠ some b := by
  intro e
  rcases h.own.2 with ⟨hv, _⟩ | ⟨g, cap, cur, hv, _, hg, _⟩
  · rw [hv] at e; cases e
  · rw [hv] at e
    simp only [Value.ownBlock] at e
    injection e with e
    subst e
    unfold FM at hf
    rw [hg] at hf
    cases hf
/-- the iterator, midway: none of those that came was it -/
structure It (W1 : World) (r bm : Nat) (k : Int) (seen : Array Nat) (W : World) : Prop where
  it : ∃ c0, W.heap[r]? = some (.mapIter (some bm) 7 seen c0) ∧ 7 ≤ c0
  gr : W1.grownBy W (some r)
  no : ∀ i : Nat, i < 7 → seen.contains i = true → (i : Int) ≠ k
theorem ents_born : ((ents 7).toList.map (·.born)).Nodup := by decide +kernel
theorem ents_old : ∀ x ∈ (ents 7).toList, x.born < 7 := fun x hx => by
  obtain ⟨i, h, rfl⟩ := mem_ents hx
  exact h
theorem It.step {W1 W : World} {r bm : Nat} {k : Int} {seen : Array Nat} (h : It W1 r bm k seen W) (hf : FM W bm) (hrb : r ≠ bm) :
    ((Instr.next (.pointer (some ⟨r, 0, none⟩)) false 0).run Tryz.prog W = .ok (.tuple #[.bool false]) W ∧ ∀ i : Nat, i < 7 → (i : Int) ≠ k) ∨
    ∃ (i : Nat) (W' : World), i < 7 ∧ (Instr.next (.pointer (some ⟨r, 0, none⟩)) false 0).run Tryz.prog W = .ok (.tuple #[.bool true, (ent i).key, (ent i).val]) W' ∧ W.grownBy W' (some r) ∧ (Instr.entry (.pointer (some ⟨r, 0, none⟩))).run Tryz.prog W' = .ok (.tuple #[(ent i).key, (ent i).val]) W' ∧
      ((i : Int) ≠ k → It W1 r bm k (seen.push i) W') ∧ (leftOf (ents 7) (seen.push i)).size < (leftOf (ents 7) seen).size ∧ W'.iterSeen r = seen.push i := by
  obtain ⟨c0, h1, h2⟩ := h.it
  rcases run_next_at (P := Tryz.prog) W 0 r bm 7 c0 seen (ents 7) 7 h1 hf ents_old h2 with ⟨h3, h4⟩ | ⟨e, he, w1, h3, h4⟩
  · left
    refine ⟨h4, fun i hi => h.no i hi ?_⟩
    have hm : ent i ∈ (ents 7).toList := by unfold ents; simp only [List.mem_map, List.mem_range]; exact ⟨i, hi, rfl⟩
    exact all_seen _ _ h3 _ hm
  · right
    obtain ⟨hm, _⟩ := mem_left he
    obtain ⟨i, hi, rfl⟩ := mem_ents hm
    have hsh := left_shrinks _ _ _ he
    have eb : (ent i).born = i := rfl
    rw [eb] at h4 hsh
    have hg : W.grownBy (setBlock w1 r (.mapIter (some bm) 7 (seen.push i) 7)) (some r) := grown_set h3
    have hr' : (setBlock w1 r (.mapIter (some bm) 7 (seen.push i) 7)).heap[r]? = some (.mapIter (some bm) 7 (seen.push i) 7) := set_at h3 h1
    have hf2 : FM (setBlock w1 r (.mapIter (some bm) 7 (seen.push i) 7)) bm := hf.kept hg (fun e => hrb (by injection e))
    generalize setBlock w1 r (.mapIter (some bm) 7 (seen.push i) 7) = W' at *
    refine ⟨i, W', hi, h4, hg, ?_, fun hne => ⟨⟨7, hr', Nat.le_refl _⟩, ?_, fun j hj hc => ?_⟩, hsh, ?_⟩
    · exact run_entry_at W' r bm 7 seen (ents 7) 7 (ent i) hr' hf2 hm ents_born
    · exact ⟨hg.os.trans h.gr.os, hg.tape.trans h.gr.tape, hg.output.trans h.gr.output, Nat.le_trans h.gr.size hg.size, fun j hj hne => (hg.block j (Nat.lt_of_lt_of_le hj h.gr.size) hne).trans (h.gr.block j hj hne)⟩
    · have hc2 : (seen.push i).contains j = true := hc
      rw [contains_push] at hc2
      simp only [Bool.or_eq_true, beq_iff_eq] at hc2
      rcases hc2 with hc2 | rfl
      · exact h.no j hj hc2
      · exact hne
    · unfold World.iterSeen
      rw [hr']
theorem It.alloc {W1 W : World} {r bm : Nat} {k : Int} {seen : Array Nat} (h : It W1 r bm k seen W) (o : Obj) : It W1 r bm k seen (W.alloc o) := by
  obtain ⟨c0, h1, h2⟩ := h.it
  have hlt := (Array.getElem?_eq_some_iff.1 h1).1
  refine ⟨⟨c0, (heap_alloc_old W o hlt).trans h1, h2⟩, ?_, h.no⟩
  have hg := World.grownBy_alloc W o (some r)
  exact ⟨hg.os.trans h.gr.os, hg.tape.trans h.gr.tape, hg.output.trans h.gr.output, Nat.le_trans h.gr.size hg.size, fun j hj hne => (hg.block j (Nat.lt_of_lt_of_le hj h.gr.size) hne).trans (h.gr.block j hj hne)⟩
theorem It.start (W : World) (bm : Nat) (k : Int) (r : Nat) (hr : r = W.heap.size) : It (W.alloc (.mapIter (some bm) 7 #[] 7)) r bm k #[] (W.alloc (.mapIter (some bm) 7 #[] 7)) := by
  subst hr
  exact ⟨⟨7, heap_alloc_new _ _, Nat.le_refl _⟩, World.grownBy.refl _ _, fun i _ h => by simp at h⟩
theorem grown_trans {A B C : World} {r : Nat} (h : A.grownBy B (some r)) (k : B.grownBy C (some r)) : A.grownBy C (some r) :=
  ⟨k.os.trans h.os, k.tape.trans h.tape, k.output.trans h.output, Nat.le_trans h.size k.size, fun j hj hne => (k.block j (Nat.lt_of_lt_of_le hj h.size) hne).trans (h.block j hj hne)⟩
theorem evt_len (e : E) : (evt e).length ≤ 2 := by unfold evt; cases (kw e.k).2.1 <;> cases (kw e.k).2.2 <;> simp
theorem evw_len (e : E) : (evw e).length ≤ 3 := by
  have := evt_len e
  unfold evw
  split
  · exact Nat.zero_le _
  · rw [List.length_cons]; omega
theorem ws_len (t : T) (l : List E) : (ws { t with es := l }).length ≤ 4 + 3 * l.length := by
  unfold ws hd4
  rw [List.length_append]
  have : (l.flatMap evw).length ≤ 3 * l.length := by
    induction l with
    | nil => exact Nat.zero_le _
    | cons e l ih =>
      have := evw_len e
      rw [List.flatMap_cons, List.length_append, List.length_cons]; omega
  simp only [List.length_cons, List.length_nil]; omega
theorem It.seen_eq {W1 W : World} {r bm : Nat} {k : Int} {seen : Array Nat} (h : It W1 r bm k seen W) : W.iterSeen r = seen := by
  obtain ⟨c0, h1, _⟩ := h.it
  unfold World.iterSeen
  rw [h1]

theorem Ap.nil {w W : World} {bs : List (Nat × Array Value)} {l : List By} {v : Value} (h : Ap w bs l v W) : Ap w [] l v W := ⟨h.own, h.j.less (fun x hx => by cases hx), fun x hx => by cases hx⟩
theorem own_some {w : World} {base size : Nat} {e : TypeId} {v : Value} {n : Nat} {xs : List Value} (h : w.ownsRow base e size v n xs) (hn : 0 < n) : ∃ g cap, v = .slice (some ⟨g, 0, none⟩) n cap := by
  rcases h.2 with ⟨_, h0⟩ | ⟨g, cap, cur, hv, _⟩
  · omega
  · exact ⟨g, cap, hv⟩
theorem Ap.form {w W : World} {bs : List (Nat × Array Value)} {l : List By} {v : Value} (h : Ap w bs l v W) (hl : 0 < l.length) :
    ∃ g cap, v = .slice (some ⟨g, 0, none⟩) l.length cap ∧ l.length ≤ cap ∧ g < W.heap.size ∧ ∀ (j : Nat) x, l[j]? = some x → W.cell? ⟨g, j, none⟩ = some (.string (S x)) := by
  rcases h.own.2 with ⟨_, h0⟩ | ⟨g, cap, cur, hv, hb, hg, hn, _⟩
  · omega
  · subst hv
    refine ⟨g, cap, rfl, hn, (Array.getElem?_eq_some_iff.1 hg).1, fun j x hx => ?_⟩
    have := h.own.cells (g := g) rfl j _ (strs_at hx)
    rwa [Addr.add_lit, Nat.zero_add] at this
theorem Join_any (l : List By) (g cap : Nat) (W : World) (hc : ∀ (j : Nat) x, l[j]? = some x → W.cell? ⟨g, j, none⟩ = some (.string (S x))) (hg : g < W.heap.size) (hl : l.length ≤ 100000) (hcap : l.length ≤ cap) (hlen : (Lib.join l [32]).length ≤ 1000000) :
    Calls Tryz.prog 21 #[.slice (some ⟨g, 0, none⟩) l.length cap, .string ⟨#[32]⟩] W (Says W (.string (S (Lib.join l [32])))) := by
  have e1 : (l.map S).map (·.data.toList) = l := by rw [List.map_map]; conv => rhs; rw [← List.map_id l]
                                                    exact List.map_congr_left fun x _ => s_data x
  have h := Shf.strings_Join g 0 cap (l.map S) ⟨#[32]⟩ W (fun j x hx => by
    rw [List.getElem?_map] at hx
    cases hy : l[j]? with
    | none => rw [hy] at hx; cases hx
    | some y =>
      rw [hy] at hx
      cases hx
      rw [Nat.zero_add]; exact hc j y hy) hg (by rw [List.length_map]; omega) (by rw [List.length_map]; exact hcap) (by rw [e1]; exact Nat.le_trans hlen (by decide))
  rw [e1, List.length_map] at h
  exact h
theorem ws_same {t : T} {l : List E} {e : E} (h : ∀ i : Nat, i < 7 → (i : Int) ≠ e.k) : ws { t with es := l ++ [e] } = ws { t with es := l } := by
  rw [ws_snoc]
  have hk : isK e = false := decide_eq_false fun ⟨h1, h2⟩ => h e.k.toNat (by omega) (by omega)
  rw [evw_no hk, List.append_nil]

set_option maxHeartbeats 12800000 in
theorem Put_any (t : T) (A : Option Addr) (n c : Nat) (w : World) (ht : t.In) (hn : t.es.length = n) (hN : n ≤ 1000) (hs : Sees w w.heap.size A (evc t.es)) (hE : Env w) : Calls Tryz.prog 8 #[tv t A n c] w (Says w (.string (S (put t)))) := by
  obtain ⟨i1, hj, hy0, hy1, hy2⟩ := info_parts info_string
  have hj0 : Hid (JS w _ _) := Lib.hid (J.one w (tvc t.m t.g t.cap t.bl A n c) 25)
  have hmx : Tryz.prog.follows .mixedOrders = true := by kernel_rfl
  have HG := Lib.hid (fun b x W => says_of_same (given_any b x W))
  have HI := Lib.hid (fun W (hW : JS w [(w.heap.size, tvc t.m t.g t.cap t.bl A n c)] W) => Itoa_any t.cap ht.cap W (hE.next (J.below hW)))
  have HF := Lib.hid (fun W (hW : JS w [(w.heap.size, tvc t.m t.g t.cap t.bl A n c)] W) => FUint_any t.bl ht.bl W (hE.next (J.below hW)))
  have HFo := Lib.hid (fun W => forms_any W)
  have HT := Lib.hid ht
  have HS := Lib.hid hs
  have HEn : Hid (∀ W, Below w.heap.size w W → Env W) := Lib.hid fun W h => hE.next h
  have h4 : Hid (hd4 t = ws { t with es := t.es.take 0 }) := Lib.hid (by unfold ws hd4; simp)
  have HJn : Hid (put t = Lib.join (ws { t with es := t.es.take n }) [32]) := Lib.hid (by rw [← hn, List.take_length]; rfl)
  have HPL : Hid (∀ l, (∀ e ∈ l, e.In) → (put { t with es := l }).length ≤ 60 + 60 * l.length) := Lib.hid (put_len ht)
  have h5 : Hid (strs (hd4 t) = [.string (S (gv t.m wMains)), .string (S (gv t.g wGen)), .string (S (Lib.itoa t.cap)), .string (S (Lib.decDigits t.bl))]) := Lib.hid rfl
  clear hs hE
  unfold tv
  generalize hs1 : S (gv t.m wMains) = s1 at *
  generalize hs2 : S (gv t.g wGen) = s2 at *
  generalize hs3 : S (Lib.itoa t.cap) = s3 at *
  generalize hs4 : S (Lib.decDigits t.bl) = s4 at *
  have HG1 : Hid (∀ W, Calls Tryz.prog 16 #[.bool t.m, .string ⟨#[109, 97, 105, 110, 115]⟩] W (Says W (.string s1))) := Lib.hid fun W => by rw [← hs1]; exact HG.out t.m wMains W
  have HG2 : Hid (∀ W, Calls Tryz.prog 16 #[.bool t.g, .string ⟨#[103, 101, 110]⟩] W (Says W (.string s2))) := Lib.hid fun W => by rw [← hs2]; exact HG.out t.g wGen W
  clear hs1 hs2 hs3 hs4 HG ht
  unfold tvc at *
  have hb := hj0.out.bx 0 rfl
  obtain ⟨c0, c1, c2, c3, c4⟩ := hb.c5
  obtain ⟨f0, f1, f2, f3, f4⟩ := hb.f5
  clear hb
  go_enter Tryz.func8, Tryz.ntmps8
  go_wp2
  go_step3
  go_wp2
  refine wp_region_buildT 12 _ #[.string s1, .string s2, .string s3, .string s4] 9 4 _ 21 JS.closed hj0.out hmx (by kernel_rfl) (by kernel_rfl) rfl rfl rfl ?_
  simp only [List.take_succ_cons, List.take_zero, List.drop_succ_cons, List.drop_zero]
  apply Exists.intro
  refine ⟨fun w3 h3 => ?_, fun w' => ?_, fun B W3 hJ3 hb3 hB hbx => ?_⟩
  · haveI := Ext.some h3
    have q0 := ext_at h3 0 0 (v := .bool t.m) rfl rfl
    have q1 := ext_at h3 0 1 (v := .bool t.g) rfl rfl
    have q2 := ext_at h3 0 2 (v := .int .i64 t.cap) rfl rfl
    have q3 := ext_at h3 0 3 (v := .int .u64 t.bl) rfl rfl
    have k1 := Lib.hid (Ext.calls h3 JS.closed (fun W _ => HG1.out W))
    have k2 := Lib.hid (Ext.calls h3 JS.closed (fun W _ => HG2.out W))
    have k3 := Lib.hid (Ext.calls h3 JS.closed HI.out)
    have k4 := Lib.hid (Ext.calls h3 JS.closed HF.out)
    repeat go_big_quiet_step (first | (go_at_call 16; first | (with_reducible exact k1.out _) | (with_reducible exact k2.out _)) | (go_at_call 17; with_reducible exact k3.out _) | (go_at_call 18; with_reducible exact k4.out _))
    exact wpQuiet_nil rfl
  · simp [execOp, Act.eval, go_sem]
  · have hBw : w.heap.size + 1 ≤ B := by simpa using hB
    have A3 : Hid (Ap w [] (hd4 t) (.slice (some ⟨B, 0, none⟩) 4 4) W3) := Lib.hid
      ⟨⟨by rw [h5.out]; rfl, .inr ⟨B, 4, #[.string s1, .string s2, .string s3, .string s4], rfl, by omega, hbx, Nat.le_refl _, by unfold maxLen; omega, rfl, by rw [h5.out]; rfl⟩⟩, J.less hJ3 (fun x hx => by cases hx), fun x hx => by cases hx⟩
    have HJ3 := Lib.hid hJ3
    clear hJ3 c0 c1 c2 c3 c4 f0 f1 f2 f3 f4 hj0 hbx hb3
    obtain ⟨c0, c1, c2, c3, c4⟩ := (HJ3.out.bx 0 rfl).c5
    change wpList _ _ _ _ _ _
    go_wp2_with (go_at_call 19; refine (HFo.out _).mono ?_; rintro e' w4 ⟨bm, rfl, hbm, hfm, hb4⟩; have A4 := Lib.hid (A3.out.next hb4); have HJ4 := Lib.hid (J.next HJ3.out hb4); have HFM := Lib.hid hfm; obtain ⟨p0, p1, p2, p3, p4⟩ := (HJ4.out.bx 0 rfl).c5)
    have hbm0 : w.heap.size ≤ bm := Nat.le_trans HJ3.out.below.size hbm
    clear hfm hb4 hbm c0 c1 c2 c3 c4
    rw [h4.out] at A4
    go_step3
    go_wp2
    clear p0 p1 p2 p3 p4
    go_loopw [3, 26] (fun v i wr => ∃ (j : Nat), i = .int .i64 j ∧ j ≤ n ∧ Hid (Ap w [] (ws { t with es := t.es.take j }) v wr) ∧ Hid (FM wr bm)) (fun _ i _ => n - (intOf i).toNat)
    case atStart => exact ⟨0, rfl, Nat.zero_le _, A4, HFM⟩
    case round =>
      obtain ⟨j, rfl, hjn, HA, HM⟩ := hrel
      rename World => W0
      by_cases hlt : j < n
      · obtain ⟨e, he⟩ : ∃ e, t.es[j]? = some e := ⟨t.es[j]'(by omega), List.getElem?_eq_getElem _⟩
        obtain ⟨b, o, rfl, hbl, d0, d1, d2⟩ := sees_ev HS.out HA.out.j.below he
        have hei : e.In := HT.out.es e (List.mem_of_getElem? he)
        have hnx : Hid (t.es.take (j + 1) = t.es.take j ++ [e]) := Lib.hid (by rw [List.take_add_one, he]; rfl)
        have hwl : Hid ((ws { t with es := t.es.take j }).length ≤ 3004) := Lib.hid (by have := ws_len t (t.es.take j); rw [List.length_take] at this; omega)
        have i1' : (j : Int) < (n : Int) := by omega
        have u1 : IntKind.i64.wrap ((j : Int) + 1) = ((j + 1 : Nat) : Int) := by rw [IntWalk.i64_in _ (by omega)]; omega
        have hws := HA.out.j.below.size
        have hrg : (Instr.range 55 (.map (some bm))).run Tryz.prog (W0.alloc (.cells #[.int .i64 e.k, .int .i64 e.c, .int .i64 e.n] 49)) = .ok (.pointer (some ⟨W0.heap.size + 1, 0, none⟩)) ((W0.alloc (.cells #[.int .i64 e.k, .int .i64 e.c, .int .i64 e.n] 49)).alloc (.mapIter (some bm) 7 #[] 7)) := by
          rw [run_range_map _ 55 9 58 bm (ents 7) 7 Tryz.underlying55 (HM.out.next below_box)]
          simp
        have HB := Lib.hid (Bx.new W0 #[.int .i64 e.k, .int .i64 e.c, .int .i64 e.n] 49)
        clear he
        go_wp2
        obtain ⟨W1, hW1⟩ : ∃ W1 : World, (W0.alloc (.cells #[.int .i64 e.k, .int .i64 e.c, .int .i64 e.n] 49)).alloc (.mapIter (some bm) 7 #[] 7) = W1 := ⟨_, rfl⟩
        have hr1 : W0.heap.size + 1 = (W0.alloc (.cells #[.int .i64 e.k, .int .i64 e.c, .int .i64 e.n] 49)).heap.size := by simp
        have HI0 : Hid (It W1 (W0.heap.size + 1) bm e.k #[] W1) := Lib.hid (by rw [← hW1]; exact It.start _ bm e.k _ hr1)
        have HA1 : Hid (Ap w [(W0.heap.size, #[.int .i64 e.k, .int .i64 e.c, .int .i64 e.n])] (ws { t with es := t.es.take j }) u3 W1) := Lib.hid (by
          have h1 : Ap w [] (ws { t with es := t.es.take j }) u3 W1 := by rw [← hW1]; exact (HA.out.alloc _).alloc _
          refine ⟨h1.own, ⟨h1.j.below, fun x hx => ?_⟩, fun x hx => ?_⟩
          · rw [List.mem_singleton.1 hx, ← hW1]
            exact HB.out.alloc _
          · rw [List.mem_singleton.1 hx]
            intro e2
            have := (HA.out.own.lt _ e2).2
            simp only at this; omega)
        have HM1 : Hid (FM W1 bm) := Lib.hid (by rw [← hW1]; exact (HM.out.next below_box).next below_box)
        have hr0 : w.heap.size ≤ W0.heap.size + 1 := by omega
        have hrb : W0.heap.size + 1 ≠ bm := by
          have := (Array.getElem?_eq_some_iff.1 HM.out).1
          omega
        have hvr : u3.ownBlock ≠ some (W0.heap.size + 1) := fun e2 => by
          have := (HA.out.own.lt _ e2).2
          omega
        rw [hW1]
        clear hW1 hrg d0 d1 d2 hr1 HB
        generalize hR : W0.heap.size + 1 = R at *
        generalize hX : W0.heap.size = X at *
        go_loopw [3] (fun x wr => x = u3 ∧ ∃ seen, Hid (It W1 R bm e.k seen wr)) (fun _ wr => (leftOf (ents 7) (wr.iterSeen R)).size)
        case atStart => exact ⟨rfl, #[], HI0⟩
        case round =>
          obtain ⟨rfl, seen, HIt⟩ := hrel
          have HMr : Hid (FM wr bm) := Lib.hid (HM1.out.kept HIt.out.gr (fun e => hrb (by injection e)))
          rcases HIt.out.step HMr.out hrb with ⟨hn1, hall⟩ | ⟨i, W', hi, hn1, hg1, hen, hIt', hsm, hsn⟩
          · have HAl := Lib.hid hall
            clear hall
            have HAr := Lib.hid (HA1.out.turn HIt.out.gr hvr (fun x hx => by rw [List.mem_singleton.1 hx]; simp only; omega) hr0)
            go_wp2
            go_roundw
            case rel => exact ⟨j + 1, rfl, by omega, Lib.hid (by rw [hnx.out, ws_same HAl.out]; exact HAr.out.nil), HMr⟩
            case measure => simp [intOf]; omega
          · have ek : (ent i).key = .string (S (kw i).1) := rfl
            have ev : (ent i).val = .agg #[.int .i64 i, .bool (kw i).2.1, .bool (kw i).2.2] := rfl
            rw [ek, ev] at hn1 hen
            clear ek ev
            have HAr : Hid (Ap w [(X, #[.int .i64 e.k, .int .i64 e.c, .int .i64 e.n])] (ws { t with es := t.es.take j }) _ W') := Lib.hid (HA1.out.turn (grown_trans HIt.out.gr hg1) hvr (fun x hx => by rw [List.mem_singleton.1 hx]; simp only; omega) hr0)
            have HAq := Lib.hid (HAr.out.alloc (.cells #[.int .i64 i, .bool (kw i).2.1, .bool (kw i).2.2] 58))
            obtain ⟨c0, c1, c2⟩ := (HAq.out.j.bx 0 rfl).c3
            by_cases hik : (i : Int) = e.k
            · have hik' : ((i : Int) == e.k) = true := by simpa using hik
              have hisk : isK e = true := decide_eq_true ⟨by omega, by omega⟩
              have hwe : (kw (i : Int)).1 :: ((if (kw (i : Int)).2.1 then [Lib.itoa e.c] else []) ++ (if (kw (i : Int)).2.2 then [Lib.itoa e.n] else [])) = evw e := by rw [evw_yes hisk, hik]; rfl
              have HFp := Lib.hid (Fput_any (i : Int) (kw (i : Int)).1 (kw (i : Int)).2.1 (kw (i : Int)).2.2 e hei _ (HEn.out _ HAq.out.j.below))
              rw [hwe] at HFp
              unfold fv evv at HFp
              have hml := evw_len e
              have hmp : 0 < (evw e).length := by rw [evw_yes hisk, List.length_cons]; omega
              have HWE := Lib.hid (ws_snoc t (t.es.take j) e)
              have HMq := Lib.hid ((HMr.out.kept hg1 (fun e => hrb (by injection e))).next (W' := W'.alloc (.cells #[.int .i64 i, .bool (kw i).2.1, .bool (kw i).2.2] 58)) below_box)
              clear hIt' hwe hsm hsn hisk hik
              generalize evw e = we at *
              generalize hML : we.length = ml at *
              have HML := Lib.hid hML
              generalize hWL : (ws { t with es := t.es.take j }).length = wl at *
              have HWL := Lib.hid hWL
              have hwl2 := hwl.out
              clear hML hWL
              generalize S (kw i).1 = sk at *
              generalize (kw i).2.1 = b1 at *
              generalize (kw i).2.2 = b2 at *
              have ho1 := HAq.out.own
              rw [HWL.out] at ho1
              go_wp2_with (first
                | (go_at_call 20; refine HFp.out.mono ?_; rintro e' w5 ⟨v5, rfl, ho5, hb5⟩; obtain ⟨g5, cap5, rfl⟩ := own_some ho5 hmp; have A5 := Lib.hid (HAq.out.next hb5); have HM5 := Lib.hid (HMq.out.next hb5); have HO5 := Lib.hid ho5; have hz5 := A5.out.j.below.size; have ho2 := A5.out.own; rw [HWL.out] at ho2; obtain ⟨q0, q1, q2⟩ := (A5.out.j.bx 0 rfl).c3)
                | (at_builtin; refine wpList_append_own_at _ rfl (.tmp 42) (.tmp 46) 54 rfl w.heap.size 9 i1 (.string ByteArray.empty) 1 16 Tryz.underlying54 hj hy0 hy1 hy2 rfl (by omega) _ wl _ rfl ho2 ⟨g5, 0, none⟩ ml cap5 (strs we) rfl (by rw [strs_len, HML.out, Nat.mul_one]) (HO5.out.cells rfl) (strs_one _) (by unfold maxLen; omega) (by omega) (by omega) ?_; intro v6 w6 hown6 hg6 _ hat6; have A6 := Lib.hid (A5.out.app (r := we) HML.out (by rw [HWL.out]; exact hown6) hg6 hat6); have HM6 := Lib.hid (HM5.out.kept hg6 (fun e => A5.out.ne_map HM5.out e))))
              go_roundw
              case rel => exact ⟨j + 1, rfl, by omega, Lib.hid (by rw [hnx.out, HWE.out]; exact A6.out.nil), HM6⟩
              case measure => simp [intOf]; omega
            · have hik' : ((i : Int) == e.k) = false := by simpa using hik
              have HI2 := Lib.hid ((hIt' hik).alloc (.cells #[.int .i64 i, .bool (kw i).2.1, .bool (kw i).2.2] 58))
              have hso := HIt.out.seen_eq
              clear hIt'
              generalize S (kw i).1 = sk at *
              generalize (kw i).2.1 = b1 at *
              generalize (kw i).2.2 = b2 at *
              go_wp2
              go_roundw
              case rel => exact ⟨rfl, _, HI2⟩
              case measure => rw [HI2.out.seen_eq, hso]; exact hsm
      · have i1' : ¬ (j : Int) < (n : Int) := by omega
        obtain rfl : j = n := by omega
        have hwp : 0 < (ws { t with es := t.es.take j }).length := by unfold ws hd4; simp
        obtain ⟨g, cap, rfl, hcap, hg, hcs⟩ := HA.out.form hwp
        have HJo := Lib.hid (Join_any _ g cap W0 hcs hg (by have := ws_len t (t.es.take j); rw [List.length_take] at this; omega) hcap (by rw [← HJn.out]; have := HPL.out t.es HT.out.es; rw [hn] at this; exact Nat.le_trans this (by omega)))
        rw [← HJn.out] at HJo
        generalize (ws { t with es := t.es.take j }).length = N at *
        go_wp2_with (go_at_call 21; refine HJo.out.mono ?_; rintro e' w9 ⟨rfl, h9⟩)
        go_ret
        exact ⟨rfl, below_more HA.out.j.below h9 (Nat.le_refl _)⟩
end Go.Proofs.YthpbcbbiampamaaGreatDoor.Scr
