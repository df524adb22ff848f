/- All events that are read. -/
import Derived.Test.YthpbcbbiampamaaGreatDoorScrK
namespace Go.Proofs.YthpbcbbiampamaaGreatDoor.Scr
open Go.RowKit Go.Maps Go.Proofs.YthpbcbbiampamaaGreatDoor.ScrP Go.Proofs.YthpbcbbiampamaaGreatDoor.Box Go.Proofs.YthpbcbbiampamaaGreatDoor.Held Go.Proofs.YthpbcbbiampamaaGreatDoor.Sees Go.Proofs.YthpbcbbiampamaaGreatDoor.Jrn
set_option linter.unusedVariables false
set_option linter.unusedSimpArgs false
set_option maxRecDepth 100000

theorem info_GEv : (Tryz.prog.info? 49).map (fun i => (i.zero, i.size, i.bytes)) = some (some (.agg #[.int .i64 0, .int .i64 0, .int .i64 0]), 3, 24) := by kernel_rfl
theorem new_cell3 (w : World) (t : TypeId) (a b c : Value) : ∀ j u, [a, b, c][j]? = some u → (w.alloc (.cells #[a, b, c] t)).cell? ((⟨w.heap.size, 0, none⟩ : Addr).add j) = some u := by
  intro j u hj
  rw [Addr.add_lit, Nat.zero_add, World.cell?_alloc_new]
  simpa using hj
/-- a row isn't a map -/
theorem own_ne_map {W : World} {base size : Nat} {e : TypeId} {n : Nat} {xs : List Value} {v : Value} {b : Nat} (h : W.ownsRow base e size v n xs) (hf : FM W b) : v.ownBlock ≠ some b := by
  intro e
  rcases h.2 with ⟨hv, _⟩ | ⟨g, cap, cur, hv, _, hg, _⟩
  · rw [hv] at e; cases e
  · rw [hv] at e
    simp only [Value.ownBlock] at e
    injection e with e
    subst e
    unfold FM at hf
    rw [hg] at hf
    cases hf
/-- events are read -/
structure Er (W0 : World) (X R bm : Nat) (bs : List (Nat × Array Value)) (es : List E) (v : Value) (ls : List By) (b : Bool) (W : World) : Prop where
  re : Re W0 X R bs ls b W
  own : W.ownsRow W0.heap.size 49 3 v es.length (evc es)
  fm : FM W bm
  hbm : W0.heap.size ≤ bm
  ne : ∀ x ∈ bs, v.ownBlock ≠ some x.1
theorem Er.rd {W0 W W' : World} {X R bm : Nat} {bs : List (Nat × Array Value)} {es : List E} {v : Value} {ls ls' : List By} {b b' : Bool} (h : Er W0 X R bm bs es v ls b W) (k : Rd W X R ls' b' W') : Er W0 X R bm bs es v ls' b' W' :=
  ⟨h.re.rd k, h.own.kept k.gr (.inr fun e => by have := (h.own.lt _ e).1; have := h.re.rx; omega), h.fm.kept k.gr (fun e => by injection e with e; have := h.hbm; have := h.re.rx; omega), h.hbm, h.ne⟩
theorem Er.push {W0 W : World} {X R bm : Nat} {bs : List (Nat × Array Value)} {es : List E} {v : Value} {ls : List By} {b : Bool} (h : Er W0 X R bm bs es v ls b W) (cs : Array Value) (t : TypeId) : Er W0 X R bm ((W.heap.size, cs) :: bs) es v ls b (W.alloc (.cells cs t)) :=
  ⟨h.re.push cs t, h.own.alloc _, h.fm.next below_box, h.hbm, fun x hx e => by
    rcases List.mem_cons.1 hx with rfl | hx
    · have := (h.own.lt _ e).2; simp only at this; omega
    · exact h.ne x hx e⟩
theorem Er.bad {W0 W : World} {X R bm : Nat} {bs : List (Nat × Array Value)} {es : List E} {v : Value} {ls : List By} {b : Bool} (h : Er W0 X R bm bs es v ls b W) (b' : Bool) : Er W0 X R bm bs es v ls b' (W.setCell ⟨X, 1, none⟩ (.bool b')) := h.rd ((Rd.refl h.re.us).bad b')
theorem Er.less {W0 W : World} {X R bm : Nat} {bs bs' : List (Nat × Array Value)} {es : List E} {v : Value} {ls : List By} {b : Bool} (h : Er W0 X R bm bs es v ls b W) (hs : ∀ x ∈ bs', x ∈ bs) : Er W0 X R bm bs' es v ls b W := ⟨h.re.less hs, h.own, h.fm, h.hbm, fun x hx => h.ne x (hs x hx)⟩
theorem Us.grown {W W' : World} {X R : Nat} {ls : List By} {b : Bool} {row : Option Nat} (h : Us W X R ls b) (hg : W.grownBy W' row) (hX : row ≠ some X) (hR : row ≠ some R) : Us W' X R ls b := by
  obtain ⟨o, n, c, h1, h2, h3, h4, h5, h6, h7⟩ := h.ex
  exact ⟨⟨o, n, c, h1.kept (hg.block _ h1.lt (fun e => hX e.symm)), h2, h3, h4, h5, Nat.lt_of_lt_of_le h6 hg.size, fun j x hx => (cell_grown hg h6 hR).trans (h7 j x hx)⟩, h.len⟩
theorem Er.app {W0 W W' : World} {X R bm : Nat} {es : List E} {v v' : Value} {ls : List By} {b : Bool} {e : E} (h : Er W0 X R bm [] es v ls b W) (ho : W'.ownsRow W0.heap.size 49 3 v' (es.length + 1) (evc es ++ [.int .i64 e.k, .int .i64 e.c, .int .i64 e.n])) (hg : W.grownBy W' v.ownBlock) : Er W0 X R bm [] (es ++ [e]) v' ls b W' := by
  have hb : ∀ r, v.ownBlock = some r → W0.heap.size ≤ r := fun r hr => (h.own.lt r hr).1
  have hrx := h.re.rx
  refine ⟨⟨h.re.us.grown hg (fun e => by have := hb _ e; omega) (fun e => by have := hb _ e; omega), ?_, (fun x hx => by cases hx), (fun x hx => by cases hx), hrx⟩, by rw [List.length_append, evc_snoc]; exact ho, h.fm.kept hg (own_ne_map h.own h.fm), h.hbm, (fun x hx => by cases hx)⟩
  exact ⟨hg.os.trans h.re.gr.os, hg.tape.trans h.re.gr.tape, hg.output.trans h.re.gr.output, Nat.le_trans h.re.gr.size hg.size, fun i hi hne => (hg.block i (Nat.lt_of_lt_of_le hi h.re.gr.size) (fun e => by have := hb _ e.symm; omega)).trans (h.re.gr.block i hi hne)⟩
/-- how many words are left -/
def lenAt (W : World) (X : Nat) : Nat := match W.cell? ⟨X, 0, none⟩ with
  | some (.slice _ n _) => n
  | _ => 0
theorem Us.len_at {W : World} {X R : Nat} {ls : List By} {b : Bool} (h : Us W X R ls b) : lenAt W X = ls.length := by
  obtain ⟨o, n, c, h1, h2, _⟩ := h.ex
  unfold lenAt
  rw [h1.c2.1, h2]
/-- as far as events were read -/
def Sp (ls : List By) (b : Bool) (es : List E) (ls' : List By) (b' : Bool) : Prop :=
  (b' = false → b = false ∧ ev ls = (ev ls').map (es ++ ·)) ∧ (b' = true → b = true ∨ ev ls = none) ∧ es.length + ls'.length ≤ ls.length
theorem Sp.start (ls : List By) (b : Bool) : Sp ls b [] ls b := ⟨fun h => ⟨h, by cases ev ls <;> simp⟩, fun h => .inl h, by simp⟩
theorem Sp.no {ls : List By} {b : Bool} {es : List E} {x : By} {r : List By} (h : Sp ls b es (x :: r) false) (hk : kd x = none) (e : E) (r' : List By) (hr : r'.length ≤ r.length) : Sp ls b (es ++ [e]) r' true := by
  obtain ⟨h1, h2⟩ := h.1 rfl
  refine ⟨(fun e => by cases e), fun _ => .inr ?_, ?_⟩
  · rw [h2, ev_cons, hk]; rfl
  · have := h.2.2; simp at this ⊢; omega
theorem Sp.yes {ls : List By} {b : Bool} {es : List E} {w : By} {r : List By} (h : Sp ls b es (w :: r) false) {k : Int} {c m : Bool} (hk : kd w = some (k, c, m)) {x y : Int} (hx : Got c r x) (hy : Got m (rt c r) y) : Sp ls b (es ++ [⟨k, x, y⟩]) (rt m (rt c r)) (false || bd c r || bd m (rt c r)) := by
  obtain ⟨h1, h2⟩ := h.1 rfl
  have h3 := h.2.2
  have e1 := rd_got hx
  have e2 := rd_got hy
  have hev : ev (w :: r) = (rd c r).bind fun x => (rd m x.2).bind fun y => (ev y.2).map fun l => ⟨k, x.1, y.1⟩ :: l := by rw [ev_cons, hk]; rfl
  have l1 : (rt c r).length ≤ r.length := by unfold rt; split <;> simp
  have l2 : (rt m (rt c r)).length ≤ (rt c r).length := by generalize rt c r = q; unfold rt; split <;> simp
  rw [e1] at hev
  refine ⟨fun hb => ?_, fun hb => .inr ?_, by simp at h3 ⊢; omega⟩
  · simp only [Bool.false_or, Bool.or_eq_false_iff] at hb
    rw [hb.1] at hev
    simp only [Bool.false_eq_true, if_false, Option.bind_some] at hev
    rw [e2, hb.2] at hev
    simp only [Bool.false_eq_true, if_false, Option.bind_some] at hev
    refine ⟨h1, ?_⟩
    rw [h2, hev]
    cases ev (rt m (rt c r)) <;> simp
  · rw [h2, hev]
    cases hb1 : bd c r
    · rw [hb1] at hb
      simp only [Bool.false_or] at hb
      simp only [Bool.false_eq_true, if_false, Option.bind_some]
      rw [e2, hb]
      simp
    · simp
theorem rt_len (c : Bool) (l : List By) : (rt c l).length ≤ l.length := by unfold rt; split <;> simp
theorem three_one (a b c : Int) : ∀ u ∈ [Value.int .i64 a, .int .i64 b, .int .i64 c], u.oneCell' = true := by
  intro u hu
  simp only [List.mem_cons, List.not_mem_nil, or_false] at hu
  rcases hu with rfl | rfl | rfl <;> rfl
theorem wpList_lookup_run {H : Type} {P : Program} (w : World) {ops : Array Oper} {rest : List Oper} {o : Oper} {a : Act} {Q : Exit → Act → World → Prop}
    (hg : o.guard = none) (m x : Operand) (t : TypeId) (ok : Bool) (hop : o.op = Op.lookup t m x ok) (vm vx v : Value) (hm : a.eval m = vm) (hx : a.eval x = vx)
    (hrun : (Instr.lookup t vm vx ok).run P w = .ok v w) (hK : wpList P ops Q rest (a.put o.dst v) w) : wpList P ops Q (o :: rest) a w := by
  refine wpList_plain hg fun K' hK' => ?_
  unfold Oper.wp
  simp [execOp, hop, hm, hx, hrun, Result.andThen]
  exact hK' _ _ hK
def EvsPost (W : World) (X R : Nat) (ls : List By) (b : Bool) (e : Ending) (W' : World) : Prop :=
  ∃ v es ls' b', e = .returned v ∧ Hid (Sp ls b es ls' b' ∧ (b' = false → ls' = []) ∧ Rd W X R ls' b' W' ∧ W'.ownsRow W.heap.size 49 3 v es.length (evc es))

set_option maxHeartbeats 6400000 in
theorem Events_any (w : World) (hE : Env w) (X R : Nat) (ls : List By) (b : Bool) (W : World) (hB : Below w.heap.size w W) (hX : w.heap.size ≤ X) (h : Us W X R ls b) (hlen : ls.length ≤ 100000) :
    Calls Tryz.prog 28 #[.pointer (some ⟨X, 0, none⟩)] W (EvsPost W X R ls b) := by
  obtain ⟨i1, hj, hy0, hy1, hy2⟩ := info_parts info_GEv
  have HF := Lib.hid (fun W => forms_any W)
  have HNx : Hid (∀ {ls} {b} W', Us W' X R ls b → Calls Tryz.prog 44 #[.pointer (some ⟨X, 0, none⟩)] W' fun e W'' => e = .returned (.string (S (hd ls))) ∧ Hid (Rd W' X R ls.tail b W'')) := Lib.hid fun W' k => Next_any X R _ _ W' k
  have HEv : Hid (∀ {bs} {ls} {b} (k : Int) (c m : Bool) W', Re W X R bs ls b W' → Calls Tryz.prog 47 #[.pointer (some ⟨X, 0, none⟩), fv (k, c, m)] W' (EvPost W' X R k c m ls b)) := Lib.hid fun k c m W' h => Event_any w hE X R k c m _ _ W' (h.below hB hX) hX h.us
  have R0 := Lib.hid (Re.start h)
  have HLn := Lib.hid hlen
  clear h hE hB hlen
  go_enter Tryz.func28, Tryz.ntmps28
  go_wp2_with (go_at_call 19; refine (HF.out _).mono ?_; rintro e' w1 ⟨bm, rfl, hbm, hfm, hb1⟩; have R1 := Lib.hid (R0.out.next hb1); have HFM := Lib.hid hfm)
  have E0 : Hid (Er W X R bm [] [] (.slice none 0 0) ls b w1) := Lib.hid ⟨R1.out, World.ownsRow_nil _ _ _ _, HFM.out, hbm, fun x hx => by cases hx⟩
  clear hfm hb1 HF
  go_loopw [3] (fun v wr => ∃ es ls' b', Hid (Er W X R bm [] es v ls' b' wr) ∧ Hid (Sp ls b es ls' b')) (fun _ wr => lenAt wr X)
  case atStart => exact ⟨[], ls, b, E0, Lib.hid (Sp.start ls b)⟩
  case round =>
    obtain ⟨es, ls', b', HR, HS⟩ := hrel
    obtain ⟨o, n, c, h1, h2, h3, h4, h5, h6, h7⟩ := HR.out.re.us.ex
    obtain ⟨c0, c1⟩ := h1.c2
    have hml := HR.out.re.us.len_at
    clear h1 h5 h6 h7
    have HLS := Lib.hid HR.out.re.us.len
    cases ls' with
    | nil =>
      obtain rfl : n = 0 := by simpa using h2.symm
      have HE : Hid (EvsPost W X R ls b (.returned u3) wr) := Lib.hid ⟨_, es, [], b', rfl, Lib.hid ⟨HS.out, fun _ => rfl, HR.out.re.to, HR.out.own⟩⟩
      go_wp2
      go_ret
      exact HE.out
    | cons x r =>
      obtain ⟨m, rfl⟩ : ∃ m, n = m + 1 := ⟨r.length, by rw [← h2]; rfl⟩
      have n0 : (0 : Int) < (m : Int) + 1 := by omega
      cases b'
      · have HK : Hid (Calls Tryz.prog 44 #[.pointer (some ⟨X, 0, none⟩)] wr fun e W'' => e = .returned (.string (S x)) ∧ Hid (Rd wr X R r false W'')) := Lib.hid (HNx.out wr HR.out.re.us)
        have HLk : Hid (∀ {W'}, FM W' bm → (Instr.lookup 55 (.map (some bm)) (.string (S x)) true).run Tryz.prog W' = .ok (.tuple #[(match kd x with | some x => fv x | none => z0), .bool (kd x).isSome]) W') := Lib.hid fun h => look h x (Nat.le_trans (HLS.out x List.mem_cons_self) (by decide))
        have hbn : es.length + (r.length + 1) ≤ 100000 := Nat.le_trans HS.out.2.2 HLn.out
        have hso := HR.out.own
        have hsp := Lib.hid HS.out
        clear h2 HNx
        cases hk : kd x with
        | none =>
          rw [hk] at HLk
          unfold z0 fv at HLk
          simp only [Option.isSome_none] at HLk
          generalize S x = sx at *
          go_wp2_with (first
            | (go_at_call 44; refine HK.out.mono ?_; rintro e' w2 ⟨rfl, K2⟩; have E2 := Lib.hid (HR.out.rd K2.out); have hlk := HLk.out E2.out.fm; have HL2 := Lib.hid hlk; clear hlk; have E3 := Lib.hid (E2.out.push #[.int .i64 0, .bool false, .bool false] 58); obtain ⟨d1, g1⟩ := E3.out.re.to.cells; have E4 := Lib.hid (E3.out.bad true); obtain ⟨q0, q1, q2⟩ := (E4.out.re.bx 0 rfl).c3)
            | (at_lookup; refine wpList_lookup_run (H := Unit) _ rfl _ _ 55 true rfl _ _ _ rfl rfl HL2.out ?_)
            | (go_at_call 47; refine (HEv.out 0 false false _ E4.out.re).mono ?_; clear q0 q1 q2 d1 g1; rintro e' w5 ⟨a5, y5, he5, H5⟩; obtain rfl : e' = .returned (.agg #[.int .i64 0, .int .i64 a5, .int .i64 y5]) := he5; have E5 := Lib.hid (E4.out.rd H5.out.2.2); have E6 := Lib.hid ((E5.out.push #[.int .i64 0, .int .i64 a5, .int .i64 y5] 49).less (bs' := []) (fun x hx => by cases hx)); have hz5 : W.heap.size ≤ w5.heap.size := E5.out.re.gr.size; have HO6 := Lib.hid E6.out.own)
            | (at_builtin; (refine wpList_append_own_at _ rfl (.tmp 33) (.tmp 37) 23 rfl W.heap.size 49 i1 (.agg #[.int .i64 0, .int .i64 0, .int .i64 0]) 3 24 Tryz.underlying23 hj hy0 hy1 hy2 rfl (by omega) _ es.length _ rfl HO6.out ⟨w5.heap.size, 0, none⟩ 1 1 [.int .i64 0, .int .i64 a5, .int .i64 y5] rfl rfl (new_cell3 _ _ _ _ _) (three_one _ _ _) (by unfold maxLen; omega) (by omega) (by simp; omega) ?_; intro v6 w6 hown6 hg6 _ hat6; have E7 := Lib.hid (E6.out.app (e := ⟨0, a5, y5⟩) hown6 hg6))))
          go_roundw
          case rel => exact ⟨_, _, _, E7, Lib.hid (HS.out.no hk ⟨0, a5, y5⟩ r (Nat.le_refl _))⟩
          case measure => rw [hml, E7.out.re.us.len_at]; show r.length < r.length + 1; omega
        | some y =>
          obtain ⟨k, c, m⟩ := y
          rw [hk] at HLk
          unfold fv at HLk
          simp only [Option.isSome_some] at HLk
          generalize S x = sx at *
          go_wp2_with (first
            | (go_at_call 44; refine HK.out.mono ?_; rintro e' w2 ⟨rfl, K2⟩; have E2 := Lib.hid (HR.out.rd K2.out); have hlk := HLk.out E2.out.fm; have HL2 := Lib.hid hlk; clear hlk; have E3 := Lib.hid (E2.out.push #[.int .i64 k, .bool c, .bool m] 58); obtain ⟨d1, g1⟩ := E3.out.re.to.cells; have E4 := Lib.hid (E3.out.bad false); obtain ⟨q0, q1, q2⟩ := (E4.out.re.bx 0 rfl).c3)
            | (at_lookup; refine wpList_lookup_run (H := Unit) _ rfl _ _ 55 true rfl _ _ _ rfl rfl HL2.out ?_)
            | (go_at_call 47; refine (HEv.out k c m _ E4.out.re).mono ?_; clear q0 q1 q2 d1 g1; rintro e' w5 ⟨a5, y5, he5, H5⟩; obtain rfl : e' = .returned (.agg #[.int .i64 k, .int .i64 a5, .int .i64 y5]) := he5; have E5 := Lib.hid (E4.out.rd H5.out.2.2); have E6 := Lib.hid ((E5.out.push #[.int .i64 k, .int .i64 a5, .int .i64 y5] 49).less (bs' := []) (fun x hx => by cases hx)); have hz5 : W.heap.size ≤ w5.heap.size := E5.out.re.gr.size; have HO6 := Lib.hid E6.out.own)
            | (at_builtin; (refine wpList_append_own_at _ rfl (.tmp 33) (.tmp 37) 23 rfl W.heap.size 49 i1 (.agg #[.int .i64 0, .int .i64 0, .int .i64 0]) 3 24 Tryz.underlying23 hj hy0 hy1 hy2 rfl (by omega) _ es.length _ rfl HO6.out ⟨w5.heap.size, 0, none⟩ 1 1 [.int .i64 k, .int .i64 a5, .int .i64 y5] rfl rfl (new_cell3 _ _ _ _ _) (three_one _ _ _) (by unfold maxLen; omega) (by omega) (by simp; omega) ?_; intro v6 w6 hown6 hg6 _ hat6; have E7 := Lib.hid (E6.out.app (e := ⟨k, a5, y5⟩) hown6 hg6))))
          go_roundw
          case rel => exact ⟨_, _, _, E7, Lib.hid (HS.out.yes hk H5.out.1 H5.out.2.1)⟩
          case measure => rw [hml, E7.out.re.us.len_at]; have := rt_len c r; have := rt_len m (rt c r); show (rt m (rt c r)).length < r.length + 1; omega
      · have HE : Hid (EvsPost W X R ls b (.returned u3) wr) := Lib.hid ⟨_, es, _, true, rfl, Lib.hid ⟨HS.out, (fun e => by cases e), HR.out.re.to, HR.out.own⟩⟩
        go_wp2
        go_ret
        exact HE.out
end Go.Proofs.YthpbcbbiampamaaGreatDoor.Scr
