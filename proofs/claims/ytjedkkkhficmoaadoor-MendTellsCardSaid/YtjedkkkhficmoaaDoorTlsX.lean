import Derived.Test.YtjedkkkhficmoaaDoorJrnX0
import Derived.Test.YtjedkkkhficmoaaDoorSeesN
import Derived.Test.YtjedkkkhficmoaaDoorMndX
import Derived.Test.YtjedkkkhficmoaaDoorJrnY0
import Derived.Deep.CutRange
import Derived.Deep.LoopGhost
import Derived.Deep.DeepMust
import Derived.BigQuiet
import Derived.WalkMore
import Derived.Test.YtjedkkkhficmoaaDoorSlotX
import Derived.LoopN

/- The law's own of. -/
namespace Go.Proofs.YtjedkkkhficmoaaDoor.Jrn
open Go.RowKit Go.Proofs.YtjedkkkhficmoaaDoor.Plain Go.Proofs.YtjedkkkhficmoaaDoor.Sees Go.Proofs.YtjedkkkhficmoaaDoor.Oct Go.Proofs.YtjedkkkhficmoaaDoor.Crc Go.Proofs.YtjedkkkhficmoaaDoor.Box Go.Proofs.YtjedkkkhficmoaaDoor.Held Go.Proofs.YtjedkkkhficmoaaDoor.JrnP Go.Proofs.YtjedkkkhficmoaaDoor.Open Go.Proofs.YtjedkkkhficmoaaDoor.LgrP
set_option linter.unusedVariables false
set_option maxRecDepth 100000

theorem info_rp17 : (Tryd.prog.info? 73).map (fun i => (i.zero, i.size, i.bytes)) = some (some (.agg #[.int .i64 0, .int .i64 0]), 2, 16) := by kernel_rfl
/-- a ledger is answered, in whatever memory, and memory made alone -/
def OfP17 (w : World) (b m k : Int) (l : List Pm) (e : Ending) (w' : World) : Prop := ∃ A c, e = .returned (Lg.val ⟨b, m, k, A, c, l⟩) ∧ Lg.In w' ⟨b, m, k, A, c, l⟩ ∧ Below w.heap.size w w'

set_option maxHeartbeats 6400000 in
theorem of17_any (x : Lg) (w : World) (hx : x.In w) (hl : x.l.length ≤ 100) : Calls Tryd.prog 13 #[x.val] w (OfP17 w x.b x.m x.k x.l) := by
  obtain ⟨hcap, hmax, hsee⟩ := hx
  obtain ⟨b, m, k, A, cap, l⟩ := x
  unfold Lg.val
  simp only at hcap hmax hsee hl ⊢
  obtain ⟨i0, hi, hz0, hz1, hz2⟩ := info_parts info_rp17
  obtain ⟨n, hn⟩ : ∃ n, l.length = n := ⟨_, rfl⟩
  rw [hn] at hl hcap ⊢
  have HN := Lib.hid hn
  have HS := Lib.hid hsee
  have hj0 := ((J.one w #[.int .i64 b, .int .i64 m, .int .i64 k, .slice A n cap] 32).push #[.int .i64 0, .int .i64 0, .int .i64 0, .slice none 0 0] 42).push #[.int .i64 0, .int .i64 0, .int .i64 0, .slice none 0 0] 42
  have hj := Lib.hid (((J.one w #[.int .i64 b, .int .i64 m, .int .i64 k, .slice A n cap] 32).push #[.int .i64 0, .int .i64 0, .int .i64 0, .slice none 0 0] 42).push #[.int .i64 b, .int .i64 m, .int .i64 k, .slice none 0 0] 42)
  simp only [World.size_alloc] at hj hj0
  obtain ⟨z0, z1, z2, z3⟩ := (hj0.bx 0 rfl).c4
  obtain ⟨f0, f1, f2, f3⟩ := (hj0.bx 0 rfl).f4
  obtain ⟨a0, a1, a2, a3⟩ := (hj0.bx 2 rfl).c4
  have hb1 := (J.one w #[.int .i64 b, .int .i64 m, .int .i64 k, .slice A n cap] 32).push #[.int .i64 0, .int .i64 0, .int .i64 0, .slice none 0 0] 42
  obtain ⟨b0, b1, b2, b3⟩ := (hb1.bx 1 rfl).c4
  clear hn hsee hcap hmax hj0 hb1
  go_enter Tryd.func13, Tryd.ntmps13
  go_wp2
  clear z0 z1 z2 z3 f0 f1 f2 f3 a0 a1 a2 a3 b0 b1 b2 b3
  obtain ⟨T, hT⟩ : ∃ T, w.heap.size + 1 + 1 = T := ⟨_, rfl⟩
  rw [hT] at hj ⊢
  have hTs := (hj.out.bx 0 rfl).lt
  go_loopw [4] (fun i wr => ∃ (q : Nat) (v : Value), q ≤ n ∧ i = .int .i64 q ∧ Hid (J w wr [(T, #[.int .i64 b, .int .i64 m, .int .i64 k, v]), (w.heap.size + 1, #[.int .i64 0, .int .i64 0, .int .i64 0, .slice none 0 0]), (w.heap.size, #[.int .i64 b, .int .i64 m, .int .i64 k, .slice A n cap])]) ∧ wr.ownsRow (T + 1) 73 2 v q (pms (l.take q))) (fun i _ => n - (intOf i).toNat)
  case atStart => exact ⟨0, _, Nat.zero_le _, rfl, hj, by simpa [pms] using World.ownsRow_nil _ _ _ _⟩
  case round =>
    obtain ⟨q, v, hq, rfl, hjr, hown⟩ := hrel
    clear hj hTs
    have hwr : T + 1 ≤ wr.heap.size := (hjr.out.bx 0 rfl).lt
    obtain ⟨a0, a1, a2, a3⟩ := (hjr.out.bx 2 rfl).c4
    obtain ⟨b0, b1, b2, b3⟩ := (hjr.out.bx 0 rfl).c4
    by_cases hlt : q < n
    · obtain ⟨p, bb, o, hp, rfl, hbb, c0, c1⟩ := pm_at (HS.out.below hjr.out.below (Nat.le_refl _)) (i := q) (by rw [HN.out]; exact hlt)
      have HT : Hid (pms (l.take (q + 1)) = pms (l.take q) ++ pms [p]) := Lib.hid (by rw [List.take_add_one, hp]; exact pms_append _ _)
      obtain ⟨pc, pp⟩ := p
      simp only at c0 c1
      have i1 : (q : Int) < (n : Int) := by omega
      have e3 : IntKind.i64.wrap ((q : Int) + 1) = ((q + 1 : Nat) : Int) := by rw [IntWalk.i64_in _ (by omega)]; rfl
      have HLT := Lib.hid hlt
      have hjS : Hid (JS wr [] wr) := Lib.hid (J.start wr)
      have hmx : Tryd.prog.follows .mixedOrders = true := by kernel_rfl
      have hbb2 : bb < wr.heap.size := by have := hjr.out.below.size; omega
      clear hp hlt a0 a1 a2 b0 b1 b2
      go_wp2
      refine wp_region_build 15 _ #[.int .i64 pc, .int .i64 pp] 73 1 _ 34 JS.closed hjS.out hmx (by kernel_rfl) (by kernel_rfl) rfl rfl rfl ?_
      simp only [List.take_succ_cons, List.take_zero, List.drop_succ_cons, List.drop_zero]
      apply Exists.intro
      have hTw : T < wr.heap.size := by omega
      have hww : w.heap.size < wr.heap.size := by omega
      refine ⟨fun w10 h10 => ?_, ?_, fun B W1 hJ1 hb1 hB hBx => ?_⟩
      · haveI := Ext.some h10
        have q0 := ext_old h10 (a := ⟨T, 3, none⟩) hTw b3
        have q1 := ext_old h10 (a := ⟨w.heap.size, 3, none⟩) hww a3
        have q2 := ext_old h10 (a := ⟨bb, o + q * 2, none⟩) hbb2 c0
        have q3 := ext_old h10 (a := ⟨bb, o + q * 2 + 1, none⟩) hbb2 c1
        repeat go_big_quiet_step (fail)
        exact wpQuiet_nil rfl
      · intro w'
        simp [execOp, Act.eval, go_sem]
      have hB1 : Below wr.heap.size wr W1 := J.below hJ1
      have hj1 := Lib.hid (hjr.out.next hB1)
      have hrow1 := own_below hown hB1 (fun k hk => (hown.lt k hk).2)
      have hW1 : T + 1 ≤ W1.heap.size := by have := hB1.size; omega
      have HBx := Lib.hid hBx
      clear a3 b3 c0 c1 hJ1 hb1 hjS hB1 hown hBx hjr
      change wpList _ _ _ _ _ _
      go_wp2_with (at_builtin; refine wpList_append_seesN _ rfl _ _ 40 rfl (T + 1) 73 i0 (.agg #[.int .i64 0, .int .i64 0]) 2 16 Tryd.underlying40 hi hz0 hz1 hz2 rfl (by decide) _ _ _ rfl hrow1 (B + 1) (some ⟨B, 0, none⟩) 1 1 (pms [⟨pc, pp⟩]) rfl (by simp [pms, Pm.cells]) (.inr ⟨B, 0, rfl, by omega, fun j u hu => by rw [Nat.zero_add]; exact HBx.out.cell (by simpa [pms, Pm.cells] using hu)⟩) (pms_one _) (by unfold maxLen; omega) (by omega) (by omega) ?_; intro v' w11 hown11 hg11; obtain ⟨g', c3, rfl⟩ := ownsRow_succ hown11; have hT11 := Lib.hid (j_grew hj1.out hg11.by_ (fun g e => (hrow1.lt g e).1) (by omega) (fun x hx => by simp at hx; rcases hx with rfl | rfl | rfl <;> simp only <;> omega)); obtain ⟨b0, b1, b2, b3⟩ := (hT11.out.bx 0 rfl).c4; obtain ⟨f0, f1, f2, f3⟩ := (hT11.out.bx 0 rfl).f4)
      go_roundw
      case rel =>
        refine ⟨q + 1, .slice (some ⟨g', 0, none⟩) (q + 1) c3, by omega, rfl, Lib.hid (hT11.out.put (by omega) (fun x hx => by simp at hx; rcases hx with rfl | rfl <;> simp only <;> omega) 3 (.slice (some ⟨g', 0, none⟩) (q + 1) c3)), ?_⟩
        rw [HT.out]
        exact ownsRow_setCell_other hown11 (a := ⟨T, 3, none⟩) (fun e => by have := (hown11.lt T e).1; omega) _
      case measure => have := HLT.out; simp [intOf]; omega
    · obtain rfl : q = n := by omega
      rw [List.take_of_length_le (by rw [HN.out]; exact Nat.le_refl _)] at hown
      obtain ⟨A5, c5, rfl⟩ : ∃ A c, v = .slice A q c := by
        rcases hown.2 with ⟨rfl, h0⟩ | ⟨g, cap, cur, rfl, _⟩
        · exact ⟨none, 0, by rw [h0]⟩
        · exact ⟨_, _, rfl⟩
      have hcm5 := own_cap hown
      have HS5 := Lib.hid (And.intro (TS.own hown) hown.lt)
      obtain ⟨b0, b1, b2, b3⟩ := (hjr.out.bx 0 rfl).c4
      obtain ⟨z0, z1, z2, z3⟩ := (hjr.out.bx 1 rfl).c4
      obtain ⟨f0, f1, f2, f3⟩ := (hjr.out.bx 1 rfl).f4
      clear hown
      go_wp2
      have hne : ∀ x ∈ ([] : List (Nat × Array Value)), x.1 ≠ w.heap.size + 1 := fun x hx => by cases hx
      have hje := ((((hjr.out.less (bs' := [(w.heap.size + 1, #[.int .i64 0, .int .i64 0, .int .i64 0, .slice none 0 0])]) (by simp)).put (by omega) hne 0 (.int .i64 b)).put (by omega) hne 1 (.int .i64 m)).put (by omega) hne 2 (.int .i64 k)).put (by omega) hne 3 (.slice A5 q c5)
      obtain ⟨k0, k1, k2, k3⟩ := (hje.bx 0 rfl).c4
      have hTe := ts_sets HS5.out.1 (X := w.heap.size + 1) (fun g hg => by have := (HS5.out.2 g hg).1; omega) (.int .i64 b) (.int .i64 m) (.int .i64 k) (.slice A5 q c5)
      refine bodyPost_ret (v := .agg #[.int .i64 b, .int .i64 m, .int .i64 k, .slice A5 q c5]) (by simp [results, Tryd.results13, go_sem, k0, k1, k2, k3]) rfl ⟨A5, c5, by simp only [Lg.val, HN.out], ⟨by simp only [HN.out]; exact hcm5.1, hcm5.2, hTe.sees⟩, hje.below⟩

theorem of17_at {W : World} {A : Option Addr} {c n : Nat} {l : List Pm} (h : LI W A c n l) (hn : n ≤ 100) (b m k : Int) : Calls Tryd.prog 13 #[.agg #[.int .i64 b, .int .i64 m, .int .i64 k, .slice A n c]] W fun e w' => ∃ A' c', e = .returned (.agg #[.int .i64 b, .int .i64 m, .int .i64 k, .slice A' n c']) ∧ LI w' A' c' n l ∧ Below W.heap.size W w' := by
  have := of17_any ⟨b, m, k, A, c, l⟩ W (h.lg b m k) (by simp only [h.len]; exact hn)
  rw [h.val] at this
  refine this.mono ?_
  rintro e w' ⟨A', c', rfl, h2, h3⟩
  have hl : LI w' A' c' n l := ⟨h.len, by have := h2.cap_; simp only [h.len] at this; exact this, h2.max_, h2.see⟩
  exact ⟨A', c', by rw [hl.val], hl, h3⟩

end Go.Proofs.YtjedkkkhficmoaaDoor.Jrn

/- The contract of the reference's Again. -/
namespace Go.Proofs.YtjedkkkhficmoaaDoor.Mnd
open Go.RowKit Go.Proofs.YtjedkkkhficmoaaDoor.SatP Go.Proofs.YtjedkkkhficmoaaDoor.LgrP Go.Proofs.YtjedkkkhficmoaaDoor.MndP Go.Proofs.YtjedkkkhficmoaaDoor.Open Go.Proofs.YtjedkkkhficmoaaDoor.Sees Go.Proofs.YtjedkkkhficmoaaDoor.Box Go.Proofs.YtjedkkkhficmoaaDoor.Held Go.Proofs.YtjedkkkhficmoaaDoor.Jrn Go.Proofs.YtjedkkkhficmoaaDoor.Oct Go.Proofs.YtjedkkkhficmoaaDoor.Plain
set_option linter.unusedVariables false
set_option linter.unusedSimpArgs false
set_option maxRecDepth 100000

theorem get_few {z : List Int} (hb : By z) : 8 * (JrnP.get z).l.length ≤ z.length := by
  unfold JrnP.get
  rcases ho : JrnP.opn z with _ | x
  · exact Nat.zero_le _
  · simp only
    rcases hp : parts x with _ | rows
    · exact Nat.zero_le _
    · simp only
      have hx := Jrn.opn_len ho
      have hr := (parts_small x.length x rows (Nat.le_refl _) (Jrn.opn_in ho hb) hp).2
      unfold JrnP.getR
      split
      · rename_i r0 r1 r2
        have h2 := (hr r2 (by simp)).1
        split
        · split
          · simp only [JrnP.gp_len]; omega
          · exact Nat.zero_le _
        · exact Nat.zero_le _
      · exact Nat.zero_le _
theorem best_few {p : Int} {x y : JrnP.G} {N : Nat} (hx : x.l.length ≤ N) (hy : y.l.length ≤ N) : (JrnP.best p x y).l.length ≤ N := by
  unfold JrnP.best
  split
  · exact hy
  · exact hx
theorem load_few {z0 z1 : List Int} (h0 : By z0) (h1 : By z1) (k0 : z0.length ≤ 1000) (k1 : z1.length ≤ 1000) : (JrnP.load z0 z1).l.length ≤ 200 := by
  have g0 := get_few h0
  have g1 := get_few h1
  exact best_few (best_few (Nat.zero_le _) (by omega)) (by omega)

/-- was nobody ahead named so? -/
def fst (l : List Mv) (c : Int) (j : Nat) : Bool := (l.take j).all fun q => decide (q.c ≠ c)
/-- is it passed over, as far as was looked? -/
def nmd (l : List Mv) (c : Int) (j : Nat) : Bool := !(inC c && fst l c j)
theorem nmd_succ {l : List Mv} {c : Int} {j : Nat} {q : Mv} (h : l[j]? = some q) : nmd l c (j + 1) = (nmd l c j || decide (q.c = c)) := by
  unfold nmd fst
  rw [List.take_add_one, h]
  cases inC c <;> by_cases e : q.c = c <;> simp [e]
theorem nmd_zero (l : List Mv) (c : Int) : nmd l c 0 = !inC c := by simp [nmd, fst]
theorem nmd_run {t : List Pm} {b : Int} {l : List Mv} {i : Nat} (hi : i ≤ l.length) {c : Int} : nmd l c i = false ↔ inC c = true ∧ c ∉ (run t b (l.take i)).n := by
  unfold nmd
  rw [Bool.not_eq_false', Bool.and_eq_true]
  refine and_congr_right fun hc => ?_
  rw [mem_n hc l i hi]
  unfold fst
  rw [List.all_eq_true]
  constructor
  · rintro h ⟨j, m, h1, h2, h3⟩
    have := h m (List.mem_of_getElem? (i := j) (by rw [List.getElem?_take_of_lt h1]; exact h2))
    simp [h3] at this
  · intro h q hq
    obtain ⟨j, hj⟩ := List.getElem?_of_mem hq
    have hlt := (List.getElem?_eq_some_iff.1 hj).1
    have hji : j < i := by simp at hlt; omega
    rw [List.getElem?_take_of_lt hji] at hj
    simp only [decide_eq_true_eq]
    exact fun e => h ⟨j, q, hji, hj, e⟩

theorem own_typed {W W' : World} {b1 b2 : Nat} {e1 e2 : TypeId} {s1 s2 : Nat} {v1 v2 : Value} {n1 n2 : Nat} {x1 x2 : List Value} (h1 : W.ownsRow b1 e1 s1 v1 n1 x1) (h2 : W.ownsRow b2 e2 s2 v2 n2 x2) (he : e1 ≠ e2) (hg : W.grownBy W' v2.ownBlock) : W'.ownsRow b1 e1 s1 v1 n1 x1 := by
  refine h1.kept hg ?_
  rcases h1.2 with ⟨rfl, _⟩ | ⟨g, cap, cur, rfl, _, hh, _⟩
  · exact .inl (by simp [Value.ownBlock])
  · refine .inr fun e => ?_
    rcases h2.2 with ⟨rfl, _⟩ | ⟨g2, cap2, cur2, rfl, _, hh2, _⟩
    · simp [Value.ownBlock] at e
    · simp [Value.ownBlock] at e
      subst e
      rw [hh] at hh2
      injection hh2 with hh2
      injection hh2 with _ h4
      exact he h4
theorem own_slice' {W : World} {base : Nat} {e : TypeId} {size : Nat} {v : Value} {n : Nat} {xs : List Value} (h : W.ownsRow base e size v n xs) : ∃ A c, v = .slice A n c := by
  rcases h.2 with ⟨rfl, h0⟩ | ⟨g, cap, cur, rfl, _⟩
  · exact ⟨none, 0, by rw [h0]⟩
  · exact ⟨_, _, rfl⟩
/-- over w3: the ledger's block is the next one -/
structure RI (w3 wr : World) (b mg : Int) (u v : Value) (l : List Pm) (s : List Int) (nl ns : Nat) : Prop where
  be : Below w3.heap.size w3 wr
  bx : BxT wr w3.heap.size #[.int .i64 b, .int .i64 mg, .int .i64 0, u] 42
  ln : l.length = nl
  sn : s.length = ns
  rl : wr.ownsRow (w3.heap.size + 1) 73 2 u nl (pms l)
  rs : wr.ownsRow (w3.heap.size + 1) 3 1 v ns (nums .i64 s)
section
variable {w3 wr w' : World} {b mg : Int} {u u' v v' : Value} {l : List Pm} {s : List Int} {nl ns : Nat}
theorem RI.next (h : RI w3 wr b mg u v l s nl ns) (hb : Below wr.heap.size wr w') : RI w3 w' b mg u v l s nl ns :=
  ⟨h.be.trans (hb.mono h.be.size), h.bx.next hb, h.ln, h.sn, own_next' h.rl hb, own_next' h.rs hb⟩
theorem RI.app (h : RI w3 wr b mg u v l s nl ns) {c : Int} (ho : w'.ownsRow (w3.heap.size + 1) 3 1 v' (ns + 1) (nums .i64 (s ++ [c]))) (hg : wr.grownBy w' v.ownBlock) : RI w3 w' b mg u v' l (s ++ [c]) nl (ns + 1) :=
  ⟨h.be.grown hg h.be.size (fun r e => by have := (h.rs.lt r e).1; omega), grown_cells h.bx hg (fun g e => by have := (h.rs.lt g e).1; omega), h.ln, by simp [h.sn], own_typed h.rl h.rs (by decide) hg, ho⟩
theorem RI.put (h : RI w3 wr b mg u v l s nl ns) {p : Pm} (ho : w'.ownsRow (w3.heap.size + 1) 73 2 u' (nl + 1) (pms (l ++ [p]))) (hg : wr.grownBy w' u.ownBlock) : RI w3 (w'.setCell ⟨w3.heap.size, 3, none⟩ u') b mg u' v (l ++ [p]) s (nl + 1) ns :=
  have hbx : BxT w' w3.heap.size #[.int .i64 b, .int .i64 mg, .int .i64 0, u] 42 := grown_cells h.bx hg (fun g e => by have := (h.rl.lt g e).1; omega)
  have hrs := own_typed h.rs h.rl (by decide) hg
  ⟨(h.be.grown hg h.be.size (fun r e => by have := (h.rl.lt r e).1; omega)).setCell (p := ⟨w3.heap.size, 3, none⟩) (Nat.le_refl _) _, hbx.set 3 _, by simp [h.ln], h.sn,
    ownsRow_setCell_other ho (a := ⟨w3.heap.size, 3, none⟩) (fun e => by have := (ho.lt _ e).1; simp only at this; omega) _, ownsRow_setCell_other hrs (a := ⟨w3.heap.size, 3, none⟩) (fun e => by have := (hrs.lt _ e).1; simp only at this; omega) _⟩
end
/-- what the walk knows besides: what was told, the result's block, what was handed in -/
structure RK (w w3 : World) (X6 X8 : Nat) (A : Option Addr) (c gn : Nat) (gb gm : Int) (gl : List Pm) : Prop where
  be : Below w.heap.size w w3
  z : BxT w3 X6 #[.int .i64 0, .int .i64 0, .int .i64 0, .slice none 0 0] 42
  t : BxT w3 X8 #[.int .i64 gb, .int .i64 gm, .int .i64 0, .slice A gn c] 42
  l : LI w3 A c gn gl
theorem RK.next {w w3 w' : World} {X6 X8 : Nat} {A : Option Addr} {c gn : Nat} {gb gm : Int} {gl : List Pm} (h : RK w w3 X6 X8 A c gn gb gm gl) (hb : Below w3.heap.size w3 w') : RK w w' X6 X8 A c gn gb gm gl :=
  ⟨h.be.trans (hb.mono h.be.size), h.z.next hb, h.t.next hb, h.l.next hb⟩
/-- the most that one may draw, by the permit that was told -/
def top1 (t : List Pm) (v : Mv) : Int := if 0 ≤ idx t v.c then max v.p (had t v.c).p else v.p
theorem top_dr (t : List Pm) (v : Mv) : cut (top1 t v) = dr t v := by
  unfold top1 dr
  by_cases h : 0 ≤ idx t v.c
  · rw [if_pos h]
  · rw [if_neg h]
    have : had t v.c = ⟨0, 0⟩ := if_pos (by omega)
    rw [this]
    unfold cut
    simp only
    omega

set_option maxHeartbeats 51200000 in
theorem rAgain_any (z0 z1 : List Int) (la : Int) (SW : ByteArray) (lv : List Mv) (a : Option Addr) (n1 cp1 : Nat) (bud : Int) (w : World) (k0 : z0.length ≤ 1000) (k1 : z1.length ≤ 1000) (b0 : By z0) (b1 : By z1) (hl : lv.length = n1) (hn : n1 ≤ 1000) (hs : Sees w w.heap.size a (mvs lv)) {cb gm : Int} {t : List Pm} {x9 : St} {nl9 ns9 : Nat}
    (hcb : cut bud = cb) (hgm : (JrnP.load z0 z1).m = gm) (ht : (JrnP.load z0 z1).l = t) (hx9 : run t cb lv = x9) (h1 : x9.l.length = nl9) (h2 : x9.s.length = ns9) :
    Calls Tryd.prog 11 #[.agg #[.string (strOfNums z0), .string (strOfNums z1), .int .i64 la, .string SW], .slice a n1 cp1, .int .i64 bud] w fun e w' => ∃ A c A2 c2, e = .returned (.tuple #[.agg #[.int .i64 cb, .int .i64 gm, .int .i64 0, .slice A nl9 c], .slice A2 ns9 c2]) ∧ LI w' A c nl9 x9.l ∧ NI w' A2 c2 ns9 x9.s ∧ Below w.heap.size w w' := by
  have HLd : Hid (∀ W, Calls Tryd.prog 24 #[.agg #[.string (strOfNums z0), .string (strOfNums z1), .int .i64 la, .string SW]] W (RLP W (JrnP.load z0 z1))) := Lib.hid fun W => rjLoad_any z0 z1 la SW W (by omega) (by omega) b0 b1
  have hfew := load_few b0 b1 k0 k1
  rcases hg : JrnP.load z0 z1 with ⟨ge, gb, gm', gl, gs⟩
  rw [hg] at HLd hgm ht hfew
  simp only at hgm ht hfew
  subst hgm ht
  obtain ⟨gn, hgn⟩ : ∃ n, gl.length = n := ⟨_, rfl⟩
  have HLd : Hid (∀ W, Calls Tryd.prog 24 #[.agg #[.string (strOfNums z0), .string (strOfNums z1), .int .i64 la, .string SW]] W fun e w' => ∃ A c, e = .returned (.tuple #[.agg #[.int .i64 gb, .int .i64 gm', .int .i64 0, .slice A gn c], .int .u64 gs, .bool (decide (0 < gs))]) ∧ LI w' A c gn gl ∧ Below W.heap.size W w') := Lib.hid fun W => (HLd.out W).mono fun e w' ⟨A, c, q1, q2, q3, q4, q5⟩ => ⟨A, c, by rw [q1, hgn], ⟨hgn, by rw [← hgn]; exact q2, q3, q4.sees⟩, q5⟩
  rw [hgn] at hfew
  have HGN := Lib.hid hfew
  have HS := Lib.hid hs
  have HL := Lib.hid hl
  have HX9 := Lib.hid (And.intro hx9 (And.intro h1 h2))
  have HCI := Lib.hid (cut_in bud)
  rw [hcb] at HCI
  obtain ⟨c1, hc1⟩ : ∃ c, max bud 0 = c := ⟨_, rfl⟩
  have w1 : (bud < 0 ∧ c1 = 0) ∨ (¬ bud < 0 ∧ c1 = bud) := by omega
  have w2 : ((1048576 : Int) < c1 ∧ cb = 1048576) ∨ (¬ (1048576 : Int) < c1 ∧ cb = c1) := by unfold cut at hcb; omega
  have HW1 := Lib.hid w1
  have HW2 := Lib.hid w2
  generalize decide (0 < gs) = gv at *
  generalize strOfNums z0 = S0 at *
  generalize strOfNums z1 = S1 at *
  clear hg hs hl hcb hx9 h1 h2 hfew hgn k0 k1 b0 b1 hc1 w1 w2
  have hj0 := Lib.hid (J.two w #[.string S0, .string S1, .int .i64 la, .string SW] #[.int .i64 0, .int .i64 0, .int .i64 0, .slice none 0 0] 46 42)
  have hz0 : Hid (BxT ((w.alloc (.cells #[.string S0, .string S1, .int .i64 la, .string SW] 46)).alloc (.cells #[.int .i64 0, .int .i64 0, .int .i64 0, .slice none 0 0] 42)) (w.heap.size + 1) #[.int .i64 0, .int .i64 0, .int .i64 0, .slice none 0 0] 42) := Lib.hid (by have := BxT.new (w.alloc (.cells #[.string S0, .string S1, .int .i64 la, .string SW] 46)) #[.int .i64 0, .int .i64 0, .int .i64 0, .slice none 0 0] 42; simpa using this)
  obtain ⟨a0, a1, a2, a3⟩ := (hj0.out.bx 1 rfl).c4
  go_enter Tryd.func11, Tryd.ntmps11
  go_upto_if 25 with (go_at_call 24; (refine (HLd.out _).mono ?_; clear HLd a0 a1 a2 a3; rintro e w1 ⟨A, c, rfl, hli, h1⟩; have HK := Lib.hid (RK.mk (w := w) (w3 := w1.alloc (.cells #[.int .i64 gb, .int .i64 gm', .int .i64 0, .slice A gn c] 42)) (X6 := w.heap.size + 1) (X8 := w1.heap.size) (gb := gb) (gm := gm') (hj0.out.below.trans ((h1.trans (below_box (o := .cells #[.int .i64 gb, .int .i64 gm', .int .i64 0, .slice A gn c] 42) |>.mono h1.size)).mono hj0.out.below.size)) ((hz0.out.next h1).next (below_box (o := .cells #[.int .i64 gb, .int .i64 gm', .int .i64 0, .slice A gn c] 42))) (BxT.new w1 #[.int .i64 gb, .int .i64 gm', .int .i64 0, .slice A gn c] 42) (hli.next (below_box (o := .cells #[.int .i64 gb, .int .i64 gm', .int .i64 0, .slice A gn c] 42)))); clear hli h1 hz0 hj0))
  generalize hw3 : w1.alloc (.cells #[.int .i64 gb, .int .i64 gm', .int .i64 0, .slice A gn c] 42) = w3 at HK ⊢
  generalize w1.heap.size = X8 at HK ⊢
  clear hw3
  go_cut [2] from 24 to 25 (fun s2 wx => s2 = .int .i64 c1 ∧ Hid (RK w wx (w.heap.size + 1) X8 A c gn gb gm' gl))
  case first =>
    rcases HW1.out with ⟨k5, rfl⟩ | ⟨k5, rfl⟩
    all_goals
      go_wp2_with fail
      go_meet
      exact ⟨rfl, HK⟩
  case rest =>
    clear HK HW1
    obtain ⟨rfl, HK⟩ := hcut
    go_upto_if 27 with fail
    go_cut [2] from 26 to 27 (fun s2 wx => s2 = .int .i64 cb ∧ Hid (RK w wx (w.heap.size + 1) X8 A c gn gb gm' gl))
    case first =>
      rcases HW2.out with ⟨k5, rfl⟩ | ⟨k5, rfl⟩
      all_goals
        go_wp2_with fail
        go_meet
        exact ⟨rfl, HK⟩
    case rest =>
      clear HK HW2
      obtain ⟨rfl, HK⟩ := hcut
      rename World => wb
      obtain ⟨t0, t1, t2, t3⟩ := HK.out.t.bx.c4
      have HI0 : Hid (RI wb (wb.alloc (.cells #[.int .i64 cb, .int .i64 gm', .int .i64 0, .slice none 0 0] 42)) cb gm' (.slice none 0 0) (.slice none 0 0) [] [] 0 0) := Lib.hid ⟨below_box, BxT.new _ _ _, rfl, rfl, by simpa [pms] using World.ownsRow_nil _ _ _ _, by simpa [nums] using World.ownsRow_nil _ _ _ _⟩
      have HKB : Hid (∀ W, Below wb.heap.size wb W → RK w W (w.heap.size + 1) X8 A c gn gb gm' gl) := Lib.hid fun W hW => HK.out.next hW
      have hmx : Tryd.prog.follows .mixedOrders = true := by kernel_rfl
      go_wp2
      clear t0 t1 t2 t3 HK
      go_loopg [12, 13] n1 (fun g v ii wr => ∃ (i : Nat) (u v9 : Value) (nl ns : Nat), i + g = n1 ∧ ii = .int .i64 i ∧ v9 = v ∧ Hid (RI wb wr cb gm' u v9 (run gl cb (lv.take i)).l (run gl cb (lv.take i)).s nl ns))
      case atStart => exact ⟨0, _, _, 0, 0, by omega, rfl, rfl, HI0⟩
      case round =>
        clear HI0
        obtain ⟨i, u, v, nl, ns, hig, rfl, rfl, hi⟩ := hrel
        have HKr := HKB.out wr hi.out.be
        by_cases hlt : i < n1
        · have hil : i < lv.length := by rw [HL.out]; exact hlt
          have hiv := List.getElem?_eq_getElem hil
          obtain ⟨bb, o, rfl, hbb, e0, e1⟩ := mv_cells (HS.out.below HKr.be (Nat.le_refl _)) i lv[i] hiv
          have HT := Lib.hid (run_take gl cb hiv)
          have HOK := Lib.hid (ok_run gl cb (lv.take i))
          have HNM := Lib.hid (nmd_run (t := gl) (b := cb) (l := lv) (i := i) (by omega) (c := lv[i].c))
          generalize lv[i] = mv at e0 e1 hiv HT HNM
          generalize run gl cb (lv.take i) = x at hi HT HOK HNM
          have HIV := Lib.hid hiv
          have HBB := Lib.hid hbb
          have HDR := top_dr gl mv
          have HTP : top1 gl mv = if 0 ≤ idx gl mv.c then max mv.p (had gl mv.c).p else mv.p := rfl
          obtain ⟨mc, mp⟩ := mv
          simp only at e0 e1 HNM HTP
          obtain ⟨d, hd⟩ : ∃ d, dr gl ⟨mc, mp⟩ = d := ⟨_, rfl⟩
          obtain ⟨v1, hv1⟩ : ∃ v, top1 gl ⟨mc, mp⟩ = v := ⟨_, rfl⟩
          rw [hd, hv1] at HDR
          rw [hv1] at HTP
          obtain ⟨v2, hv2⟩ : ∃ v, max v1 0 = v := ⟨_, rfl⟩
          have W2 : Hid ((v1 < 0 ∧ v2 = 0) ∨ (¬ v1 < 0 ∧ v2 = v1)) := Lib.hid (by omega)
          have W3 : Hid (((1048576 : Int) < v2 ∧ d = 1048576) ∨ (¬ (1048576 : Int) < v2 ∧ d = v2)) := Lib.hid (by unfold cut at HDR; omega)
          have HTP2 := Lib.hid HTP
          have HD := Lib.hid hd
          have HDI : Hid (0 ≤ d ∧ d ≤ 1048576) := Lib.hid (by rw [← hd]; exact dr_in _ _)
          have i1 : (i : Int) < (n1 : Int) := by omega
          have e3 : IntKind.i64.wrap ((i : Int) + 1) = ((i + 1 : Nat) : Int) := by rw [IntWalk.i64_in _ (by omega)]; rfl
          have HLT := Lib.hid hlt
          have HIG := Lib.hid hig
          clear hil hiv hbb hlt HDR HTP hd hv1 hv2 HKr hig
          go_upto_region 11 with fail
          go_cut [14] from 38 to 51 (fun s14 wx => s14 = .bool (nmd lv mc 0) ∧ Hid (RI wb wx cb gm' u v x.l x.s nl ns))
          case first =>
            have hz := nmd_zero lv mc
            by_cases hc0 : mc < 0
            · rw [show inC mc = false by unfold inC; simp; omega] at hz
              have HZ := Lib.hid hz
              clear hz
              go_wp2_with fail
              go_meet
              exact ⟨by rw [HZ.out]; rfl, hi⟩
            · by_cases hc1 : (63 : Int) < mc
              · rw [show inC mc = false by unfold inC; simp; omega] at hz
                have HZ := Lib.hid hz
                clear hz
                go_wp2_with fail
                go_meet
                exact ⟨by rw [HZ.out]; rfl, hi⟩
              · rw [inC_iff.2 ⟨by omega, by omega⟩] at hz
                have HZ := Lib.hid hz
                clear hz
                go_wp2_with fail
                go_meet
                exact ⟨by rw [HZ.out]; rfl, hi⟩
          case rest =>
            clear hi e0 e1
            obtain ⟨rfl, hi⟩ := hcut
            rename World => wd
            go_wp2_with fail
            go_loopg [14, 15] i (fun g f jj w2 => ∃ j : Nat, j + g = i ∧ jj = .int .i64 j ∧ f = .bool (nmd lv mc j) ∧ Hid (RI wb w2 cb gm' u v x.l x.s nl ns))
            case atStart => exact ⟨0, by omega, rfl, rfl, hi⟩
            case round =>
              clear hi
              obtain ⟨j, hj, rfl, rfl, hi⟩ := hrel
              rename World => we
              have HKr := HKB.out we hi.out.be
              obtain ⟨b9, o9, ea, hb9, e0, e1⟩ := mv_cells (HS.out.below HKr.be (Nat.le_refl _)) i _ HIV.out
              obtain ⟨rfl, rfl⟩ : bb = b9 ∧ o = o9 := by injection ea with ea; injection ea with h1 h2; exact ⟨h1, h2⟩
              clear ea hb9
              have HB9 : Hid (bb < we.heap.size) := Lib.hid (Nat.lt_of_lt_of_le HBB.out HKr.be.size)
              have hjS : Hid (JS we [] we) := Lib.hid (J.start we)
              by_cases hltj : j < i
              · have hjl : j < lv.length := by have := HLT.out; rw [HL.out]; omega
                have hjv := List.getElem?_eq_getElem hjl
                obtain ⟨b8, o8, ea, hb8, d0, d1⟩ := mv_cells (HS.out.below HKr.be (Nat.le_refl _)) j _ hjv
                obtain ⟨rfl, rfl⟩ : bb = b8 ∧ o = o8 := by injection ea with ea; injection ea with h1 h2; exact ⟨h1, h2⟩
                have HFS := Lib.hid (nmd_succ (c := mc) hjv)
                generalize lv[j] = qv at d0 d1 HFS
                obtain ⟨qc, qp⟩ := qv
                simp only at d0 d1 HFS
                have i2 : (j : Int) < (i : Int) := by omega
                have i3 : (j : Int) < (n1 : Int) := by have := HLT.out; omega
                have e4 : IntKind.i64.wrap ((j : Int) + 1) = ((j + 1 : Nat) : Int) := by have := HLT.out; rw [IntWalk.i64_in _ (by omega)]; rfl
                have HLJ := Lib.hid (And.intro hj hltj)
                clear ea hjl hjv hltj hb8 d1 e1 HKr hj
                generalize nmd lv mc j = f at *
                cases f
                · rw [Bool.false_or] at HFS
                  obtain ⟨vv, hv⟩ : ∃ vv, decide (qc = mc) = vv := ⟨_, rfl⟩
                  rw [hv] at HFS
                  have hv3 : (qc == mc) = vv := by rw [← hv]; by_cases h : qc = mc <;> simp [h]
                  clear hv
                  go_wp2_with fail
                  refine wp_region_tail 14 _ JS.closed hjS.out hmx (by kernel_rfl) ?_
                  simp only [List.take_succ_cons, List.take_zero, List.drop_succ_cons, List.drop_zero]
                  apply Exists.intro
                  refine ⟨fun w50 h50 => ?_, fun W1 hJ1 hB1 => ?_⟩
                  · haveI := Ext.some h50
                    have q0 := ext_old h50 (a := ⟨bb, o + j * 2, none⟩) HB9.out d0
                    have q1 := ext_old h50 (a := ⟨bb, o + i * 2, none⟩) HB9.out e0
                    repeat go_big_quiet_step (fail)
                    exact wpQuiet_nil rfl
                  have hb1 := Lib.hid (hi.out.next hB1)
                  clear hJ1 hB1 hjS hi d0 e0
                  change wpList _ _ _ _ _ _
                  go_wp2_with fail
                  go_roundg (i - (j + 1))
                  case measure => have := HLJ.out; omega
                  case rel => exact ⟨j + 1, by have := HLJ.out; omega, rfl, by rw [HFS.out], hb1⟩
                · rw [Bool.true_or] at HFS
                  clear d0 e0
                  go_wp2_with fail
                  refine wp_region_tail 14 _ JS.closed hjS.out hmx (by kernel_rfl) ?_
                  simp only [List.take_succ_cons, List.take_zero, List.drop_succ_cons, List.drop_zero]
                  apply Exists.intro
                  refine ⟨fun w50 h50 => ?_, fun W1 hJ1 hB1 => ?_⟩
                  · haveI := Ext.some h50
                    repeat go_big_quiet_step (fail)
                    exact wpQuiet_nil rfl
                  have hb1 := Lib.hid (hi.out.next hB1)
                  clear hJ1 hB1 hjS hi
                  change wpList _ _ _ _ _ _
                  go_wp2_with fail
                  go_roundg (i - (j + 1))
                  case measure => have := HLJ.out; omega
                  case rel => exact ⟨j + 1, by have := HLJ.out; omega, rfl, by rw [HFS.out], hb1⟩
              · obtain rfl : j = i := by omega
                clear hj hltj
                rcases hnm : nmd lv mc j with _ | _
                · have hyes := HNM.out.1 hnm
                  have HIN := Lib.hid hyes
                  obtain ⟨t0, t1, t2, t3⟩ := HKr.t.bx.c4
                  have HX8 := Lib.hid HKr.t.bx.lt
                  have HFind : Hid (∀ W, Below we.heap.size we W → Calls Tryd.prog 25 #[.agg #[.int .i64 gb, .int .i64 gm', .int .i64 0, .slice A gn c], .int .i64 mc] W fun e w' => e = .returned (.int .i64 (idx gl mc)) ∧ Below W.heap.size W w') := Lib.hid fun W hW => rlFind_any A c gn gl W (HKr.l.next hW).see HKr.l.len HGN.out gb gm' 0 mc
                  have HLI := Lib.hid HKr.l
                  clear hnm hyes HKr
                  obtain ⟨ix, hix⟩ : ∃ z, idx gl mc = z := ⟨_, rfl⟩
                  rw [hix] at HFind
                  have HIX := Lib.hid hix
                  clear hix
                  go_wp2_with fail
                  refine wp_region_tail 7 _ JS.closed hjS.out hmx (by kernel_rfl) ?_
                  simp only [List.take_succ_cons, List.take_zero, List.drop_succ_cons, List.drop_zero]
                  apply Exists.intro
                  refine ⟨fun w50 h50 => ?_, fun W1 hJ1 hB1 => ?_⟩
                  · haveI := Ext.some h50
                    have q0 := ext_old h50 (a := ⟨X8, 0, none⟩) HX8.out t0
                    have q1 := ext_old h50 (a := ⟨X8, 1, none⟩) HX8.out t1
                    have q2 := ext_old h50 (a := ⟨X8, 2, none⟩) HX8.out t2
                    have q3 := ext_old h50 (a := ⟨X8, 3, none⟩) HX8.out t3
                    have q4 := ext_old h50 (a := ⟨bb, o + j * 2, none⟩) HB9.out e0
                    have cH := Lib.hid (Ext.calls h50 JS.closed (fun W hW => HFind.out W (J.below hW)))
                    repeat go_big_quiet_step (first | (go_at_call 25; with_reducible exact cH.out _))
                    exact wpQuiet_nil rfl
                  have hi1 := Lib.hid (hi.out.next hB1)
                  have HKr := HKB.out W1 hi1.out.be
                  obtain ⟨t0, t1, t2, t3⟩ := HKr.t.bx.c4
                  clear hJ1 hB1 hjS hi e0 e1 HB9 HFind HX8 HLI
                  change wpList _ _ _ _ _ _
                  go_upto_region 19 with fail
                  obtain ⟨qp, hqp⟩ : ∃ z, (had gl mc).p = z := ⟨_, rfl⟩
                  obtain ⟨B, hB⟩ : ∃ B : Bool, decide (0 ≤ ix ∧ mp < qp) = B := ⟨_, rfl⟩
                  have W1' : Hid ((B = true ∧ v1 = qp) ∨ (B = false ∧ v1 = mp)) := Lib.hid (by
                    have h := HTP2.out
                    rw [HIX.out, hqp] at h
                    by_cases h0 : 0 ≤ ix
                    · rw [if_pos h0] at h
                      by_cases h1 : mp < qp
                      · exact .inl ⟨by rw [← hB]; exact decide_eq_true ⟨h0, h1⟩, by omega⟩
                      · exact .inr ⟨by rw [← hB]; exact decide_eq_false fun h2 => h1 h2.2, by omega⟩
                    · rw [if_neg h0] at h
                      exact .inr ⟨by rw [← hB]; exact decide_eq_false fun h2 => h0 h2.1, h⟩)
                  have HA8 : Hid (ix < 0 ∨ ∃ (k8 b8 o8 : Nat), ix = (k8 : Int) ∧ A = some ⟨b8, o8, none⟩ ∧ k8 < gn ∧ ∀ W, Below wb.heap.size wb W → W.cell? ⟨b8, o8 + k8 * 2 + 1, none⟩ = some (.int .i64 qp)) := Lib.hid (by
                    by_cases h0 : ix < 0
                    · exact .inl h0
                    · refine .inr ?_
                      obtain ⟨k8, hk8⟩ : ∃ k8 : Nat, ix = k8 := ⟨ix.toNat, by omega⟩
                      have hh := HIX.out
                      rw [hk8] at hh
                      obtain ⟨p8, hp8⟩ : ∃ p8, gl[k8]? = some p8 := by
                        unfold idx at hh
                        split at hh
                        · rename_i j' hj'
                          have : j' = k8 := by omega
                          subst this
                          obtain ⟨h1, _⟩ := List.findIdx?_eq_some_iff_getElem.1 hj'
                          exact ⟨_, List.getElem?_eq_getElem h1⟩
                        · omega
                      have hq8 : (had gl mc).p = p8.p := by unfold had; rw [hh, if_neg (by omega)]; simp [hp8]
                      obtain ⟨b8, o8, hA8, _, _, _⟩ := pm_cells HKr.l.see k8 p8 hp8
                      refine ⟨k8, b8, o8, hk8, hA8, by have := (List.getElem?_eq_some_iff.1 hp8).1; have := HKr.l.len; omega, fun W hW => ?_⟩
                      obtain ⟨b7, o7, hA7, _, _, h7⟩ := pm_cells (HKB.out W hW).l.see k8 p8 hp8
                      rw [hA8] at hA7
                      injection hA7 with hA7
                      injection hA7 with h5 h6
                      subst h5 h6
                      rw [h7, ← hq8, hqp])
                  have HBq := Lib.hid hB
                  clear hqp hB HKr HTP2
                  go_cut [95] from 84 to 95 (fun s95 wx => s95 = .bool B ∧ Hid (RI wb wx cb gm' u v x.l x.s nl ns))
                  case first =>
                    rcases HA8.out with h0 | ⟨k8, b8, o8, rfl, rfl, hk8, hcell⟩
                    · have h1 : ¬ 0 ≤ ix := by omega
                      have HB0 : Hid (B = false) := Lib.hid (by rw [← HBq.out]; exact decide_eq_false fun h2 => h1 h2.1)
                      clear h0
                      go_wp2_with fail
                      go_meet
                      exact ⟨by rw [HB0.out], hi1⟩
                    · have hc8 := hcell W1 hi1.out.be
                      have h1 : (0 : Int) ≤ (k8 : Int) := by omega
                      have h2 : (k8 : Int) < (gn : Int) := by omega
                      clear hcell hk8
                      by_cases h3 : mp < qp
                      · have HB0 : Hid (B = true) := Lib.hid (by rw [← HBq.out]; exact decide_eq_true ⟨h1, h3⟩)
                        go_wp2_with fail
                        go_meet
                        exact ⟨by rw [HB0.out], hi1⟩
                      · have HB0 : Hid (B = false) := Lib.hid (by rw [← HBq.out]; exact decide_eq_false fun h2 => h3 h2.2)
                        go_wp2_with fail
                        go_meet
                        exact ⟨by rw [HB0.out], hi1⟩
                  case rest =>
                    clear hi1 t0 t1 t2 t3
                    obtain ⟨rfl, hi⟩ := hcut
                    rename World => wf
                    obtain ⟨t0, t1, t2, t3⟩ := (HKB.out wf hi.out.be).t.bx.c4
                    go_upto_if 95 with fail
                    go_cut [16] from 96 to 101 (fun s16 wx => s16 = .int .i64 v1 ∧ Hid (RI wb wx cb gm' u v x.l x.s nl ns))
                    case first =>
                      rcases W1'.out with ⟨rfl, h⟩ | ⟨rfl, h⟩
                      · rcases HA8.out with h0 | ⟨k8, b8, o8, rfl, rfl, hk8, hcell⟩
                        · exfalso
                          have := of_decide_eq_true HBq.out
                          omega
                        · have hc8 := hcell wf hi.out.be
                          have h1 : (0 : Int) ≤ (k8 : Int) := by omega
                          have h2 : (k8 : Int) < (gn : Int) := by omega
                          have HV := Lib.hid h
                          clear hcell hk8 h
                          go_wp2_with fail
                          go_meet
                          exact ⟨by rw [HV.out], hi⟩
                      · have HV := Lib.hid h
                        clear h
                        go_wp2_with fail
                        go_meet
                        exact ⟨by rw [HV.out], hi⟩
                    case rest =>
                      clear hi t0 t1 t2 t3 W1' HA8 HBq
                      obtain ⟨rfl, hi⟩ := hcut
                      rename World => wg
                      go_upto_if 103 with fail
                      go_cut [16] from 102 to 103 (fun s16 wx => s16 = .int .i64 v2 ∧ Hid (RI wb wx cb gm' u v x.l x.s nl ns))
                      case first =>
                        rcases W2.out with ⟨k5, rfl⟩ | ⟨k5, h⟩
                        · go_wp2_with fail
                          go_meet
                          exact ⟨rfl, hi⟩
                        · have k6 : ¬ v1 < 0 := by omega
                          have HV := Lib.hid h
                          clear h k5
                          go_wp2_with fail
                          go_meet
                          exact ⟨by rw [HV.out], hi⟩
                      case rest =>
                        clear hi W2
                        obtain ⟨rfl, hi⟩ := hcut
                        rename World => wh
                        go_upto_if 105 with fail
                        go_cut [16] from 104 to 105 (fun s16 wx => s16 = .int .i64 d ∧ Hid (RI wb wx cb gm' u v x.l x.s nl ns))
                        case first =>
                          rcases W3.out with ⟨k5, h⟩ | ⟨k5, h⟩
                          · have HV := Lib.hid h
                            clear h
                            go_wp2_with fail
                            go_meet
                            exact ⟨by rw [HV.out], hi⟩
                          · have k6 : ¬ (1048576 : Int) < v2 := by omega
                            have HV := Lib.hid h
                            clear h k5
                            go_wp2_with fail
                            go_meet
                            exact ⟨by rw [HV.out], hi⟩
                        case rest =>
                          clear hi W3
                          obtain ⟨rfl, hi⟩ := hcut
                          rename World => wi
                          obtain ⟨Au, cu, rfl⟩ := own_slice' hi.out.rl
                          obtain ⟨r0, r1, r2, r3⟩ := hi.out.bx.bx.c4
                          have hS0 := tot_ge HOK.out.pp
                          have hl64 := HOK.out.few_l
                          have hs64 := HOK.out.few_s
                          have hnl := hi.out.ln
                          have hns := hi.out.sn
                          have HNL : Hid (nl ≤ 64 ∧ ns ≤ 64) := Lib.hid (by omega)
                          have HSum : Hid (Calls Tryd.prog 26 #[.agg #[.int .i64 cb, .int .i64 gm', .int .i64 0, .slice Au nl cu]] wi fun e w' => e = .returned (.int .i64 (tot (pk x.l))) ∧ Below wi.heap.size wi w') := Lib.hid (rlSum_any Au cu nl x.l wi (TS.own hi.out.rl).sees hnl (by omega) HOK.out.pp cb gm' 0)
                          obtain ⟨S, hS⟩ : ∃ S, tot (pk x.l) = S := ⟨_, rfl⟩
                          rw [hS] at HSum hS0
                          obtain ⟨Sd, hSd⟩ : ∃ q, S + d = q := ⟨_, rfl⟩
                          have e5 : IntKind.i64.wrap (S + d) = Sd := by rw [hSd]; have := HDI.out; exact IntWalk.i64_in _ (by omega)
                          by_cases hle : Sd ≤ cb
                          · have g9 : ¬ cb < Sd := by omega
                            have HR : Hid (run gl cb (lv.take (j + 1)) = ⟨x.l ++ [⟨mc, d⟩], x.s, x.n ++ [mc]⟩) := Lib.hid (by
                              have := step_yes (t := gl) (b := cb) (x := x) (m := ⟨mc, mp⟩) HIN.out.1 HIN.out.2 (by rw [HD.out, hS, hSd]; exact hle)
                              rw [HT.out, this, HD.out])
                            clear hle hS0 hl64 hs64 hnl hns hS hSd HT HNM
                            go_wp2_with (go_at_call 26; (refine HSum.out.mono ?_; clear HSum; rintro e w9 ⟨rfl, h9⟩; have hi9 := Lib.hid (hi.out.next h9); clear hi h9 r0 r1 r2 r3))
                            have hjS9 : Hid (JS w9 [] w9) := Lib.hid (J.start w9)
                            obtain ⟨y0, y1, y2, y3⟩ := hi9.out.bx.bx.c4
                            obtain ⟨b9, o9, ea, hb9, e0, e1⟩ := mv_cells (HS.out.below (HKB.out w9 hi9.out.be).be (Nat.le_refl _)) j _ HIV.out
                            obtain ⟨rfl, rfl⟩ : bb = b9 ∧ o = o9 := by injection ea with ea; injection ea with h1 h2; exact ⟨h1, h2⟩
                            have HX9b : Hid (wb.heap.size < w9.heap.size ∧ bb < w9.heap.size) := Lib.hid ⟨hi9.out.bx.bx.lt, Nat.lt_of_lt_of_le hb9 (HKB.out w9 hi9.out.be).be.size⟩
                            clear ea hb9 e1
                            obtain ⟨i0, hi', hz0, hz1, hz2⟩ := info_parts info_rp
                            refine wp_region_build 9 _ #[.int .i64 mc, .int .i64 d] 73 1 _ 129 JS.closed hjS9.out hmx (by kernel_rfl) (by kernel_rfl) rfl rfl rfl ?_
                            simp only [List.take_succ_cons, List.take_zero, List.drop_succ_cons, List.drop_zero]
                            apply Exists.intro
                            refine ⟨fun w10 h10 => ?_, ?_, fun B W1 hJ1 hb1 hB hBx => ?_⟩
                            · haveI := Ext.some h10
                              have q0 := ext_old h10 (a := ⟨wb.heap.size, 3, none⟩) HX9b.out.1 y3
                              have q2 := ext_old h10 (a := ⟨bb, o + j * 2, none⟩) HX9b.out.2 e0
                              repeat go_big_quiet_step (fail)
                              exact wpQuiet_nil rfl
                            · intro w'
                              simp [execOp, Act.eval, go_sem]
                            have hi10 := Lib.hid (hi9.out.next hb1)
                            have HBx := Lib.hid hBx
                            have hrow1 := Lib.hid hi10.out.rl
                            have hW1 := Lib.hid (And.intro hi10.out.bx.bx.lt hBx.lt)
                            clear y0 y1 y2 y3 e0 hJ1 hb1 hjS9 hi9 hBx HX9b hB
                            change wpList _ _ _ _ _ _
                            go_wp2_with (at_builtin; refine wpList_append_seesN _ rfl _ _ 40 rfl (wb.heap.size + 1) 73 i0 (.agg #[.int .i64 0, .int .i64 0]) 2 16 Tryd.underlying40 hi' hz0 hz1 hz2 rfl (by decide) _ _ _ rfl hrow1.out (B + 1) (some ⟨B, 0, none⟩) 1 1 (pms [⟨mc, d⟩]) rfl (by simp [pms, Pm.cells]) (.inr ⟨B, 0, rfl, by omega, fun j u hu => by rw [Nat.zero_add]; exact HBx.out.cell (by simpa [pms, Pm.cells] using hu)⟩) (pms_one _) (by have := HNL.out; unfold maxLen; omega) (by have := HNL.out; omega) (by have := hW1.out.1; omega) ?_; intro v' w11 hown11 hg11; obtain ⟨g', c3, rfl⟩ := ownsRow_succ hown11; have HO11 := Lib.hid hown11; have HG11 := Lib.hid hg11.by_; have hbx11 := Lib.hid (grown_cells hi10.out.bx hg11.by_ (fun g e => by have := (hi10.out.rl.lt g e).1; omega)); clear hown11 hg11; obtain ⟨f0, f1, f2, f3⟩ := hbx11.out.bx.f4; obtain ⟨y0, y1, y2, y3⟩ := hbx11.out.bx.c4)
                            go_roundg (n1 - (j + 1))
                            case measure => have := HLT.out; have := HIG.out; omega
                            case rel => exact ⟨j + 1, _, _, nl + 1, ns, by have := HLT.out; omega, rfl, rfl, by rw [HR.out]; exact Lib.hid (hi10.out.put (by rw [pms_append]; exact HO11.out) HG11.out)⟩
                          · have g9 : cb < Sd := by omega
                            have HR : Hid (run gl cb (lv.take (j + 1)) = ⟨x.l, x.s ++ [mc], x.n ++ [mc]⟩) := Lib.hid (by
                              have := step_no (t := gl) (b := cb) (x := x) (m := ⟨mc, mp⟩) HIN.out.1 HIN.out.2 (by rw [HD.out, hS, hSd]; exact hle)
                              rw [HT.out, this])
                            clear hle hS0 hl64 hs64 hnl hns hS hSd HT HNM
                            obtain ⟨i0, hi', hz0, hz1, hz2⟩ := info_parts infoI
                            go_wp2_with (first
                              | (go_at_call 26; (refine HSum.out.mono ?_; clear HSum; rintro e w9 ⟨rfl, h9⟩; have hi9 := Lib.hid (hi.out.next h9); clear hi h9 r0 r1 r2 r3; obtain ⟨b9, o9, ea, hb9, e0, e1⟩ := mv_cells (HS.out.below (HKB.out w9 hi9.out.be).be (Nat.le_refl _)) j _ HIV.out; obtain ⟨rfl, rfl⟩ : bb = b9 ∧ o = o9 := (by injection ea with ea; injection ea with h1 h2; exact ⟨h1, h2⟩); have HO9 := Lib.hid hi9.out.rs; have hsz := Lib.hid (Nat.lt_of_le_of_lt (Nat.le_refl _) hi9.out.bx.bx.lt); clear ea hb9 e1))
                              | (at_builtin; refine wpList_append_own _ rfl _ _ 33 rfl (wb.heap.size + 1) 3 i0 (.int .i64 0) 1 8 Tryd.underlying33 hi' hz0 hz1 hz2 rfl (by decide) _ _ _ rfl (HO9.out.alloc _) ⟨_, 0, none⟩ 1 1 [.int .i64 mc] rfl rfl (cell_one_new _ _ _) (by simp [Value.oneCell']) (by have := HNL.out; unfold maxLen; omega) (by have := HNL.out; omega) (by have := hsz.out; simp; omega) ?_; intro v' w5 hown5 hgrow5 _; have HO5 := Lib.hid hown5; have HG5 := Lib.hid hgrow5; clear hown5 hgrow5))
                            go_roundg (n1 - (j + 1))
                            case measure => have := HLT.out; have := HIG.out; omega
                            case rel => exact ⟨j + 1, _, _, nl, ns + 1, by have := HLT.out; omega, rfl, rfl, by rw [HR.out]; exact Lib.hid ((hi9.out.next below_box).app (by simpa [nums] using HO5.out) HG5.out)⟩
                · have hno : MndP.step gl cb x ⟨mc, mp⟩ = x := step_out (by
                    by_cases h1 : inC mc = true
                    · exact .inr (Decidable.byContradiction fun h2 => by have := HNM.out.2 ⟨h1, h2⟩; rw [hnm] at this; cases this)
                    · exact .inl (by simpa using h1))
                  have HNO := Lib.hid (HT.out.trans hno)
                  clear hnm hno e0 e1 HKr hjS
                  go_wp2_with fail
                  go_roundg (n1 - (j + 1))
                  case measure => have := HLT.out; have := HIG.out; omega
                  case rel => exact ⟨j + 1, u, v, nl, ns, by have := HLT.out; omega, rfl, rfl, by rw [HNO.out]; exact hi⟩
        · obtain rfl : i = n1 := by omega
          have hT : lv.take i = lv := List.take_of_length_le (by rw [HL.out]; exact Nat.le_refl _)
          rw [hT, HX9.out.1] at hi
          obtain ⟨Au, cu, rfl⟩ := own_slice' hi.out.rl
          obtain ⟨A2, c2, rfl⟩ := own_slice' hi.out.rs
          have hl9 := hi.out.ln
          have hs9 := hi.out.sn
          obtain rfl : nl = nl9 := by rw [← hl9]; exact HX9.out.2.1
          obtain rfl : ns = ns9 := by rw [← hs9]; exact HX9.out.2.2
          have hz5 := HKr.z
          have hlw := (HKB.out wb (Below.refl _ _)).z.bx.lt
          have hxw : w.heap.size ≤ w.heap.size + 1 := Nat.le_succ _
          obtain ⟨r0, r1, r2, r3⟩ := hi.out.bx.bx.c4
          obtain ⟨s0, s1, s2, s3⟩ := hz5.bx.c4
          obtain ⟨o0, o1, o2, o3⟩ := hz5.bx.f4
          have hcl := own_cap hi.out.rl
          have hcs := own_cap hi.out.rs
          have hf := set4 hz5 (x := .int .i64 cb) (y := .int .i64 gm') (z := .int .i64 0) (u := .slice Au nl cu)
          have hdl : (42 : TypeId) ≠ 73 := by decide
          have htf := ((((TS.own hi.out.rl).set hz5 hdl 0 (.int .i64 cb)).set (hz5.set 0 _) hdl 1 (.int .i64 gm')).set ((hz5.set 0 _).set 1 _) hdl 2 (.int .i64 0)).set (((hz5.set 0 _).set 1 _).set 2 _) hdl 3 (.slice Au nl cu)
          have hdi : (42 : TypeId) ≠ 3 := by decide
          have hof := ((((TS.own hi.out.rs).set hz5 hdi 0 (.int .i64 cb)).set (hz5.set 0 _) hdi 1 (.int .i64 gm')).set ((hz5.set 0 _).set 1 _) hdi 2 (.int .i64 0)).set (((hz5.set 0 _).set 1 _).set 2 _) hdi 3 (.slice Au nl cu)
          have hbf := below4 HKr.be (X := w.heap.size + 1) hxw (.int .i64 cb) (.int .i64 gm') (.int .i64 0) (.slice Au nl cu)
          have HFin := Lib.hid (And.intro hf (And.intro htf (And.intro hof hbf)))
          have HLn := Lib.hid (And.intro hl9 (And.intro hs9 (And.intro hcl hcs)))
          clear hf htf hof hbf hi hz5 hT HKr hl9 hs9 hcl hcs hxw hlw hig hlt
          go_wp2
          obtain ⟨hf, htf, hof, hbf⟩ := HFin.out
          obtain ⟨g0, g1, g2, g3⟩ := hf.bx.c4
          refine bodyPost_ret (v := .tuple #[.agg #[.int .i64 cb, .int .i64 gm', .int .i64 0, .slice Au nl cu], .slice A2 ns c2]) (by simp [results, Tryd.results11, go_sem, g0, g1, g2, g3]) rfl ⟨Au, cu, A2, c2, rfl, ⟨HLn.out.1, HLn.out.2.2.1.1, HLn.out.2.2.1.2, htf.sees⟩, ⟨HLn.out.2.1, HLn.out.2.2.2.1, HLn.out.2.2.2.2, hof.sees⟩, hbf⟩
end Go.Proofs.YtjedkkkhficmoaaDoor.Mnd

/- The walk of MendTells. -/
namespace Go.Proofs.YtjedkkkhficmoaaDoor.Walk
open Go.RowKit Go.Proofs.YtjedkkkhficmoaaDoor.SatP Go.Proofs.YtjedkkkhficmoaaDoor.LgrP Go.Proofs.YtjedkkkhficmoaaDoor.MndP Go.Proofs.YtjedkkkhficmoaaDoor.Mnd Go.Proofs.YtjedkkkhficmoaaDoor.Open Go.Proofs.YtjedkkkhficmoaaDoor.Sees Go.Proofs.YtjedkkkhficmoaaDoor.Box Go.Proofs.YtjedkkkhficmoaaDoor.Held Go.Proofs.YtjedkkkhficmoaaDoor.Jrn Go.Proofs.YtjedkkkhficmoaaDoor.Crc
set_option linter.unusedVariables false
set_option linter.unusedSimpArgs false
set_option maxRecDepth 100000

/-- a world of the call's own memory -/
structure BQ (w W : World) : Prop where
  bel : Below w.heap.size w W
theorem BQ.next {w W W' : World} (h : BQ w W) (hb : Below W.heap.size W W') : BQ w W' := ⟨h.bel.trans (hb.mono h.bel.size)⟩
theorem mv_len (l : List Mv) : (mvs l).length = l.length * 2 := by
  induction l with
  | nil => rfl
  | cons p l ih => simp only [mvs, List.map_cons, List.flatten_cons, List.length_append, List.length_cons] at *; rw [ih]; simp [Mv.cells]; omega
theorem mv_append (l r : List Mv) : mvs (l ++ r) = mvs l ++ mvs r := by simp [mvs]
theorem mv_one (l : List Mv) : ∀ u ∈ mvs l, u.oneCell' = true := by
  intro u hu
  unfold mvs at hu
  obtain ⟨r, hr, hu⟩ := List.mem_flatten.1 hu
  obtain ⟨p, _, rfl⟩ := List.mem_map.1 hr
  simp [Mv.cells] at hu
  rcases hu with rfl | rfl <;> rfl
theorem info_rmv : (Tryd.prog.info? 29).map (fun i => (i.zero, i.size, i.bytes)) = some (some (.agg #[.int .i64 0, .int .i64 0]), 2, 16) := by kernel_rfl
theorem conv_bi {W : World} {A : Option Addr} {n c : Nat} {z : List Int} (h : BI W A n z) : (convert 22 9 (.slice A n c)).run Tryd.prog W = .ok (.string (strOfNums z)) W := Oct.conv_sees (c := c) h.see h.len

/-- a ledger as the law has it -/
def GM (cb gm : Int) (nl : Nat) (x9 : St) (vv : Value) (W : World) : Prop := ∃ A84 c84, vv = .agg #[.int .i64 cb, .int .i64 gm, .int .i64 0, .slice A84 nl c84] ∧ LI W A84 c84 nl x9.l
theorem GM.next {cb gm : Int} {nl : Nat} {x9 : St} {vv : Value} {W W' : World} (h : GM cb gm nl x9 vv W) (hb : Below W.heap.size W W') : GM cb gm nl x9 vv W' := by
  obtain ⟨A, c, h1, h2⟩ := h
  exact ⟨A, c, h1, h2.next hb⟩
def TlR (bk7 bk8 nl ns : Nat) (cb gm : Int) (x9 : St) (A25 A26 A35 A36 : Option Addr) (c25 c26 c35 c36 : Nat) : Nat → Value → World → Prop := Slot.row [
fun vv _ => vv = .agg #[.int .i64 cb, .int .i64 gm, .int .i64 0, .slice A25 nl c25],
  fun vv w' => GM cb gm nl x9 vv w',
  fun vv _ => vv = .agg #[.int .i64 cb, .int .i64 gm, .int .i64 0, .slice A35 nl c35],
  fun vv _ => vv = .bool true,
  fun vv _ => vv = .bool false,
  fun vv _ => vv = .bool false,
  fun vv _ => vv = .slice A26 ns c26,
  fun vv _ => vv = .int .i64 ↑ns,
  fun vv _ => vv = .slice A36 ns c36,
  fun vv _ => vv = .int .i64 ↑ns,
  fun vv _ => vv = .bool false,
  fun vv _ => vv = .bool false]
theorem TlR_next (bk7 bk8 nl ns : Nat) (cb gm : Int) (x9 : St) (A25 A26 A35 A36 : Option Addr) (c25 c26 c35 c36 : Nat) : ∀ kk vv W W', TlR bk7 bk8 nl ns cb gm x9 A25 A26 A35 A36 c25 c26 c35 c36 kk vv W → Below W.heap.size W W' → TlR bk7 bk8 nl ns cb gm x9 A25 A26 A35 A36 c25 c26 c35 c36 kk vv W' := Slot.row_next ⟨fun _ _ _ h hb => h, fun _ _ _ h hb => GM.next h hb, fun _ _ _ h hb => h, fun _ _ _ h hb => h, fun _ _ _ h hb => h, fun _ _ _ h hb => h, fun _ _ _ h hb => h, fun _ _ _ h hb => h, fun _ _ _ h hb => h, fun _ _ _ h hb => h, fun _ _ _ h hb => h, fun _ _ _ h hb => h, trivial⟩
theorem TlR_r0 (ρ : Operand → Value) (o : Oper) (W : World) (bk7 bk8 nl ns : Nat) (cb gm : Int) (x9 : St) (A25 A26 A35 A36 : Option Addr) (c25 c26 c35 c36 : Nat)  (ho : o.op = Op.load 32 (Operand.tmp 13)) (h0 : ρ (Operand.tmp 13) = .pointer (some ⟨bk7, 0, none⟩)) (g0 : W.cell? ⟨bk7, 0, none⟩ = some (.int .i64 cb)) (g1 : W.cell? ⟨bk7, 1, none⟩ = some (.int .i64 gm)) (g2 : W.cell? ⟨bk7, 2, none⟩ = some (.int .i64 0)) (g3 : W.cell? ⟨bk7, 3, none⟩ = some (.slice A25 nl c25)) : (execOp ρ o).run Tryd.prog W = .ok (.value (.agg #[.int .i64 cb, .int .i64 gm, .int .i64 0, .slice A25 nl c25])) W := by
  unfold execOp
  rw [ho]
  go_simp
theorem TlR_r2 (ρ : Operand → Value) (o : Oper) (W : World) (bk7 bk8 nl ns : Nat) (cb gm : Int) (x9 : St) (A25 A26 A35 A36 : Option Addr) (c25 c26 c35 c36 : Nat)  (ho : o.op = Op.load 42 (Operand.tmp 15)) (h0 : ρ (Operand.tmp 15) = .pointer (some ⟨bk8, 0, none⟩)) (g0 : W.cell? ⟨bk8, 0, none⟩ = some (.int .i64 cb)) (g1 : W.cell? ⟨bk8, 1, none⟩ = some (.int .i64 gm)) (g2 : W.cell? ⟨bk8, 2, none⟩ = some (.int .i64 0)) (g3 : W.cell? ⟨bk8, 3, none⟩ = some (.slice A35 nl c35)) : (execOp ρ o).run Tryd.prog W = .ok (.value (.agg #[.int .i64 cb, .int .i64 gm, .int .i64 0, .slice A35 nl c35])) W := by
  unfold execOp
  rw [ho]
  go_simp
theorem TlR_r4 (ρ : Operand → Value) (o : Oper) (W : World) (bk7 bk8 nl ns : Nat) (cb gm : Int) (x9 : St) (A25 A26 A35 A36 : Option Addr) (c25 c26 c35 c36 : Nat)  (ho : o.op = Op.unOp UnOp.not 4 (Operand.tmp 78)) (h0 : ρ (Operand.tmp 78) = .bool true) : (execOp ρ o).run Tryd.prog W = .ok (.value (.bool false)) W := by
  unfold execOp
  rw [ho]
  go_simp
theorem TlR_r7 (ρ : Operand → Value) (o : Oper) (W : World) (bk7 bk8 nl ns : Nat) (cb gm : Int) (x9 : St) (A25 A26 A35 A36 : Option Addr) (c25 c26 c35 c36 : Nat)  (ho : o.op = Op.call { callee := Callee.builtin Builtin.len, args := #[Operand.tmp 81], argTypes := #[33] }) (h0 : ρ (Operand.tmp 81) = .slice A26 ns c26) : (execOp ρ o).run Tryd.prog W = .ok (.value (.int .i64 ↑ns)) W := by
  unfold execOp
  rw [ho]
  go_simp
theorem TlR_r9 (ρ : Operand → Value) (o : Oper) (W : World) (bk7 bk8 nl ns : Nat) (cb gm : Int) (x9 : St) (A25 A26 A35 A36 : Option Addr) (c25 c26 c35 c36 : Nat)  (ho : o.op = Op.call { callee := Callee.builtin Builtin.len, args := #[Operand.tmp 83], argTypes := #[33] }) (h0 : ρ (Operand.tmp 83) = .slice A36 ns c36) : (execOp ρ o).run Tryd.prog W = .ok (.value (.int .i64 ↑ns)) W := by
  unfold execOp
  rw [ho]
  go_simp
theorem TlR_r10 (ρ : Operand → Value) (o : Oper) (W : World) (bk7 bk8 nl ns : Nat) (cb gm : Int) (x9 : St) (A25 A26 A35 A36 : Option Addr) (c25 c26 c35 c36 : Nat)  (ho : o.op = Op.binOp BinOp.neq 3 (Operand.tmp 82) (Operand.tmp 84) 3) (h0 : ρ (Operand.tmp 82) = .int .i64 ↑ns) (h1 : ρ (Operand.tmp 84) = .int .i64 ↑ns) : (execOp ρ o).run Tryd.prog W = .ok (.value (.bool false)) W := by
  unfold execOp
  rw [ho]
  go_simp

set_option maxHeartbeats 51200000 in
theorem mendTells_walk (w : World) (ht : Tab w) (a0 : Option Addr) (m0 cp0 : Nat) (za : List Int) (a9 : Option Addr) (m9 cp9 : Nat) (zb : List Int) (a1 : Option Addr) (n1 cp1 : Nat) (l : List Mv) (bud : Int) (hla : za.length = m0) (hca : m0 ≤ cp0) (hxa : cp0 ≤ maxLen) (hsa : Sees w w.heap.size a0 (nums .u8 za)) (hwa : ∀ x ∈ za, (Lit.int .u8 x).wf = true)
    (hlb : zb.length = m9) (hcb9 : m9 ≤ cp9) (hxb : cp9 ≤ maxLen) (hsb : Sees w w.heap.size a9 (nums .u8 zb)) (hwb : ∀ x ∈ zb, (Lit.int .u8 x).wf = true) (hl1 : l.length = n1) (hc1 : n1 ≤ cp1) (hx1 : cp1 ≤ maxLen) (hs1 : Sees w w.heap.size a1 (mvs l)) (hw : (Lit.int .i64 bud).wf = true) :
    Calls Tryd.prog 3 #[.slice a0 m0 cp0, .slice a9 m9 cp9, .slice a1 n1 cp1, .int .i64 bud] w fun e w' => e = .returned (.bool true) ∧ Below w.heap.size w w' := by
  have hbya := byte_of hwa
  have hbyb := byte_of hwb
  have TB_0 := Lib.hid ht
  have BE_0 : Hid (BQ w w) := Lib.hid (BQ.mk (Below.refl _ _))
  have VA_0 := Lib.hid (VI.mk hl1 hc1 hx1 hs1)
  have BA_0 := Lib.hid (BI.mk hla hsa hbya)
  have BB_0 := Lib.hid (BI.mk hlb hsb hbyb)
  have HV1 := Lib.hid hl1
  by_cases hfew : n1 ≤ 100 ∧ m0 ≤ 800 ∧ m9 ≤ 800
  · obtain ⟨h1, h2, h3⟩ := hfew
    have f1 : decide (n1 ≤ 100) = true := decide_eq_true h1
    have f2 : ¬ (800 : Int) < (m0 : Int) := by omega
    have f3 : ¬ (800 : Int) < (m9 : Int) := by omega
    have HN := Lib.hid (And.intro h1 (And.intro h2 h3))
    obtain ⟨cb, hcb⟩ : ∃ cb, cut bud = cb := ⟨_, rfl⟩
    obtain ⟨gm, hgm⟩ : ∃ gm, (JrnP.load za zb).m = gm := ⟨_, rfl⟩
    obtain ⟨t, htl⟩ : ∃ t, (JrnP.load za zb).l = t := ⟨_, rfl⟩
    obtain ⟨x9, hx9⟩ : ∃ x, run t cb l = x := ⟨_, rfl⟩
    obtain ⟨nl, hnl⟩ : ∃ n, x9.l.length = n := ⟨_, rfl⟩
    obtain ⟨ns, hns⟩ : ∃ n, x9.s.length = n := ⟨_, rfl⟩
    have hok := ok_run t cb l
    rw [hx9] at hok
    have hfl := hok.few_l
    have hfs := hok.few_s
    rw [hnl] at hfl
    rw [hns] at hfs
    have HF : Hid (nl ≤ 64 ∧ ns ≤ 64) := Lib.hid ⟨hfl, hfs⟩
    have HAg : Hid (∀ (j : Jr) W, Tab W → j.In W → (j.n0.bs = za ∧ j.n1.bs = zb) → VI W a1 cp1 n1 l → Calls Tryd.prog 9 #[j.val, .slice a1 n1 cp1, .int .i64 bud] W fun e w' => ∃ A9 c9 B9 d9, e = .returned (.tuple #[.agg #[.int .i64 cb, .int .i64 gm, .int .i64 0, .slice A9 nl c9], .slice B9 ns d9]) ∧ LI w' A9 c9 nl x9.l ∧ NI w' B9 d9 ns x9.s ∧ Below W.heap.size W w') := Lib.hid fun j W q1 q2 q3 q4 =>
      again_at za zb j q1 q2 q3 q4 (by omega) bud hcb hgm (by rw [htl]; exact hx9) hnl hns
    have HRg : Hid (∀ A c W, VI W A c n1 l → Calls Tryd.prog 11 #[.agg #[.string (strOfNums za), .string (strOfNums zb), .int .i64 (-1), .string ByteArray.empty], .slice A n1 c, .int .i64 bud] W fun e w' => ∃ A9 c9 B9 d9, e = .returned (.tuple #[.agg #[.int .i64 cb, .int .i64 gm, .int .i64 0, .slice A9 nl c9], .slice B9 ns d9]) ∧ LI w' A9 c9 nl x9.l ∧ NI w' B9 d9 ns x9.s ∧ Below W.heap.size W w') := Lib.hid fun A c W q1 =>
      rAgain_any za zb (-1) ByteArray.empty l A n1 c bud W (by omega) (by omega) hbya hbyb q1.len (by omega) q1.see hcb hgm htl hx9 hnl hns
    have HNS := Lib.hid hns
    clear ht hl1 hc1 hx1 hs1 hla hca hxa hsa hwa hlb hcb9 hxb hsb hwb hw hcb hgm htl hx9 hnl hns hok hfl hfs h1 h2 h3 hbya hbyb
    obtain ⟨i0, hi, hz0, hz1, hz2⟩ := info_parts info_rmv
    have hmx : Tryd.prog.follows .mixedOrders = true := by kernel_rfl
    go_enter Tryd.func3, Tryd.ntmps3
    go_wp2_with (first
      | (go_at_call 7; (refine (Mnd.awake_any _ TB_0.out).mono ?_; rintro e w1 ⟨rfl, h1⟩; have TB_1 := Lib.hid (TB_0.out.next h1); have BE_1 := Lib.hid (BE_0.out.next h1); have VA_1 := Lib.hid (VA_0.out.next h1); have BA_1 := Lib.hid (BA_0.out.next h1); have BB_1 := Lib.hid (BB_0.out.next h1); clear TB_0 BE_0 VA_0 BA_0 BB_0 h1))
      | (go_at_call 8; (refine (mFew_any a1 n1 cp1 _).mono ?_; rintro e w2 ⟨rfl, h2⟩; have TB_2 := Lib.hid (TB_1.out.next h2); have BE_2 := Lib.hid (BE_1.out.next h2); have VA_2 := Lib.hid (VA_1.out.next h2); have BA_2 := Lib.hid (BA_1.out.next h2); have BB_2 := Lib.hid (BB_1.out.next h2); rw [f1]; clear TB_1 BE_1 VA_1 BA_1 BB_1 h2)))
    go_loopw [11, 12] (fun v ii wr => ∃ (k : Nat) (v9 : Value), k ≤ n1 ∧ ii = .int .i64 k ∧ v9 = v ∧ Hid (Below w2.heap.size w2 wr) ∧ Hid (wr.ownsRow w2.heap.size 29 2 v9 k (mvs (l.take k)))) (fun _ ii _ => n1 - (intOf ii).toNat)
    case atStart => exact ⟨0, _, Nat.zero_le _, rfl, rfl, Lib.hid (Below.refl _ _), Lib.hid (by simpa [mvs] using World.ownsRow_nil _ _ _ _)⟩
    case round =>
      obtain ⟨k, v, hk, rfl, rfl, hbr, hrow⟩ := hrel
      by_cases hlt : k < n1
      · have hkl : k < l.length := by rw [HV1.out]; exact hlt
        have hkv := List.getElem?_eq_getElem hkl
        obtain ⟨bb, o, rfl, hbb, e0, e1⟩ := mv_cells (VA_2.out.next hbr.out).see k l[k] hkv
        have HT : Hid (mvs (l.take (k + 1)) = mvs (l.take k) ++ mvs [l[k]]) := Lib.hid (by rw [List.take_add_one, hkv]; exact mv_append _ _)
        generalize l[k] = mv at e0 e1 HT
        obtain ⟨mc, mp⟩ := mv
        simp only at e0 e1
        have i1 : (k : Int) < (n1 : Int) := by omega
        have e3 : IntKind.i64.wrap ((k : Int) + 1) = ((k + 1 : Nat) : Int) := by have := HN.out; rw [IntWalk.i64_in _ (by omega)]; rfl
        have HLT := Lib.hid hlt
        have HBB := Lib.hid hbb
        have hjS : Hid (JS wr [] wr) := Lib.hid (J.start wr)
        clear hkl hkv hlt hbb
        go_wp2
        refine wp_region_build 12 _ #[.int .i64 mc, .int .i64 mp] 29 1 _ 53 JS.closed hjS.out hmx (by kernel_rfl) (by kernel_rfl) rfl rfl rfl ?_
        simp only [List.take_succ_cons, List.take_zero, List.drop_succ_cons, List.drop_zero]
        apply Exists.intro
        refine ⟨fun w10 h10 => ?_, ?_, fun B W1 hJ1 hb1 hB hBx => ?_⟩
        · haveI := Ext.some h10
          have q0 := ext_old h10 (a := ⟨bb, o + k * 2, none⟩) HBB.out e0
          have q1 := ext_old h10 (a := ⟨bb, o + k * 2 + 1, none⟩) HBB.out e1
          repeat go_big_quiet_step (fail)
          exact wpQuiet_nil rfl
        · intro w'
          simp [execOp, Act.eval, go_sem]
        have hb10 := Lib.hid (hbr.out.trans (hb1.mono hbr.out.size))
        have hrow1 := Lib.hid (own_next' hrow.out hb1)
        have HBx := Lib.hid hBx
        have hW1 := Lib.hid hb10.out.size
        clear hJ1 hb1 hjS hbr hrow hBx e0 e1 HBB
        change wpList _ _ _ _ _ _
        go_wp2_with (at_builtin; refine wpList_append_seesN _ rfl _ _ 26 rfl w2.heap.size 29 i0 (.agg #[.int .i64 0, .int .i64 0]) 2 16 Tryd.underlying26 hi hz0 hz1 hz2 rfl (by decide) _ _ _ rfl hrow1.out (B + 1) (some ⟨B, 0, none⟩) 1 1 (mvs [⟨mc, mp⟩]) rfl (by simp [mvs, Mv.cells]) (.inr ⟨B, 0, rfl, by omega, fun j u hu => by rw [Nat.zero_add]; exact HBx.out.cell (by simpa [mvs, Mv.cells] using hu)⟩) (mv_one _) (by have := HN.out; unfold maxLen; omega) (by have := HN.out; omega) (by have := hW1.out; omega) ?_; intro v' w11 hown11 hg11; have HO11 := Lib.hid hown11; have HB11 := Lib.hid (hb10.out.grown hg11.by_ hb10.out.size (fun g e => (hrow1.out.lt g e).1)); clear hown11 hg11)
        go_roundw
        case rel => exact ⟨k + 1, _, HLT.out, rfl, rfl, HB11, Lib.hid (by rw [HT.out]; exact HO11.out)⟩
        case measure => have := HLT.out; simp [intOf]; omega
      · obtain rfl : k = n1 := by omega
        have hT : l.take k = l := List.take_of_length_le (by rw [HV1.out]; exact Nat.le_refl _)
        rw [hT] at hrow
        obtain ⟨Aw, cw, rfl⟩ := own_slice' hrow.out
        have VM_0 : Hid (VI wr Aw cw k l) := Lib.hid ⟨HV1.out, (own_cap hrow.out).1, (own_cap hrow.out).2, (TS.own hrow.out).sees⟩
        have TC_0 := Lib.hid (TB_2.out.next hbr.out)
        have BF_0 := Lib.hid (BE_2.out.next hbr.out)
        have VB_0 := Lib.hid (VA_2.out.next hbr.out)
        have BC_0 := Lib.hid (BA_2.out.next hbr.out)
        have BD_0 := Lib.hid (BB_2.out.next hbr.out)
        clear hT hrow hbr
        go_wp2_with (first
          | (go_at_call 10; (refine (from_at BC_0.out BD_0.out HN.out.2.1 HN.out.2.2 cp0 cp9).mono ?_; rintro e w20 ⟨⟨⟨A20, c20, q20⟩, ⟨A21, c21, q21⟩, ⟨A22, c22, q22⟩, ⟨A23, c23, q23⟩⟩, rfl, hi20, hb20, h20⟩; have TC_1 := Lib.hid (TC_0.out.next h20); have BF_1 := Lib.hid (BF_0.out.next h20); have VB_1 := Lib.hid (VB_0.out.next h20); have BC_1 := Lib.hid (BC_0.out.next h20); have BD_1 := Lib.hid (BD_0.out.next h20); have VM_1 := Lib.hid (VM_0.out.next h20); have JI_0 := Lib.hid hi20; have HB20 := Lib.hid (And.intro hb20.1 hb20.2.1); clear hb20 hi20; simp only [Jr.val, Jr.arr, RowV.val]; clear TC_0 BF_0 VB_0 BC_0 BD_0 VM_0 h20))
          | (go_at_call 9; (refine (HAg.out ⟨⟨A20, c20, q20⟩, ⟨A21, c21, q21⟩, ⟨A22, c22, q22⟩, ⟨A23, c23, q23⟩⟩ _ TC_1.out JI_0.out HB20.out VB_1.out).mono ?_; rintro e w21 ⟨A25, c25, A26, c26, rfl, hl20, hn20, h21⟩; have TC_2 := Lib.hid ((TC_1.out.next h21).next (below_box (o := .cells #[.int .i64 cb, .int .i64 gm, .int .i64 0, .slice A25 nl c25] 32))); have BF_2 := Lib.hid ((BF_1.out.next h21).next (below_box (o := .cells #[.int .i64 cb, .int .i64 gm, .int .i64 0, .slice A25 nl c25] 32))); have VB_2 := Lib.hid ((VB_1.out.next h21).next (below_box (o := .cells #[.int .i64 cb, .int .i64 gm, .int .i64 0, .slice A25 nl c25] 32))); have BC_2 := Lib.hid ((BC_1.out.next h21).next (below_box (o := .cells #[.int .i64 cb, .int .i64 gm, .int .i64 0, .slice A25 nl c25] 32))); have BD_2 := Lib.hid ((BD_1.out.next h21).next (below_box (o := .cells #[.int .i64 cb, .int .i64 gm, .int .i64 0, .slice A25 nl c25] 32))); have VM_2 := Lib.hid ((VM_1.out.next h21).next (below_box (o := .cells #[.int .i64 cb, .int .i64 gm, .int .i64 0, .slice A25 nl c25] 32))); have JI_1 := Lib.hid ((JI_0.out.next h21).next (below_box (o := .cells #[.int .i64 cb, .int .i64 gm, .int .i64 0, .slice A25 nl c25] 32))); have LI_0 := Lib.hid (hl20.next (below_box (o := .cells #[.int .i64 cb, .int .i64 gm, .int .i64 0, .slice A25 nl c25] 32))); have NI_0 := Lib.hid (hn20.next (below_box (o := .cells #[.int .i64 cb, .int .i64 gm, .int .i64 0, .slice A25 nl c25] 32))); have BX_0 := Lib.hid (BxT.new w21 #[.int .i64 cb, .int .i64 gm, .int .i64 0, .slice A25 nl c25] 32); clear hl20 hn20; have u1 := conv_bi (c := cp0) BC_2.out; have u2 := conv_bi (c := cp9) BD_2.out; clear TC_1 BF_1 VB_1 BC_1 BD_1 VM_1 JI_0 h21; obtain ⟨x20, x21, x22, x23⟩ := BX_0.out.bx.c4))
          | (go_at_call 11; (refine (HRg.out Aw cw _ VM_2.out).mono ?_; rintro e w31 ⟨A35, c35, A36, c36, rfl, hl30, hn30, h31⟩; have TC_3 := Lib.hid ((TC_2.out.next h31).next (below_box (o := .cells #[.int .i64 cb, .int .i64 gm, .int .i64 0, .slice A35 nl c35] 42))); have BF_3 := Lib.hid ((BF_2.out.next h31).next (below_box (o := .cells #[.int .i64 cb, .int .i64 gm, .int .i64 0, .slice A35 nl c35] 42))); have VB_3 := Lib.hid ((VB_2.out.next h31).next (below_box (o := .cells #[.int .i64 cb, .int .i64 gm, .int .i64 0, .slice A35 nl c35] 42))); have BC_3 := Lib.hid ((BC_2.out.next h31).next (below_box (o := .cells #[.int .i64 cb, .int .i64 gm, .int .i64 0, .slice A35 nl c35] 42))); have BD_3 := Lib.hid ((BD_2.out.next h31).next (below_box (o := .cells #[.int .i64 cb, .int .i64 gm, .int .i64 0, .slice A35 nl c35] 42))); have VM_3 := Lib.hid ((VM_2.out.next h31).next (below_box (o := .cells #[.int .i64 cb, .int .i64 gm, .int .i64 0, .slice A35 nl c35] 42))); have JI_2 := Lib.hid ((JI_1.out.next h31).next (below_box (o := .cells #[.int .i64 cb, .int .i64 gm, .int .i64 0, .slice A35 nl c35] 42))); have LI_1 := Lib.hid ((LI_0.out.next h31).next (below_box (o := .cells #[.int .i64 cb, .int .i64 gm, .int .i64 0, .slice A35 nl c35] 42))); have NI_1 := Lib.hid ((NI_0.out.next h31).next (below_box (o := .cells #[.int .i64 cb, .int .i64 gm, .int .i64 0, .slice A35 nl c35] 42))); have BX_1 := Lib.hid ((BX_0.out.next h31).next (below_box (o := .cells #[.int .i64 cb, .int .i64 gm, .int .i64 0, .slice A35 nl c35] 42))); have LR_0 := Lib.hid (hl30.next (below_box (o := .cells #[.int .i64 cb, .int .i64 gm, .int .i64 0, .slice A35 nl c35] 42))); have NR_0 := Lib.hid (hn30.next (below_box (o := .cells #[.int .i64 cb, .int .i64 gm, .int .i64 0, .slice A35 nl c35] 42))); have BR_0 := Lib.hid (BxT.new w31 #[.int .i64 cb, .int .i64 gm, .int .i64 0, .slice A35 nl c35] 42); clear hl30 hn30; clear TC_2 BF_2 VB_2 BC_2 BD_2 VM_2 JI_1 LI_0 NI_0 BX_0 h31; obtain ⟨x20, x21, x22, x23⟩ := BX_1.out.bx.c4; obtain ⟨y20, y21, y22, y23⟩ := BR_0.out.bx.c4)))
        have HA : Hid (∀ W, Below ((w31.alloc (.cells #[.int .i64 cb, .int .i64 gm, .int .i64 0, .slice A35 nl c35] 42))).heap.size (w31.alloc (.cells #[.int .i64 cb, .int .i64 gm, .int .i64 0, .slice A35 nl c35] 42)) W → (W.cell? ⟨w21.heap.size, 0, none⟩ = some (.int .i64 cb) ∧ W.cell? ⟨w21.heap.size, 1, none⟩ = some (.int .i64 gm) ∧ W.cell? ⟨w21.heap.size, 2, none⟩ = some (.int .i64 0) ∧ W.cell? ⟨w21.heap.size, 3, none⟩ = some (.slice A25 nl c25)) ∧
            (W.cell? ⟨w31.heap.size, 0, none⟩ = some (.int .i64 cb) ∧ W.cell? ⟨w31.heap.size, 1, none⟩ = some (.int .i64 gm) ∧ W.cell? ⟨w31.heap.size, 2, none⟩ = some (.int .i64 0) ∧ W.cell? ⟨w31.heap.size, 3, none⟩ = some (.slice A35 nl c35)) ∧ LI W A25 c25 nl x9.l ∧ LI W A35 c35 nl x9.l ∧ NI W A26 c26 ns x9.s ∧ NI W A36 c36 ns x9.s ∧ BQ w W) := Lib.hid fun W hW =>
          ⟨(BX_1.out.next hW).bx.c4, (BR_0.out.next hW).bx.c4, LI_1.out.next hW, LR_0.out.next hW, NI_1.out.next hW, NR_0.out.next hW, BF_3.out.next hW⟩
        clear x20 x21 x22 x23 y20 y21 y22 y23
        refine Slot.wp_region_slots (TlR w21.heap.size w31.heap.size nl ns cb gm x9 A25 A26 A35 A36 c25 c26 c35 c36) (by kernel_rfl) (by kernel_rfl) (by kernel_rfl) (by kernel_rfl) (fun kk vv W W' _ h hb => TlR_next w21.heap.size w31.heap.size nl ns cb gm x9 A25 A26 A35 A36 c25 c26 c35 c36 kk vv W W' h hb) ?_ ?_
        · intro ii o x W K fr ho hB hd sl hbs hK
          have HX := Lib.hid (HA.out W hB)
          match ii, ho with
          | 0, ho =>
            obtain rfl := Option.some.inj ho
            refine Slot.op_go ho rfl ?_
            exact Slot.wp_value (TlR_r0 fr.eval _ W w21.heap.size w31.heap.size nl ns cb gm x9 A25 A26 A35 A36 c25 c26 c35 c36  rfl (Slot.eval_at ((hbs 13 (Slot.off_of (by kernel_rfl))).trans rfl)) (HX.out.1.1) (HX.out.1.2.1) (HX.out.1.2.2.1) (HX.out.1.2.2.2)) (hK _ _ (Below.refl _ _) rfl)
          | 1, ho =>
            obtain rfl := Option.some.inj ho
            refine Slot.op_go ho rfl ?_
            have e0 : x 0 = .agg #[.int .i64 cb, .int .i64 gm, .int .i64 0, .slice A25 nl c25] := hd ⟨0, .data⟩ (by simp) rfl
            have s0 : fr.eval (Operand.tmp 75) = .agg #[.int .i64 cb, .int .i64 gm, .int .i64 0, .slice A25 nl c25] := (Slot.eval_at ((sl 0 _ 75 rfl rfl).trans (congrArg some e0)))
            have ha : (#[fr.eval (Operand.tmp 75)] : Array Value) = #[.agg #[.int .i64 cb, .int .i64 gm, .int .i64 0, .slice A25 nl c25]] := by first | rw [s0] | simp only [s0]
            refine Slot.wp_call (f := 13) (by kernel_rfl) ha (of17_at HX.out.2.2.1 (by have := HF.out; omega) cb gm 0) ?_
            rintro e w2' ⟨A', c', rfl, h1, h2⟩
            exact ⟨_, rfl, hK _ _ h2 ⟨A', c', rfl, h1⟩⟩
          | 2, ho =>
            obtain rfl := Option.some.inj ho
            refine Slot.op_go ho rfl ?_
            exact Slot.wp_value (TlR_r2 fr.eval _ W w21.heap.size w31.heap.size nl ns cb gm x9 A25 A26 A35 A36 c25 c26 c35 c36  rfl (Slot.eval_at ((hbs 15 (Slot.off_of (by kernel_rfl))).trans rfl)) (HX.out.2.1.1) (HX.out.2.1.2.1) (HX.out.2.1.2.2.1) (HX.out.2.1.2.2.2)) (hK _ _ (Below.refl _ _) rfl)
          | 3, ho =>
            obtain rfl := Option.some.inj ho
            refine Slot.op_go ho rfl ?_
            obtain ⟨A84, c84, e1, hl84⟩ := (hd ⟨1, .data⟩ (by simp) rfl : GM cb gm nl x9 (x 1) W)
            have e2 : x 2 = .agg #[.int .i64 cb, .int .i64 gm, .int .i64 0, .slice A35 nl c35] := hd ⟨2, .data⟩ (by simp) rfl
            have s0 : fr.eval (Operand.tmp 76) = .agg #[.int .i64 cb, .int .i64 gm, .int .i64 0, .slice A84 nl c84] := (Slot.eval_at ((sl 1 _ 76 rfl rfl).trans (congrArg some e1)))
            have s1 : fr.eval (Operand.tmp 77) = .agg #[.int .i64 cb, .int .i64 gm, .int .i64 0, .slice A35 nl c35] := (Slot.eval_at ((sl 2 _ 77 rfl rfl).trans (congrArg some e2)))
            have ha : (#[fr.eval (Operand.tmp 76), fr.eval (Operand.tmp 77)] : Array Value) = #[.agg #[.int .i64 cb, .int .i64 gm, .int .i64 0, .slice A84 nl c84], .agg #[.int .i64 cb, .int .i64 gm, .int .i64 0, .slice A35 nl c35]] := by first | rw [s0, s1] | simp only [s0, s1]
            refine Slot.wp_call (f := 12) (by kernel_rfl) ha (same_at hl84 HX.out.2.2.2.1 (by have := HF.out; omega) cb gm 0) ?_
            rintro e w2 ⟨rfl, h1⟩
            exact ⟨_, rfl, hK _ _ h1 rfl⟩
          | 4, ho =>
            obtain rfl := Option.some.inj ho
            refine Slot.op_go ho rfl ?_
            have e3 : x 3 = .bool true := hd ⟨3, .data⟩ (by simp) rfl
            exact Slot.wp_value (TlR_r4 fr.eval _ W w21.heap.size w31.heap.size nl ns cb gm x9 A25 A26 A35 A36 c25 c26 c35 c36  rfl (Slot.eval_at ((sl 3 _ 78 rfl rfl).trans (congrArg some e3)))) (hK _ _ (Below.refl _ _) rfl)
          | 5, ho =>
            obtain rfl := Option.some.inj ho
            refine Slot.op_go ho rfl ?_
            have e4 : x 4 = .bool false := hd ⟨4, .data⟩ (by simp) rfl
            exact Slot.wp_value (Slot.run_move rfl (Slot.eval_at ((sl 4 _ 79 rfl rfl).trans (congrArg some e4)))) (hK _ _ (Below.refl _ _) rfl)
          | 6, ho =>
            obtain rfl := Option.some.inj ho
            have e5 : x 5 = .bool false := hd ⟨5, .guard⟩ (by simp) rfl
            refine Slot.op_if ho rfl rfl rfl ((sl 5 _ 80 rfl rfl).trans (congrArg some e5)) ?_
            exact Slot.wp_value (Slot.run_move rfl (Slot.eval_at ((hbs 14 (Slot.off_of (by kernel_rfl))).trans rfl))) (hK _ _ (Below.refl _ _) rfl)
          | 7, ho =>
            obtain rfl := Option.some.inj ho
            have e5 : x 5 = .bool false := hd ⟨5, .guard⟩ (by simp) rfl
            refine Slot.op_if ho rfl rfl rfl ((sl 5 _ 80 rfl rfl).trans (congrArg some e5)) ?_
            have e6 : x 6 = .slice A26 ns c26 := hd ⟨6, .data⟩ (by simp) rfl
            exact Slot.wp_value (TlR_r7 fr.eval _ W w21.heap.size w31.heap.size nl ns cb gm x9 A25 A26 A35 A36 c25 c26 c35 c36  rfl (Slot.eval_at ((sl 6 _ 81 rfl rfl).trans (congrArg some e6)))) (hK _ _ (Below.refl _ _) rfl)
          | 8, ho =>
            obtain rfl := Option.some.inj ho
            have e5 : x 5 = .bool false := hd ⟨5, .guard⟩ (by simp) rfl
            refine Slot.op_if ho rfl rfl rfl ((sl 5 _ 80 rfl rfl).trans (congrArg some e5)) ?_
            exact Slot.wp_value (Slot.run_move rfl (Slot.eval_at ((hbs 16 (Slot.off_of (by kernel_rfl))).trans rfl))) (hK _ _ (Below.refl _ _) rfl)
          | 9, ho =>
            obtain rfl := Option.some.inj ho
            have e5 : x 5 = .bool false := hd ⟨5, .guard⟩ (by simp) rfl
            refine Slot.op_if ho rfl rfl rfl ((sl 5 _ 80 rfl rfl).trans (congrArg some e5)) ?_
            have e8 : x 8 = .slice A36 ns c36 := hd ⟨8, .data⟩ (by simp) rfl
            exact Slot.wp_value (TlR_r9 fr.eval _ W w21.heap.size w31.heap.size nl ns cb gm x9 A25 A26 A35 A36 c25 c26 c35 c36  rfl (Slot.eval_at ((sl 8 _ 83 rfl rfl).trans (congrArg some e8)))) (hK _ _ (Below.refl _ _) rfl)
          | 10, ho =>
            obtain rfl := Option.some.inj ho
            have e5 : x 5 = .bool false := hd ⟨5, .guard⟩ (by simp) rfl
            refine Slot.op_if ho rfl rfl rfl ((sl 5 _ 80 rfl rfl).trans (congrArg some e5)) ?_
            have e7 : x 7 = .int .i64 ↑ns := hd ⟨7, .data⟩ (by simp) rfl
            have e9 : x 9 = .int .i64 ↑ns := hd ⟨9, .data⟩ (by simp) rfl
            exact Slot.wp_value (TlR_r10 fr.eval _ W w21.heap.size w31.heap.size nl ns cb gm x9 A25 A26 A35 A36 c25 c26 c35 c36  rfl (Slot.eval_at ((sl 7 _ 82 rfl rfl).trans (congrArg some e7))) (Slot.eval_at ((sl 9 _ 84 rfl rfl).trans (congrArg some e9)))) (hK _ _ (Below.refl _ _) rfl)
          | 11, ho =>
            obtain rfl := Option.some.inj ho
            refine Slot.op_go ho rfl ?_
            have e10 : x 10 = .bool false := hd ⟨10, .data⟩ (by simp) rfl
            have e5 : x 5 = .bool false := hd ⟨5, .data⟩ (by simp) rfl
            exact Slot.wp_value (Slot.run_pick rfl (Slot.eval_at ((sl 5 _ 80 rfl rfl).trans (congrArg some e5))) ((if_neg Bool.false_ne_true).trans (Slot.eval_at ((sl 10 _ 85 rfl rfl).trans (congrArg some e10))))) (hK _ _ (Below.refl _ _) rfl)
          | n + 12, ho => simp at ho
        · intro x W hB hx
          have e11 : x 11 = .bool false := hx 11 (by simp)
          simp only [Inv.fill, Act.put, List.setIfInBounds_toArray, List.set_cons_zero, List.set_cons_succ, e11]
          clear hx e11
          have HW0 := Lib.hid hB
          clear hB
          rename World => w40
          go_wp2
          go_loopw [17] (fun i wr => ∃ j : Nat, j ≤ ns ∧ i = .int .i64 j ∧ Hid (Below ((w31.alloc (.cells #[.int .i64 cb, .int .i64 gm, .int .i64 0, .slice A35 nl c35] 42))).heap.size (w31.alloc (.cells #[.int .i64 cb, .int .i64 gm, .int .i64 0, .slice A35 nl c35] 42)) wr)) (fun i _ => ns - (intOf i).toNat)
          case atStart => exact ⟨0, Nat.zero_le _, rfl, HW0⟩
          case round =>
            clear HW0
            obtain ⟨j, hj, rfl, hbr⟩ := hrel
            have HR := HA.out _ hbr.out
            by_cases hlt2 : j < ns
            · have hjx : j < x9.s.length := by rw [HNS.out]; exact hlt2
              have hp := List.getElem?_eq_getElem hjx
              obtain ⟨u1, o1, e1, hu1, c0⟩ := HR.2.2.2.2.1.see.at_ (k := j) (u := .int .i64 x9.s[j]) (by simp [nums, hp])
              obtain ⟨u2, o2, e2, hu2, d0⟩ := HR.2.2.2.2.2.1.see.at_ (k := j) (u := .int .i64 x9.s[j]) (by simp [nums, hp])
              generalize x9.s[j] = z at c0 d0
              subst e1 e2
              have i1 : (j : Int) < (ns : Int) := by omega
              have e3 : IntKind.i64.wrap ((j : Int) + 1) = ((j + 1 : Nat) : Int) := by have := HF.out; rw [IntWalk.i64_in _ (by omega)]; rfl
              have hjS : Hid (JS wr [] wr) := Lib.hid (J.start wr)
              have HLT := Lib.hid hlt2
              have HX := Lib.hid (And.intro hu1 hu2)
              clear hp hjx hlt2 hu1 hu2 HR
              go_wp2
              refine wp_region_all _ JS.closed hjS.out hmx (by kernel_rfl) ?_
              apply Exists.intro
              refine ⟨fun w50 h50 => ?_, fun W1 hJ1 hB1 => ?_⟩
              · haveI := Ext.some h50
                have q2 := ext_old h50 (a := ⟨u1, o1 + j, none⟩) HX.out.1 c0
                have q4 := ext_old h50 (a := ⟨u2, o2 + j, none⟩) HX.out.2 d0
                repeat go_big_quiet_step (fail)
                exact wpQuiet_nil rfl
              have hb1 := Lib.hid (hbr.out.trans (hB1.mono hbr.out.size))
              clear hJ1 hB1 hjS hbr c0 d0
              go_wp2
              go_roundw
              case rel => exact ⟨j + 1, HLT.out, rfl, hb1⟩
              case measure => have := HLT.out; simp [intOf]; omega
            · obtain rfl : j = ns := by omega
              have HE := Lib.hid HR.2.2.2.2.2.2.bel
              clear HR
              go_wp2
              go_ret
              exact ⟨rfl, HE.out⟩
  · clear ht hl1 hc1 hx1 hs1 hla hca hxa hsa hwa hlb hcb9 hxb hsb hwb hw hbya hbyb
    rcases hc : decide (n1 ≤ 100) with _ | _
    · have f1 := hc
      clear hfew hc
      go_enter Tryd.func3, Tryd.ntmps3
      go_wp2_with (first
            | (go_at_call 7; (refine (Mnd.awake_any _ TB_0.out).mono ?_; rintro e w1 ⟨rfl, h1⟩; have TB_1 := Lib.hid (TB_0.out.next h1); have BE_1 := Lib.hid (BE_0.out.next h1); clear TB_0 BE_0 h1))
            | (go_at_call 8; (refine (mFew_any a1 n1 cp1 _).mono ?_; rintro e w2 ⟨rfl, h2⟩; have TB_2 := Lib.hid (TB_1.out.next h2); have BE_2 := Lib.hid (BE_1.out.next h2); rw [f1]; clear TB_1 BE_1 h2)))
      go_ret
      exact ⟨rfl, BE_2.out.bel⟩
    · have f1 := hc
      by_cases h2 : (800 : Int) < (m0 : Int)
      · clear hfew hc
        go_enter Tryd.func3, Tryd.ntmps3
        go_wp2_with (first
            | (go_at_call 7; (refine (Mnd.awake_any _ TB_0.out).mono ?_; rintro e w1 ⟨rfl, h1⟩; have TB_1 := Lib.hid (TB_0.out.next h1); have BE_1 := Lib.hid (BE_0.out.next h1); clear TB_0 BE_0 h1))
            | (go_at_call 8; (refine (mFew_any a1 n1 cp1 _).mono ?_; rintro e w2 ⟨rfl, h2⟩; have TB_2 := Lib.hid (TB_1.out.next h2); have BE_2 := Lib.hid (BE_1.out.next h2); rw [f1]; clear TB_1 BE_1 h2)))
        go_ret
        exact ⟨rfl, BE_2.out.bel⟩
      · have h3 : (800 : Int) < (m9 : Int) := by
          have := of_decide_eq_true hc
          omega
        clear hfew hc
        go_enter Tryd.func3, Tryd.ntmps3
        go_wp2_with (first
            | (go_at_call 7; (refine (Mnd.awake_any _ TB_0.out).mono ?_; rintro e w1 ⟨rfl, h1⟩; have TB_1 := Lib.hid (TB_0.out.next h1); have BE_1 := Lib.hid (BE_0.out.next h1); clear TB_0 BE_0 h1))
            | (go_at_call 8; (refine (mFew_any a1 n1 cp1 _).mono ?_; rintro e w2 ⟨rfl, h2⟩; have TB_2 := Lib.hid (TB_1.out.next h2); have BE_2 := Lib.hid (BE_1.out.next h2); rw [f1]; clear TB_1 BE_1 h2)))
        go_ret
        exact ⟨rfl, BE_2.out.bel⟩

end Go.Proofs.YtjedkkkhficmoaaDoor.Walk
