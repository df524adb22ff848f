import Derived.Test.YtjedkkkhficmoaaDoorLgrI
import Derived.Test.YtjedkkkhficmoaaDoorMndP
import Derived.Test.YtjedkkkhficmoaaDoorMndX
import Derived.Test.YtjedkkkhficmoaaDoorSlotM
import Derived.LoopN
import Derived.BigQuiet

/- The contract of Check, of however many permits. -/
namespace Go.Proofs.YtjedkkkhficmoaaDoor.Lgr
open Go.RowKit Go.Proofs.YtjedkkkhficmoaaDoor.LgrP Go.Proofs.YtjedkkkhficmoaaDoor.Open Go.Proofs.YtjedkkkhficmoaaDoor.Sees Go.Proofs.YtjedkkkhficmoaaDoor.Box Go.Proofs.YtjedkkkhficmoaaDoor.Held
set_option linter.unusedVariables false
set_option maxRecDepth 100000

theorem idx_neg {l : List Pm} {c : Int} (h : idx l c < 0) : ∀ q ∈ l, q.c ≠ c := by
  unfold idx at h
  split at h
  · omega
  · rename_i e
    rw [List.findIdx?_eq_none_iff] at e
    exact fun q hq => by simpa using e q hq
theorem apart_cars : ∀ (l pre : List Pm), (pre.map Pm.c).Nodup → apart pre l = true → ((pre ++ l).map Pm.c).Nodup ∧ ∀ q ∈ l, okP q = true := by
  intro l
  induction l with
  | nil => exact fun pre h _ => ⟨by simpa using h, by simp⟩
  | cons p l ih =>
    intro pre h1 h2
    simp only [apart, Bool.and_eq_true, decide_eq_true_eq] at h2
    obtain ⟨⟨h3, h4⟩, h5⟩ := h2
    have h6 := idx_neg h4
    obtain ⟨h7, h8⟩ := ih (pre ++ [p]) (by
      simp only [List.map_append, List.map_cons, List.map_nil]
      refine (MndP.nodup_snoc' _ _).2 ⟨h1, fun hm => ?_⟩
      obtain ⟨q, hq, e⟩ := List.mem_map.1 hm
      exact h6 q hq e) h5
    refine ⟨by simpa using h7, fun q hq => ?_⟩
    rcases List.mem_cons.1 hq with rfl | hq
    · exact h3
    · exact h8 q hq
theorem apart_few {l : List Pm} (h : apart [] l = true) : l.length ≤ 64 := by
  obtain ⟨h1, h2⟩ := apart_cars l [] (by simp) h
  have := MndP.few_cars 64 (l.map Pm.c) (by simpa using h1) fun c hc => by
    obtain ⟨q, hq, rfl⟩ := List.mem_map.1 hc
    have := (okP_iff.1 (h2 q hq)).1
    omega
  simpa using this

set_option maxRecDepth 100000 in
set_option maxHeartbeats 6400000 in
theorem check_wide (x : Lg) (w : World) (hx : x.In w) : Calls Tryd.prog 14 #[x.val] w (Says w (.bool (mayB x))) := by
  obtain ⟨hcap, hmax, hs⟩ := hx
  obtain ⟨b, m, k, A, cap, l⟩ := x
  simp only at hcap hmax hs
  have hl : l.length ≤ 9223372036854775807 := by unfold maxLen at hmax; omega
  have hl2 : l.length ≤ maxLen := by omega
  have H1 : Hid (∀ W, Calls Tryd.prog 27 #[.int .i64 b] W (Says W (.bool (pwr b)))) := Lib.hid fun W => isPower_any b W
  have H2 : Hid (∀ W, Calls Tryd.prog 27 #[.int .i64 m] W (Says W (.bool (pwr m)))) := Lib.hid fun W => isPower_any m W
  have H3 : Hid (∀ W, Calls Tryd.prog 27 #[.int .i64 k] W (Says W (.bool (pwr k)))) := Lib.hid fun W => isPower_any k W
  have hj : Hid (J w _ _) := Lib.hid (J.one w #[.int .i64 b, .int .i64 m, .int .i64 k, .slice A l.length cap] 32)
  obtain ⟨a0, a1, a2, a3⟩ := (hj.out.bx 0 rfl).c4
  have hmB : mayB ⟨b, m, k, A, cap, l⟩ = (pwr b && pwr m && pwr k && apart [] l && decide (sm l ≤ b)) := rfl
  unfold Lg.val
  simp only
  rw [hmB]
  clear hmB
  generalize pwr b = pb at *
  generalize pwr m = pm at *
  generalize pwr k = pk at *
  cases pb
  · go_enter Tryd.func14, Tryd.ntmps14
    go_wp2_with (go_at_call 27; (with_reducible refine (H1.out _).mono ?_); clear H1; rintro e w1 ⟨rfl, h1⟩)
    go_ret
    exact ⟨rfl, (hj.out.next h1).below⟩
  cases pm
  · go_enter Tryd.func14, Tryd.ntmps14
    go_wp2_with (first
      | (go_at_call 27; (with_reducible refine (H1.out _).mono ?_); clear H1 a0 a1 a2 a3; rintro e w1 ⟨rfl, h1⟩; have hj1 := Lib.hid (hj.out.next h1); clear hj h1; obtain ⟨a0, a1, a2, a3⟩ := (hj1.out.bx 0 rfl).c4)
      | (go_at_call 27; (with_reducible refine (H2.out _).mono ?_); clear H2; rintro e w2 ⟨rfl, h2⟩))
    go_ret
    exact ⟨rfl, (hj1.out.next h2).below⟩
  cases pk
  · go_enter Tryd.func14, Tryd.ntmps14
    go_wp2_with (first
      | (go_at_call 27; (with_reducible refine (H1.out _).mono ?_); clear H1 a0 a1 a2 a3; rintro e w1 ⟨rfl, h1⟩; have hj1 := Lib.hid (hj.out.next h1); clear hj h1; obtain ⟨a0, a1, a2, a3⟩ := (hj1.out.bx 0 rfl).c4)
      | (go_at_call 27; (with_reducible refine (H2.out _).mono ?_); clear H2 a0 a1 a2 a3; rintro e w2 ⟨rfl, h2⟩; have hj2 := Lib.hid (hj1.out.next h2); clear hj1 h2; obtain ⟨a0, a1, a2, a3⟩ := (hj2.out.bx 0 rfl).c4)
      | (go_at_call 27; (with_reducible refine (H3.out _).mono ?_); clear H3; rintro e w3 ⟨rfl, h3⟩))
    go_ret
    exact ⟨rfl, (hj2.out.next h3).below⟩
  have hmx : cap ≤ 9223372036854775807 := by unfold maxLen at hmax; omega
  have HSm : Hid (apart [] l = true → ∀ W, Below w.heap.size w W → Calls Tryd.prog 17 #[.agg #[.int .i64 b, .int .i64 m, .int .i64 k, .slice A l.length cap]] W (Says W (.int .i64 (sm l)))) := Lib.hid fun hap W hW =>
    sum_any ⟨b, m, k, A, cap, l⟩ W ⟨hcap, hmax, (hs.below hW (Nat.le_refl _)).more hW.size⟩ (by have := apart_few hap; simp only; omega)
  have HPl : Hid (∀ s c W, s ≤ l.length → Below w.heap.size w W → Calls Tryd.prog 29 #[.slice A s cap, .int .i64 c] W (Says W (.int .i64 (idx (l.take s) c)))) := Lib.hid fun s c W hss hW =>
    place_any (l.take s) A s cap c W (by simp; omega) (by omega) ((by rw [pms_take]; exact sees_take (hs.below hW (Nat.le_refl _)) _ : Sees W w.heap.size A (pms (l.take s))).more hW.size)
  have HOk : Hid (∀ (p : Pm) W, Calls Tryd.prog 28 #[.agg #[.int .i64 p.c, .int .i64 p.p]] W (Says W (.bool (okP p)))) := Lib.hid fun p W => isPermit_any p W
  have HS := Lib.hid hs
  have HC := Lib.hid hcap
  clear hs hmax hl2
  simp only [Bool.true_and]
  generalize hn : l.length = n at *
  have HN := Lib.hid hn
  clear hn
  go_enter Tryd.func14, Tryd.ntmps14
  go_wp2_with (first
    | (go_at_call 27; (with_reducible refine (H1.out _).mono ?_); clear H1 a0 a1 a2 a3; rintro e w1 ⟨rfl, h1⟩; have hj1 := Lib.hid (hj.out.next h1); clear hj h1; obtain ⟨a0, a1, a2, a3⟩ := (hj1.out.bx 0 rfl).c4)
    | (go_at_call 27; (with_reducible refine (H2.out _).mono ?_); clear H2 a0 a1 a2 a3; rintro e w2 ⟨rfl, h2⟩; have hj2 := Lib.hid (hj1.out.next h2); clear hj1 h2; obtain ⟨a0, a1, a2, a3⟩ := (hj2.out.bx 0 rfl).c4)
    | (go_at_call 27; (with_reducible refine (H3.out _).mono ?_); clear H3 a0 a1 a2 a3; rintro e w3 ⟨rfl, h3⟩; have hj3 := Lib.hid (hj2.out.next h3); clear hj2 h3; obtain ⟨a0, a1, a2, a3⟩ := (hj3.out.bx 0 rfl).c4))
  clear a0 a1 a2 a3
  go_loopw [3, 4, 24] (fun _ _ a wr => ∃ i : Nat, i ≤ n ∧ a = .int .i64 i ∧ Hid (apart [] l = apart (l.take i) (l.drop i)) ∧ Hid (J w wr [(w.heap.size, #[.int .i64 b, .int .i64 m, .int .i64 k, .slice A n cap])])) (fun _ _ a _ => n - (intOf a).toNat)
  case atStart => exact ⟨0, Nat.zero_le _, rfl, Lib.hid rfl, hj3⟩
  case round =>
    clear hj3
    obtain ⟨i, hi, rfl, hap, hj⟩ := hrel
    by_cases hlt : i < n
    · obtain ⟨q, hq⟩ : ∃ q, l[i]? = some q := ⟨_, List.getElem?_eq_getElem (by rw [HN.out]; exact hlt)⟩
      obtain ⟨bb, o, rfl, hbb, c0, c1⟩ := pm_cells (HS.out.below hj.out.below (Nat.le_refl _)) i q hq
      have hd : Hid (l.drop i = q :: l.drop (i + 1)) := Lib.hid (by
        obtain ⟨h4, h5⟩ := List.getElem?_eq_some_iff.1 hq
        rw [List.drop_eq_getElem_cons h4, h5])
      have ht : Hid (l.take (i + 1) = l.take i ++ [q]) := Lib.hid (by rw [List.take_add_one, hq]; rfl)
      clear hq
      have HOq := Lib.hid (HOk.out q)
      have HPq := Lib.hid (fun W hW => HPl.out i q.c W (by omega) hW)
      have hap2 : Hid (apart [] l = (okP q && decide (idx (l.take i) q.c < 0) && apart (l.take (i + 1)) (l.drop (i + 1)))) := Lib.hid (by rw [hap.out, hd.out, ht.out]; rfl)
      obtain ⟨qc, qp⟩ := q
      simp only at c0 c1 HOq HPq hap2
      obtain ⟨s1, s2⟩ := slice_hi (some ⟨bb, o, none⟩) n cap i (by have := HC.out; omega)
      have i1 : (i : Int) < (n : Int) := by omega
      have e3 : IntKind.i64.wrap ((i : Int) + 1) = ((i + 1 : Nat) : Int) := by rw [IntWalk.i64_in _ (by omega)]; rfl
      have hj1 : Hid (J w _ _) := Lib.hid (hj.out.push #[.int .i64 qc, .int .i64 qp] 54)
      have HLT := Lib.hid hlt
      clear hj hd ht HOk HPl hap
      generalize okP ⟨qc, qp⟩ = ok at *
      generalize idx (l.take i) qc = ix at *
      have ways : (ok = false) ∨ (ok = true ∧ 0 ≤ ix) ∨ (ok = true ∧ ¬ 0 ≤ ix) := by
        cases ok
        · exact .inl rfl
        · by_cases h : 0 ≤ ix
          · exact .inr (.inl ⟨rfl, h⟩)
          · exact .inr (.inr ⟨rfl, h⟩)
      rcases ways with rfl | ⟨rfl, h2⟩ | ⟨rfl, h2⟩
      all_goals
        go_wp2
        have hW := Lib.hid (And.intro (hj1.out.bx 0 rfl) (hj1.out.bx 1 rfl))
        generalize hWW : wr.alloc (.cells #[.int .i64 qc, .int .i64 qp] 54) = W0 at hj1 hW ⊢
        clear hWW c0 c1
        obtain ⟨p0, p1⟩ := hW.out.1.c2
        obtain ⟨a0, a1, a2, a3⟩ := hW.out.2.c4
        have hl0 := hW.out.1.lt
        have hl1 := hW.out.2.lt
        have hjS : Hid (JS W0 [] W0) := Lib.hid (J.start W0)
        refine wp_region_all _ JS.closed hjS.out (by kernel_rfl) (by kernel_rfl) ?_
        apply Exists.intro
        refine ⟨fun w10 h10 => ?_, fun W1 hJ1 hb1 => ?_⟩
        · haveI := Ext.some h10
          have q0 := ext_old h10 (a := ⟨wr.heap.size, 0, none⟩) hl0 p0
          have q1 := ext_old h10 (a := ⟨wr.heap.size, 1, none⟩) hl0 p1
          have q3 := ext_old h10 (a := ⟨w.heap.size, 3, none⟩) hl1 a3
          have cO := Lib.hid (Ext.calls h10 JS.closed (fun W hW => HOq.out W))
          have cP := Lib.hid (Ext.calls h10 JS.closed (fun W hW => HPq.out W (hj1.out.below.trans ((J.below hW).mono hj1.out.below.size))))
          repeat go_big_quiet_step (first | (go_at_call 28; with_reducible exact cO.out _) | (go_at_call 29; with_reducible exact cP.out _))
          exact wpQuiet_nil rfl
        have hj10 := Lib.hid (hj1.out.next (J.below hJ1))
      · go_wp2
        go_ret
        exact ⟨ret_bool (by rw [hap2.out]; rfl), hj10.out.below⟩
      · go_wp2
        go_ret
        exact ⟨ret_bool (by rw [hap2.out, show decide (ix < 0) = false from decide_eq_false (by omega)]; rfl), hj10.out.below⟩
      · go_wp2
        go_roundw
        case rel => exact ⟨i + 1, by have := HLT.out; omega, rfl, Lib.hid (by rw [hap2.out, show decide (ix < 0) = true from decide_eq_true (by omega)]; rfl), Lib.hid (hj10.out.less (by simp))⟩
        case measure => have := HLT.out; simp [intOf]; omega
    · obtain rfl : i = n := by omega
      have hap2 : Hid (apart [] l = true) := Lib.hid (by rw [hap.out, List.drop_eq_nil_of_le (by rw [HN.out]; exact Nat.le_refl _)]; simp [apart])
      clear hap HPl HOk
      generalize sm l = S at *
      obtain ⟨a0, a1, a2, a3⟩ := (hj.out.bx 0 rfl).c4
      have hl1 := (hj.out.bx 0 rfl).lt
      have hjS : Hid (JS wr [] wr) := Lib.hid (J.start wr)
      go_wp2
      refine wp_region_all _ JS.closed hjS.out (by kernel_rfl) (by kernel_rfl) ?_
      apply Exists.intro
      refine ⟨fun w10 h10 => ?_, fun W1 hJ1 hb1 => ?_⟩
      · haveI := Ext.some h10
        have q0 := ext_old h10 (a := ⟨w.heap.size, 0, none⟩) hl1 a0
        have q1 := ext_old h10 (a := ⟨w.heap.size, 1, none⟩) hl1 a1
        have q2 := ext_old h10 (a := ⟨w.heap.size, 2, none⟩) hl1 a2
        have q3 := ext_old h10 (a := ⟨w.heap.size, 3, none⟩) hl1 a3
        have cS := Lib.hid (Ext.calls h10 JS.closed (fun W hW => HSm.out hap2.out W (hj.out.below.trans ((J.below hW).mono hj.out.below.size))))
        repeat go_big_quiet_step (first | (go_at_call 17; with_reducible exact cS.out _))
        exact wpQuiet_nil rfl
      have hj10 := Lib.hid (hj.out.next (J.below hJ1))
      go_wp2
      go_ret
      exact ⟨ret_bool (by rw [hap2.out, Bool.true_and]), hj10.out.below⟩

end Go.Proofs.YtjedkkkhficmoaaDoor.Lgr

/- The walk of MendSafe. -/
namespace Go.Proofs.YtjedkkkhficmoaaDoor.Walk
open Go.RowKit Go.Proofs.YtjedkkkhficmoaaDoor.SatP Go.Proofs.YtjedkkkhficmoaaDoor.LgrP Go.Proofs.YtjedkkkhficmoaaDoor.MndP Go.Proofs.YtjedkkkhficmoaaDoor.Mnd Go.Proofs.YtjedkkkhficmoaaDoor.Open Go.Proofs.YtjedkkkhficmoaaDoor.Sees Go.Proofs.YtjedkkkhficmoaaDoor.Box Go.Proofs.YtjedkkkhficmoaaDoor.Held Go.Proofs.YtjedkkkhficmoaaDoor.Jrn Go.Proofs.YtjedkkkhficmoaaDoor.Crc
set_option linter.unusedVariables false
set_option linter.unusedSimpArgs false
set_option maxRecDepth 100000

/-- a world of the call's own memory -/
structure BS (w W : World) : Prop where
  bel : Below w.heap.size w W
theorem BS.next {w W W' : World} (h : BS w W) (hb : Below W.heap.size W W') : BS w W' := ⟨h.bel.trans (hb.mono h.bel.size)⟩
/-- permits, numbers, in memory of their type -/
structure LT (W : World) (A : Option Addr) (c n : Nat) (l : List Pm) : Prop where
  len : l.length = n
  cap : n ≤ c
  max : c ≤ maxLen
  ty : TS W 54 A (pms l)
theorem LT.next {W W' : World} {A : Option Addr} {c n : Nat} {l : List Pm} (h : LT W A c n l) (hb : Below W.heap.size W W') : LT W' A c n l := ⟨h.len, h.cap, h.max, h.ty.next hb⟩
theorem LT.li {W : World} {A : Option Addr} {c n : Nat} {l : List Pm} (h : LT W A c n l) : LI W A c n l := ⟨h.len, h.cap, h.max, h.ty.sees⟩
theorem LT.set {W : World} {A : Option Addr} {c n : Nat} {l : List Pm} (h : LT W A c n l) {X : Nat} {cs : Array Value} {t : TypeId} (hX : BxT W X cs t) (ht : t ≠ 54) (j : Nat) (u : Value) : LT (W.setCell ⟨X, j, none⟩ u) A c n l := ⟨h.len, h.cap, h.max, h.ty.set hX ht j u⟩
structure NT (W : World) (A : Option Addr) (c n : Nat) (s : List Int) : Prop where
  len : s.length = n
  cap : n ≤ c
  max : c ≤ maxLen
  ty : TS W 3 A (nums .i64 s)
theorem NT.next {W W' : World} {A : Option Addr} {c n : Nat} {s : List Int} (h : NT W A c n s) (hb : Below W.heap.size W W') : NT W' A c n s := ⟨h.len, h.cap, h.max, h.ty.next hb⟩
theorem NT.ni {W : World} {A : Option Addr} {c n : Nat} {s : List Int} (h : NT W A c n s) : NI W A c n s := ⟨h.len, h.cap, h.max, h.ty.sees⟩
theorem NT.set {W : World} {A : Option Addr} {c n : Nat} {s : List Int} (h : NT W A c n s) {X : Nat} {cs : Array Value} {t : TypeId} (hX : BxT W X cs t) (ht : t ≠ 3) (j : Nat) (u : Value) : NT (W.setCell ⟨X, j, none⟩ u) A c n s := ⟨h.len, h.cap, h.max, h.ty.set hX ht j u⟩
theorem again_lt {W : World} (z0 z1 : List Int) (j : Jr) (ht : Tab W) (hj : j.In W) (he : j.n0.bs = z0 ∧ j.n1.bs = z1) {l : List Mv} {a : Option Addr} {len cp : Nat} (hv : VI W a cp len l) (hlen : len ≤ 1000) (bud : Int) {b m : Int} {x : St} {nl ns : Nat} (hb : cut bud = b) (hm : (JrnP.load z0 z1).m = m) (hx : run (JrnP.load z0 z1).l b l = x) (h1 : x.l.length = nl) (h2 : x.s.length = ns) :
    Calls Tryd.prog 9 #[j.val, .slice a len cp, .int .i64 bud] W fun e w' => ∃ A c A2 c2, e = .returned (.tuple #[.agg #[.int .i64 b, .int .i64 m, .int .i64 0, .slice A nl c], .slice A2 ns c2]) ∧ LT w' A c nl x.l ∧ NT w' A2 c2 ns x.s ∧ Below W.heap.size W w' := by
  have := again_any j z0 z1 l a len cp bud W ht hj he hv.len hlen hv.see
  rw [hb, hm, hx] at this
  refine this.mono ?_
  rintro e w' ⟨A, c, A2, c2, rfl, k1, k2, k3, k4, k5, k6, k7⟩
  rw [h1, h2]
  exact ⟨A, c, A2, c2, rfl, ⟨h1, by omega, k2, k3⟩, ⟨h2, by omega, k5, k6⟩, k7⟩
theorem check_w {W : World} {A : Option Addr} {c n : Nat} {l : List Pm} (h : LI W A c n l) (b m k : Int) : Calls Tryd.prog 14 #[.agg #[.int .i64 b, .int .i64 m, .int .i64 k, .slice A n c]] W fun e w' => e = .returned (.bool (mayK b m k l)) ∧ Below W.heap.size W w' := by
  have := Lgr.check_wide ⟨b, m, k, A, c, l⟩ W (h.lg b m k)
  rw [h.val] at this
  exact this.mono fun e w' h => ⟨h.1, h.2⟩
/-- what the region with Again carries -/
def ATv (cb gm : Int) (nl ns : Nat) (x9 : St) (vv : Value) (W : World) : Prop := ∃ A9 c9 B9 d9, vv = .tuple #[.agg #[.int .i64 cb, .int .i64 gm, .int .i64 0, .slice A9 nl c9], .slice B9 ns d9] ∧ LT W A9 c9 nl x9.l ∧ NT W B9 d9 ns x9.s
def ALv (cb gm : Int) (nl : Nat) (x9 : St) (vv : Value) (W : World) : Prop := ∃ A9 c9, vv = .agg #[.int .i64 cb, .int .i64 gm, .int .i64 0, .slice A9 nl c9] ∧ LT W A9 c9 nl x9.l
def NLv (ns : Nat) (x9 : St) (vv : Value) (W : World) : Prop := ∃ B9 d9, vv = .slice B9 ns d9 ∧ NT W B9 d9 ns x9.s
def ext1 : Value → Value
  | .tuple vs => vs[1]?.getD undef
  | _ => undef
theorem ATv.next {cb gm : Int} {nl ns : Nat} {x9 : St} {vv : Value} {W W' : World} (h : ATv cb gm nl ns x9 vv W) (hb : Below W.heap.size W W') : ATv cb gm nl ns x9 vv W' := by
  obtain ⟨A, c, B, d, h1, h2, h3⟩ := h
  exact ⟨A, c, B, d, h1, h2.next hb, h3.next hb⟩
theorem ALv.next {cb gm : Int} {nl : Nat} {x9 : St} {vv : Value} {W W' : World} (h : ALv cb gm nl x9 vv W) (hb : Below W.heap.size W W') : ALv cb gm nl x9 vv W' := by
  obtain ⟨A, c, h1, h2⟩ := h
  exact ⟨A, c, h1, h2.next hb⟩
theorem NLv.next {ns : Nat} {x9 : St} {vv : Value} {W W' : World} (h : NLv ns x9 vv W) (hb : Below W.heap.size W W') : NLv ns x9 vv W' := by
  obtain ⟨B, d, h1, h3⟩ := h
  exact ⟨B, d, h1, h3.next hb⟩
def SfR (bk4 y0 n n1 nl ns cp1 : Nat) (b m k cb gm tear bud : Int) (A a1 : Option Addr) (c : Nat) (p0 p1 g0 g1 r0 r1 : List Int) (x9 : St) : Nat → Value → World → Prop := Slot.row [
fun vv w' => JV vv w' [] [] [] [],
  fun vv _ => vv = .agg #[.int .i64 b, .int .i64 m, .int .i64 k, .slice A n c],
  fun vv w' => JV vv w' p0 p1 [] [],
  fun vv _ => vv = .agg #[.int .i64 b, .int .i64 m, .int .i64 k, .slice A n c],
  fun vv w' => JV vv w' g0 g1 p0 p1,
  fun vv _ => vv = .int .i64 tear,
  fun vv w' => JV vv w' r0 r1 p0 p1,
  fun vv _ => vv = .slice a1 n1 cp1,
  fun vv _ => vv = .int .i64 bud,
  fun vv w' => ATv cb gm nl ns x9 vv w',
  fun vv w' => ATv cb gm nl ns x9 vv w',
  fun vv w' => ALv cb gm nl x9 vv w',
  fun vv w' => NLv ns x9 vv w',
  fun vv w' => ZBv y0 vv w']
theorem SfR_next (bk4 y0 n n1 nl ns cp1 : Nat) (b m k cb gm tear bud : Int) (A a1 : Option Addr) (c : Nat) (p0 p1 g0 g1 r0 r1 : List Int) (x9 : St) : ∀ kk vv W W', SfR bk4 y0 n n1 nl ns cp1 b m k cb gm tear bud A a1 c p0 p1 g0 g1 r0 r1 x9 kk vv W → Below W.heap.size W W' → SfR bk4 y0 n n1 nl ns cp1 b m k cb gm tear bud A a1 c p0 p1 g0 g1 r0 r1 x9 kk vv W' := Slot.row_next ⟨fun _ _ _ h hb => JV.next h hb, fun _ _ _ h hb => h, fun _ _ _ h hb => JV.next h hb, fun _ _ _ h hb => h, fun _ _ _ h hb => JV.next h hb, fun _ _ _ h hb => h, fun _ _ _ h hb => JV.next h hb, fun _ _ _ h hb => h, fun _ _ _ h hb => h, fun _ _ _ h hb => ATv.next h hb, fun _ _ _ h hb => ATv.next h hb, fun _ _ _ h hb => ALv.next h hb, fun _ _ _ h hb => NLv.next h hb, fun _ _ _ h hb => ZBv.next h hb, trivial⟩
theorem SfR_r1 (ρ : Operand → Value) (o : Oper) (W : World) (bk4 y0 n n1 nl ns cp1 : Nat) (b m k cb gm tear bud : Int) (A a1 : Option Addr) (c : Nat) (p0 p1 g0 g1 r0 r1 : List Int) (x9 : St)  (ho : o.op = Op.load 32 (Operand.tmp 4)) (h0 : ρ (Operand.tmp 4) = .pointer (some ⟨bk4, 0, none⟩)) (g0 : W.cell? ⟨bk4, 0, none⟩ = some (.int .i64 b)) (g1 : W.cell? ⟨bk4, 1, none⟩ = some (.int .i64 m)) (g2 : W.cell? ⟨bk4, 2, none⟩ = some (.int .i64 k)) (g3 : W.cell? ⟨bk4, 3, none⟩ = some (.slice A n c)) : (execOp ρ o).run Tryd.prog W = .ok (.value (.agg #[.int .i64 b, .int .i64 m, .int .i64 k, .slice A n c])) W := by
  unfold execOp
  rw [ho]
  go_simp
theorem SfR_r3 (ρ : Operand → Value) (o : Oper) (W : World) (bk4 y0 n n1 nl ns cp1 : Nat) (b m k cb gm tear bud : Int) (A a1 : Option Addr) (c : Nat) (p0 p1 g0 g1 r0 r1 : List Int) (x9 : St)  (ho : o.op = Op.load 32 (Operand.tmp 4)) (h0 : ρ (Operand.tmp 4) = .pointer (some ⟨bk4, 0, none⟩)) (g0 : W.cell? ⟨bk4, 0, none⟩ = some (.int .i64 b)) (g1 : W.cell? ⟨bk4, 1, none⟩ = some (.int .i64 m)) (g2 : W.cell? ⟨bk4, 2, none⟩ = some (.int .i64 k)) (g3 : W.cell? ⟨bk4, 3, none⟩ = some (.slice A n c)) : (execOp ρ o).run Tryd.prog W = .ok (.value (.agg #[.int .i64 b, .int .i64 m, .int .i64 k, .slice A n c])) W := by
  unfold execOp
  rw [ho]
  go_simp
theorem SfR_r11 (ρ : Operand → Value) (o : Oper) (W : World) (bk4 y0 n n1 nl ns cp1 : Nat) (b m k cb gm tear bud : Int) (A a1 : Option Addr) (c : Nat) (p0 p1 g0 g1 r0 r1 : List Int) (x9 : St) (A9:Option Addr) (c9:Nat) (B9:Option Addr) (d9:Nat) (ho : o.op = Op.extract (Operand.tmp 38) 0) (h0 : ρ (Operand.tmp 38) = .tuple #[.agg #[.int .i64 cb, .int .i64 gm, .int .i64 0, .slice A9 nl c9], .slice B9 ns d9]) : (execOp ρ o).run Tryd.prog W = .ok (.value (.agg #[.int .i64 cb, .int .i64 gm, .int .i64 0, .slice A9 nl c9])) W := by
  unfold execOp
  rw [ho]
  go_simp
theorem SfR_r12 (ρ : Operand → Value) (o : Oper) (W : World) (bk4 y0 n n1 nl ns cp1 : Nat) (b m k cb gm tear bud : Int) (A a1 : Option Addr) (c : Nat) (p0 p1 g0 g1 r0 r1 : List Int) (x9 : St) (A9:Option Addr) (c9:Nat) (B9:Option Addr) (d9:Nat) (ho : o.op = Op.extract (Operand.tmp 38) 1) (h0 : ρ (Operand.tmp 38) = .tuple #[.agg #[.int .i64 cb, .int .i64 gm, .int .i64 0, .slice A9 nl c9], .slice B9 ns d9]) : (execOp ρ o).run Tryd.prog W = .ok (.value (.slice B9 ns d9)) W := by
  unfold execOp
  rw [ho]
  go_simp

/-- was nobody ahead named so? -/
def fst (l : List Mv) (c : Int) (j : Nat) : Bool := (l.take j).all fun q => decide (q.c ≠ c)
theorem fst_succ {l : List Mv} {c : Int} {j : Nat} {q : Mv} (h : l[j]? = some q) : fst l c (j + 1) = (fst l c j && decide (q.c ≠ c)) := by
  unfold fst
  rw [List.take_add_one, h]
  simp
theorem fst_iff {l : List Mv} {c : Int} {j : Nat} (h : fst l c j = true) : ∀ (i : Nat) (q : Mv), i < j → l[i]? = some q → q.c ≠ c := fun i q hi hq => by
  have := List.all_eq_true.1 h q (List.mem_of_getElem? (i := i) (by rw [List.getElem?_take_of_lt hi]; exact hq))
  simpa using this
/-- is one among those that must stop? -/
def stp (s : List Int) (c : Int) (j : Nat) : Bool := (s.take j).any fun z => decide (z = c)
theorem stp_succ {s : List Int} {c : Int} {j : Nat} {z : Int} (h : s[j]? = some z) : stp s c (j + 1) = (stp s c j || decide (z = c)) := by
  unfold stp
  rw [List.take_add_one, h]
  simp
theorem stp_all (s : List Int) (c : Int) : stp s c s.length = decide (c ∈ s) := by
  unfold stp
  rw [List.take_of_length_le (Nat.le_refl _)]
  by_cases h : c ∈ s
  · rw [decide_eq_true h]
    exact List.any_eq_true.2 ⟨c, h, by simp⟩
  · rw [decide_eq_false h]
    exact List.any_eq_false.2 fun z hz => by simp; exact fun e => h (e ▸ hz)
theorem dr_ge (t : List Pm) (v : Mv) : min v.p 1048576 ≤ dr t v := by unfold dr cut; omega

set_option maxHeartbeats 51200000 in
theorem mendSafe_walk (w : World) (ht : Tab w) (was : Lg) (tear : Int) (a1 : Option Addr) (n1 cp1 : Nat) (lv : List Mv) (bud : Int) (hin : was.In w) (hwt : (Lit.int .i64 tear).wf = true) (hl1 : lv.length = n1) (hc1 : n1 ≤ cp1) (hx1 : cp1 ≤ maxLen) (hs1 : Sees w w.heap.size a1 (mvs lv)) (hw : (Lit.int .i64 bud).wf = true) :
    Calls Tryd.prog 4 #[was.val, .int .i64 tear, .slice a1 n1 cp1, .int .i64 bud] w fun e w' => e = .returned (.bool true) ∧ Below w.heap.size w w' := by
  have hli := Lg.li hin
  obtain ⟨b, m, k, A, c, l⟩ := was
  simp only [Lg.val] at hli ⊢
  obtain ⟨n, hn⟩ : ∃ n, l.length = n := ⟨_, rfl⟩
  rw [hn] at hli ⊢
  have hbb : Below w.heap.size w (w.alloc (.cells #[.int .i64 b, .int .i64 m, .int .i64 k, .slice A n c] 32)) := below_box
  have TB_0 := Lib.hid (ht.next hbb)
  have BE_0 : Hid (BS w (w.alloc (.cells #[.int .i64 b, .int .i64 m, .int .i64 k, .slice A n c] 32))) := Lib.hid (BS.mk hbb)
  have VA_0 := Lib.hid ((VI.mk hl1 hc1 hx1 hs1).next hbb)
  have LX_0 := Lib.hid (hli.next hbb)
  have BX_0 := Lib.hid (BxT.new w #[.int .i64 b, .int .i64 m, .int .i64 k, .slice A n c] 32)
  have HV1 := Lib.hid hl1
  have htr : tear ≤ 9223372036854775807 := by
    simp [Lit.wf, IntKind.min, IntKind.max, IntKind.bits, IntKind.signed] at hwt
    omega
  clear ht hl1 hc1 hx1 hs1 hw hwt hin hli hbb
  obtain ⟨z0, z1, z2, z3⟩ := BX_0.out.bx.c4
  by_cases h1 : n1 ≤ 100
  · have f1 : decide (n1 ≤ 100) = true := decide_eq_true h1
    rcases hmk : mayK b m k l with _ | _
    · have HM := Lib.hid hmk
      clear hmk
      go_enter Tryd.func4, Tryd.ntmps4
      go_wp2_with (first
        | (go_at_call 7; (refine (Mnd.awake_any _ TB_0.out).mono ?_; rintro e w1 ⟨rfl, h1⟩; have TB_1 := Lib.hid (TB_0.out.next h1); have BE_1 := Lib.hid (BE_0.out.next h1); have LX_1 := Lib.hid (LX_0.out.next h1); have BX_1 := Lib.hid (BX_0.out.next h1); clear TB_0 BE_0 LX_0 BX_0 h1; obtain ⟨z0, z1, z2, z3⟩ := BX_1.out.bx.c4))
        | (go_at_call 8; (refine (mFew_any a1 n1 cp1 _).mono ?_; rintro e w2 ⟨rfl, h2⟩; have TB_2 := Lib.hid (TB_1.out.next h2); have BE_2 := Lib.hid (BE_1.out.next h2); have LX_2 := Lib.hid (LX_1.out.next h2); have BX_2 := Lib.hid (BX_1.out.next h2); rw [f1]; clear TB_1 BE_1 LX_1 BX_1 h2; obtain ⟨z0, z1, z2, z3⟩ := BX_2.out.bx.c4))
        | (go_at_call 14; (refine (check_w LX_2.out b m k).mono ?_; rintro e w3 ⟨rfl, h3⟩; have TB_3 := Lib.hid (TB_2.out.next h3); have BE_3 := Lib.hid (BE_2.out.next h3); have LX_3 := Lib.hid (LX_2.out.next h3); have BX_3 := Lib.hid (BX_2.out.next h3); rw [HM.out]; clear TB_2 BE_2 LX_2 BX_2 h3; obtain ⟨z0, z1, z2, z3⟩ := BX_3.out.bx.c4)))
      go_ret
      exact ⟨rfl, BE_3.out.bel⟩
    have HM := Lib.hid hmk
    have hap : apart [] l = true := by
      have h2 := hmk
      unfold mayK mayB at h2
      simp only [Bool.and_eq_true] at h2
      exact h2.1.2
    have h64 : n ≤ 64 := by rw [← hn]; exact Lgr.apart_few hap
    have f2 : ¬ (64 : Int) < (n : Int) := by omega
    have HN := Lib.hid (And.intro h1 h64)
    clear hmk hap hn
    obtain ⟨p0, hp0⟩ : ∃ p, wr0 [] [] b m l = p := ⟨_, rfl⟩
    obtain ⟨p1, hp1⟩ : ∃ p, wr1 [] [] b m l = p := ⟨_, rfl⟩
    obtain ⟨g0, hg0⟩ : ∃ p, wr0 p0 p1 b m l = p := ⟨_, rfl⟩
    obtain ⟨g1, hg1⟩ : ∃ p, wr1 p0 p1 b m l = p := ⟨_, rfl⟩
    obtain ⟨r0, hr0⟩ : ∃ p, JrnP.torn g0 p0 tear.toNat = p := ⟨_, rfl⟩
    obtain ⟨r1, hr1⟩ : ∃ p, JrnP.torn g1 p1 tear.toNat = p := ⟨_, rfl⟩
    obtain ⟨cb, hcb⟩ : ∃ cb, cut bud = cb := ⟨_, rfl⟩
    obtain ⟨gm, hgm⟩ : ∃ gm, (JrnP.load r0 r1).m = gm := ⟨_, rfl⟩
    obtain ⟨t, htl⟩ : ∃ t, (JrnP.load r0 r1).l = t := ⟨_, rfl⟩
    obtain ⟨x9, hx9⟩ : ∃ x, run t cb lv = x := ⟨_, rfl⟩
    obtain ⟨nl, hnl⟩ : ∃ n, x9.l.length = n := ⟨_, rfl⟩
    obtain ⟨ns, hns⟩ : ∃ n, x9.s.length = n := ⟨_, rfl⟩
    have HW1 : Hid (∀ (j : Jr) W, Tab W → j.In W → (j.n0.bs = [] ∧ j.n1.bs = [] ∧ j.a0.bs = [] ∧ j.a1.bs = []) → LI W A c n l → Calls Tryd.prog 15 #[j.val, .agg #[.int .i64 b, .int .i64 m, .int .i64 k, .slice A n c]] W (JP W p0 p1 [] [])) := Lib.hid fun j W h1 h2 h3 h4 => by
      have := write_li [] [] [] [] j h1 h2 h3 h4 (by have := HN.out; omega) b m k
      rwa [hp0, hp1] at this
    have HW2 : Hid (∀ (j : Jr) W, Tab W → j.In W → (j.n0.bs = p0 ∧ j.n1.bs = p1 ∧ j.a0.bs = [] ∧ j.a1.bs = []) → LI W A c n l → Calls Tryd.prog 15 #[j.val, .agg #[.int .i64 b, .int .i64 m, .int .i64 k, .slice A n c]] W (JP W g0 g1 p0 p1)) := Lib.hid fun j W h1 h2 h3 h4 => by
      have := write_li p0 p1 [] [] j h1 h2 h3 h4 (by have := HN.out; omega) b m k
      rwa [hg0, hg1] at this
    have HTr : Hid (∀ (j : Jr) W, j.In W → (j.n0.bs = g0 ∧ j.n1.bs = g1 ∧ j.a0.bs = p0 ∧ j.a1.bs = p1) → Calls Tryd.prog 16 #[j.val, .int .i64 tear] W (JP W r0 r1 p0 p1)) := Lib.hid fun j W h2 h3 => by
      have := tear_at g0 g1 p0 p1 tear j W htr h2 h3
      rwa [hr0, hr1] at this
    have HAg : Hid (∀ (j : Jr) W, Tab W → j.In W → (j.n0.bs = r0 ∧ j.n1.bs = r1) → VI W a1 cp1 n1 lv → Calls Tryd.prog 9 #[j.val, .slice a1 n1 cp1, .int .i64 bud] W fun e w' => ∃ A9 c9 B9 d9, e = .returned (.tuple #[.agg #[.int .i64 cb, .int .i64 gm, .int .i64 0, .slice A9 nl c9], .slice B9 ns d9]) ∧ LT w' A9 c9 nl x9.l ∧ NT w' B9 d9 ns x9.s ∧ Below W.heap.size W w') := Lib.hid fun j W h1 h2 h3 h4 =>
      again_lt r0 r1 j h1 h2 h3 h4 (by have := HN.out; omega) bud hcb hgm (by rw [htl]; exact hx9) hnl hns
    have hok := ok_run t cb lv
    have hlen := run_len t cb lv
    rw [hx9] at hok hlen
    rw [HV1.out] at hlen
    have hci := cut_in bud
    rw [hcb] at hci
    have hgi := load_may r0 r1
    rw [hgm] at hgi
    have HK9 : Hid (mayK cb gm 0 x9.l = true) := Lib.hid (hok.may hci hgi none 0)
    obtain ⟨S9, hS9⟩ : ∃ S, LgrP.sm x9.l = S := ⟨_, rfl⟩
    have HS9 := Lib.hid hS9
    have hl64 := hok.few_l
    have hs64 := hok.few_s
    have hle := hok.len
    rw [hnl] at hl64 hle
    rw [hns] at hs64 hle
    have HF : Hid (nl ≤ 64 ∧ ns ≤ 64) := Lib.hid ⟨hl64, hs64⟩
    obtain ⟨mb, hmb⟩ : ∃ q, max bud 0 = q := ⟨_, rfl⟩
    have m1 : ∀ W, (Builtin.max_ #[3, 3] 3 #[.int .i64 bud, .int .i64 0]).run Tryd.prog W = .ok (.int .i64 mb) W := fun W => by
      rw [run_max_int2, ← hmb]; congr 2; split <;> omega
    have g2 : ¬ mb < S9 := by
      rw [← hS9, hok.sm]
      have := hok.bud hci.1
      have e : cb ≤ mb := by rw [← hcb, ← hmb]; unfold cut; omega
      omega
    have eA : IntKind.i64.wrap ((nl : Int) + (ns : Int)) = ((nl + ns : Nat) : Int) := by rw [IntWalk.i64_in _ (by omega)]; rfl
    have g3 : ¬ (n1 : Int) < ((nl + ns : Nat) : Int) := by omega
    have HFate : Hid (∀ (kk : Nat) (v : Mv), lv[kk]? = some v → inC v.c = true → fst lv v.c kk = true → (had x9.l v.c = ⟨v.c, dr t v⟩ ∧ 0 ≤ idx x9.l v.c ∧ v.c ∉ x9.s) ∨ (idx x9.l v.c < 0 ∧ v.c ∈ x9.s)) := Lib.hid fun kk v hv hc hf => by
      have := first_fate (t := t) (b := cb) hv hc (fst_iff hf)
      rw [hx9] at this
      rcases this with ⟨h1, h2⟩ | ⟨h1, h2⟩
      · have := had_mem hok.ld h1
        exact .inl ⟨this.1, this.2, h2⟩
      · exact .inr ⟨by rw [had_none h2]; decide, h1⟩
    have HNS := Lib.hid hns
    clear hp0 hp1 hg0 hg1 hr0 hr1 hcb hgm htl hx9 hnl hns hok hlen hci hgi hl64 hs64 hle hS9 hmb h1 h64 htr
    go_enter Tryd.func4, Tryd.ntmps4
    go_wp2_with (first
      | (go_at_call 7; (refine (Mnd.awake_any _ TB_0.out).mono ?_; rintro e w1 ⟨rfl, h1⟩; have TB_1 := Lib.hid (TB_0.out.next h1); have BE_1 := Lib.hid (BE_0.out.next h1); have VA_1 := Lib.hid (VA_0.out.next h1); have LX_1 := Lib.hid (LX_0.out.next h1); have BX_1 := Lib.hid (BX_0.out.next h1); clear TB_0 BE_0 VA_0 LX_0 BX_0 h1; obtain ⟨z0, z1, z2, z3⟩ := BX_1.out.bx.c4))
      | (go_at_call 8; (refine (mFew_any a1 n1 cp1 _).mono ?_; rintro e w2 ⟨rfl, h2⟩; have TB_2 := Lib.hid (TB_1.out.next h2); have BE_2 := Lib.hid (BE_1.out.next h2); have VA_2 := Lib.hid (VA_1.out.next h2); have LX_2 := Lib.hid (LX_1.out.next h2); have BX_2 := Lib.hid (BX_1.out.next h2); rw [f1]; clear TB_1 BE_1 VA_1 LX_1 BX_1 h2; obtain ⟨z0, z1, z2, z3⟩ := BX_2.out.bx.c4))
      | (go_at_call 14; (refine (check_w LX_2.out b m k).mono ?_; rintro e w3 ⟨rfl, h3⟩; have TB_3 := Lib.hid (TB_2.out.next h3); have BE_3 := Lib.hid (BE_2.out.next h3); have VA_3 := Lib.hid (VA_2.out.next h3); have LX_3 := Lib.hid (LX_2.out.next h3); have BX_3 := Lib.hid (BX_2.out.next h3); rw [HM.out]; clear TB_2 BE_2 VA_2 LX_2 BX_2 h3; obtain ⟨z0, z1, z2, z3⟩ := BX_3.out.bx.c4)))
    have HA : Hid (∀ W, Below w3.heap.size w3 W → (W.cell? ⟨w.heap.size, 0, none⟩ = some (.int .i64 b) ∧ W.cell? ⟨w.heap.size, 1, none⟩ = some (.int .i64 m) ∧ W.cell? ⟨w.heap.size, 2, none⟩ = some (.int .i64 k) ∧ W.cell? ⟨w.heap.size, 3, none⟩ = some (.slice A n c)) ∧ Tab W ∧ LI W A c n l ∧ VI W a1 cp1 n1 lv) := Lib.hid fun W hW => ⟨(BX_3.out.next hW).bx.c4, TB_3.out.next hW, LX_3.out.next hW, VA_3.out.next hW⟩
    clear z0 z1 z2 z3
    refine Slot.wp_region_slotsm 14 [12] (fun _ x => ext1 (x 10)) (SfR w.heap.size w3.heap.size n n1 nl ns cp1 b m k cb gm tear bud A a1 c p0 p1 g0 g1 r0 r1 x9) (by kernel_rfl) (by kernel_rfl) (by kernel_rfl) (by kernel_rfl) (SfR_next w.heap.size w3.heap.size n n1 nl ns cp1 b m k cb gm tear bud A a1 c p0 p1 g0 g1 r0 r1 x9) (by intro i9 hi9 x9' w9' h9; simp only [List.mem_cons, List.not_mem_nil, or_false] at hi9; subst hi9; obtain ⟨A9, c9, B9, d9, e9, k1, k2⟩ := (h9 10 (by decide) (by decide) : ATv cb gm nl ns x9 (x9' 10) w9'); exact ⟨B9, d9, by show ext1 (x9' 10) = _; rw [e9]; rfl, k2⟩) (by intro i9 hi9 x9' y9' h9; show ext1 (x9' 10) = ext1 (y9' 10); rw [h9 10 (by simp)]) ?_ ?_
    · intro ii o x W K fr hi ho hB hd sl hbs hK
      have HX := Lib.hid (HA.out W hB)
      match ii, ho with
      | 0, ho =>
        obtain rfl := Option.some.inj ho
        refine Slot.op_go ho rfl ?_
        have s0 : fr.eval (Operand.const (Value.slice none 0 0)) = (Value.slice none 0 0) := rfl
        have s1 : fr.eval (Operand.const (Value.slice none 0 0)) = (Value.slice none 0 0) := rfl
        have ha : (#[fr.eval (Operand.const (Value.slice none 0 0)), fr.eval (Operand.const (Value.slice none 0 0))] : Array Value) = #[(Value.slice none 0 0), (Value.slice none 0 0)] := by first | rw [s0, s1] | simp only [s0, s1]
        refine Slot.wp_call (f := 10) (by kernel_rfl) ha (from_nil W) ?_
        rintro e w2' ⟨j', rfl, h1, h2, h3⟩
        have hG : JV j'.val w2' [] [] [] [] := ⟨j', rfl, h1, h2⟩
        exact ⟨_, rfl, hK _ _ h3 hG⟩
      | 1, ho =>
        obtain rfl := Option.some.inj ho
        refine Slot.op_go ho rfl ?_
        exact Slot.wp_value (SfR_r1 fr.eval _ W w.heap.size w3.heap.size n n1 nl ns cp1 b m k cb gm tear bud A a1 c p0 p1 g0 g1 r0 r1 x9  rfl (Slot.eval_at ((hbs 4 (Slot.off_of (by kernel_rfl))).trans rfl)) (HX.out.1.1) (HX.out.1.2.1) (HX.out.1.2.2.1) (HX.out.1.2.2.2)) (hK _ _ (Below.refl _ _) rfl)
      | 2, ho =>
        obtain rfl := Option.some.inj ho
        refine Slot.op_go ho rfl ?_
        obtain ⟨j0, e0, hi0, hb0⟩ := (hd ⟨0, .data⟩ (by simp) rfl : JV (x 0) W [] [] [] [])
        have e1 : x 1 = .agg #[.int .i64 b, .int .i64 m, .int .i64 k, .slice A n c] := hd ⟨1, .data⟩ (by simp) rfl
        have s0 : fr.eval (Operand.tmp 39) = j0.val := (Slot.eval_at ((sl 0 _ 39 rfl rfl).trans (congrArg some e0)))
        have s1 : fr.eval (Operand.tmp 40) = .agg #[.int .i64 b, .int .i64 m, .int .i64 k, .slice A n c] := (Slot.eval_at ((sl 1 _ 40 rfl rfl).trans (congrArg some e1)))
        have ha : (#[fr.eval (Operand.tmp 39), fr.eval (Operand.tmp 40)] : Array Value) = #[j0.val, .agg #[.int .i64 b, .int .i64 m, .int .i64 k, .slice A n c]] := by first | rw [s0, s1] | simp only [s0, s1]
        refine Slot.wp_call (f := 15) (by kernel_rfl) ha (HW1.out j0 W HX.out.2.1 hi0 hb0 HX.out.2.2.1) ?_
        rintro e w2' ⟨j', rfl, h1, h2, h3⟩
        have hG : JV j'.val w2' p0 p1 [] [] := ⟨j', rfl, h1, h2⟩
        exact ⟨_, rfl, hK _ _ h3 hG⟩
      | 3, ho =>
        obtain rfl := Option.some.inj ho
        refine Slot.op_go ho rfl ?_
        exact Slot.wp_value (SfR_r3 fr.eval _ W w.heap.size w3.heap.size n n1 nl ns cp1 b m k cb gm tear bud A a1 c p0 p1 g0 g1 r0 r1 x9  rfl (Slot.eval_at ((hbs 4 (Slot.off_of (by kernel_rfl))).trans rfl)) (HX.out.1.1) (HX.out.1.2.1) (HX.out.1.2.2.1) (HX.out.1.2.2.2)) (hK _ _ (Below.refl _ _) rfl)
      | 4, ho =>
        obtain rfl := Option.some.inj ho
        refine Slot.op_go ho rfl ?_
        obtain ⟨j2, e2, hi2, hb2⟩ := (hd ⟨2, .data⟩ (by simp) rfl : JV (x 2) W p0 p1 [] [])
        have e3 : x 3 = .agg #[.int .i64 b, .int .i64 m, .int .i64 k, .slice A n c] := hd ⟨3, .data⟩ (by simp) rfl
        have s0 : fr.eval (Operand.tmp 41) = j2.val := (Slot.eval_at ((sl 2 _ 41 rfl rfl).trans (congrArg some e2)))
        have s1 : fr.eval (Operand.tmp 42) = .agg #[.int .i64 b, .int .i64 m, .int .i64 k, .slice A n c] := (Slot.eval_at ((sl 3 _ 42 rfl rfl).trans (congrArg some e3)))
        have ha : (#[fr.eval (Operand.tmp 41), fr.eval (Operand.tmp 42)] : Array Value) = #[j2.val, .agg #[.int .i64 b, .int .i64 m, .int .i64 k, .slice A n c]] := by first | rw [s0, s1] | simp only [s0, s1]
        refine Slot.wp_call (f := 15) (by kernel_rfl) ha (HW2.out j2 W HX.out.2.1 hi2 hb2 HX.out.2.2.1) ?_
        rintro e w2' ⟨j', rfl, h1, h2, h3⟩
        have hG : JV j'.val w2' g0 g1 p0 p1 := ⟨j', rfl, h1, h2⟩
        exact ⟨_, rfl, hK _ _ h3 hG⟩
      | 5, ho =>
        obtain rfl := Option.some.inj ho
        refine Slot.op_go ho rfl ?_
        exact Slot.wp_value (Slot.run_move rfl (Slot.eval_at ((hbs 1 (Slot.off_of (by kernel_rfl))).trans rfl))) (hK _ _ (Below.refl _ _) rfl)
      | 6, ho =>
        obtain rfl := Option.some.inj ho
        refine Slot.op_go ho rfl ?_
        obtain ⟨j4, e4, hi4, hb4⟩ := (hd ⟨4, .data⟩ (by simp) rfl : JV (x 4) W g0 g1 p0 p1)
        have e5 : x 5 = .int .i64 tear := hd ⟨5, .data⟩ (by simp) rfl
        have s0 : fr.eval (Operand.tmp 43) = j4.val := (Slot.eval_at ((sl 4 _ 43 rfl rfl).trans (congrArg some e4)))
        have s1 : fr.eval (Operand.tmp 44) = .int .i64 tear := (Slot.eval_at ((sl 5 _ 44 rfl rfl).trans (congrArg some e5)))
        have ha : (#[fr.eval (Operand.tmp 43), fr.eval (Operand.tmp 44)] : Array Value) = #[j4.val, .int .i64 tear] := by first | rw [s0, s1] | simp only [s0, s1]
        refine Slot.wp_call (f := 16) (by kernel_rfl) ha (HTr.out j4 W hi4 hb4) ?_
        rintro e w2' ⟨j', rfl, h1, h2, h3⟩
        have hG : JV j'.val w2' r0 r1 p0 p1 := ⟨j', rfl, h1, h2⟩
        exact ⟨_, rfl, hK _ _ h3 hG⟩
      | 7, ho =>
        obtain rfl := Option.some.inj ho
        refine Slot.op_go ho rfl ?_
        exact Slot.wp_value (Slot.run_move rfl (Slot.eval_at ((hbs 2 (Slot.off_of (by kernel_rfl))).trans rfl))) (hK _ _ (Below.refl _ _) rfl)
      | 8, ho =>
        obtain rfl := Option.some.inj ho
        refine Slot.op_go ho rfl ?_
        exact Slot.wp_value (Slot.run_move rfl (Slot.eval_at ((hbs 3 (Slot.off_of (by kernel_rfl))).trans rfl))) (hK _ _ (Below.refl _ _) rfl)
      | 9, ho =>
        obtain rfl := Option.some.inj ho
        refine Slot.op_go ho rfl ?_
        obtain ⟨j6, e6, hi6, hb6⟩ := (hd ⟨6, .data⟩ (by simp) rfl : JV (x 6) W r0 r1 p0 p1)
        have e7 : x 7 = .slice a1 n1 cp1 := hd ⟨7, .data⟩ (by simp) rfl
        have e8 : x 8 = .int .i64 bud := hd ⟨8, .data⟩ (by simp) rfl
        have s0 : fr.eval (Operand.tmp 45) = j6.val := (Slot.eval_at ((sl 6 _ 45 rfl rfl).trans (congrArg some e6)))
        have s1 : fr.eval (Operand.tmp 46) = .slice a1 n1 cp1 := (Slot.eval_at ((sl 7 _ 46 rfl rfl).trans (congrArg some e7)))
        have s2 : fr.eval (Operand.tmp 47) = .int .i64 bud := (Slot.eval_at ((sl 8 _ 47 rfl rfl).trans (congrArg some e8)))
        have ha : (#[fr.eval (Operand.tmp 45), fr.eval (Operand.tmp 46), fr.eval (Operand.tmp 47)] : Array Value) = #[j6.val, .slice a1 n1 cp1, .int .i64 bud] := by first | rw [s0, s1, s2] | simp only [s0, s1, s2]
        refine Slot.wp_call (f := 9) (by kernel_rfl) ha (HAg.out j6 W HX.out.2.1 hi6 ⟨hb6.1, hb6.2.1⟩ HX.out.2.2.2) ?_
        rintro e w2 ⟨A9, c9, B9, d9, rfl, k1, k2, h1⟩
        exact ⟨_, rfl, hK _ _ h1 ⟨A9, c9, B9, d9, rfl, k1, k2⟩⟩
      | 10, ho =>
        obtain rfl := Option.some.inj ho
        refine Slot.op_go ho rfl ?_
        obtain ⟨A9, c9, B9, d9, e9, kl9, kn9⟩ := (hd ⟨9, .data⟩ (by simp) rfl : ATv cb gm nl ns x9 (x 9) W)
        exact Slot.wp_value (Slot.run_move rfl (Slot.eval_at ((sl 9 _ 48 rfl rfl).trans (congrArg some e9)))) (hK _ _ (Below.refl _ _) ⟨A9, c9, B9, d9, rfl, kl9, kn9⟩)
      | 11, ho =>
        obtain rfl := Option.some.inj ho
        refine Slot.op_go ho rfl ?_
        obtain ⟨A9, c9, B9, d9, e10, kl9, kn9⟩ := (hd ⟨10, .data⟩ (by simp) rfl : ATv cb gm nl ns x9 (x 10) W)
        exact Slot.wp_value (SfR_r11 fr.eval _ W w.heap.size w3.heap.size n n1 nl ns cp1 b m k cb gm tear bud A a1 c p0 p1 g0 g1 r0 r1 x9 A9 c9 B9 d9 rfl (Slot.eval_at ((sl 10 _ 38 rfl rfl).trans (congrArg some e10)))) (hK _ _ (Below.refl _ _) ⟨A9, c9, rfl, kl9⟩)
      | 12, ho =>
        obtain rfl := Option.some.inj ho
        refine Slot.op_go ho rfl ?_
        obtain ⟨A9, c9, B9, d9, e10, kl9, kn9⟩ := (hd ⟨10, .data⟩ (by simp) rfl : ATv cb gm nl ns x9 (x 10) W)
        exact Slot.wp_value (SfR_r12 fr.eval _ W w.heap.size w3.heap.size n n1 nl ns cp1 b m k cb gm tear bud A a1 c p0 p1 g0 g1 r0 r1 x9 A9 c9 B9 d9 rfl (Slot.eval_at ((sl 10 _ 38 rfl rfl).trans (congrArg some e10)))) (hK _ _ (Below.refl _ _) ⟨B9, d9, rfl, kn9⟩)
      | 13, ho =>
        obtain rfl := Option.some.inj ho
        refine Slot.op_go ho rfl ?_
        exact Slot.wp_value (W' := W.alloc (.cells #[.int .i64 0, .int .i64 0, .int .i64 0, .slice none 0 0] 32)) (AgR_alloc fr.eval _ W rfl) (hK _ _ below_box ⟨W.heap.size, rfl, BxT.new _ _ _, hB.size⟩)
      | n + 14, ho => exact absurd hi (by omega)
    · intro x W hB hx
      obtain ⟨A9, c9, B9, d9, e10, kl9, kn9⟩ := (hx 10 (by simp) : ATv cb gm nl ns x9 (x 10) W)
      obtain ⟨A11, c11, e11, kl11⟩ := (hx 11 (by simp) : ALv cb gm nl x9 (x 11) W)
      obtain ⟨B12, d12, e12, kn12⟩ := (hx 12 (by simp) : NLv ns x9 (x 12) W)
      obtain ⟨B5, e13, hB5, hn5⟩ := (hx 13 (by simp) : ZBv w3.heap.size (x 13) W)
      simp only [Inv.fill, Act.put, List.setIfInBounds_toArray, List.set_cons_zero, List.set_cons_succ, List.take_succ_cons, List.take_zero, List.drop_succ_cons, List.drop_zero, e10, e11, e12, e13]
      have E10 := Lib.hid e10
      clear hx e10 e11 e12 e13
      have hb4 : Below w3.heap.size w3 ((((W.setCell ⟨B5, 0, none⟩ (.int .i64 cb)).setCell ⟨B5, 1, none⟩ (.int .i64 gm)).setCell ⟨B5, 2, none⟩ (.int .i64 0)).setCell ⟨B5, 3, none⟩ (.slice A11 nl c11)) := below4 hB hn5 _ _ _ _
      have hBX : BxT ((((W.setCell ⟨B5, 0, none⟩ (.int .i64 cb)).setCell ⟨B5, 1, none⟩ (.int .i64 gm)).setCell ⟨B5, 2, none⟩ (.int .i64 0)).setCell ⟨B5, 3, none⟩ (.slice A11 nl c11)) B5 #[.int .i64 cb, .int .i64 gm, .int .i64 0, .slice A11 nl c11] 32 := set4 hB5
      have hdl : (32 : TypeId) ≠ 54 := by decide
      have hdi : (32 : TypeId) ≠ 3 := by decide
      have hLI : LT ((((W.setCell ⟨B5, 0, none⟩ (.int .i64 cb)).setCell ⟨B5, 1, none⟩ (.int .i64 gm)).setCell ⟨B5, 2, none⟩ (.int .i64 0)).setCell ⟨B5, 3, none⟩ (.slice A11 nl c11)) A11 c11 nl x9.l := (((kl11.set hB5 hdl 0 _).set (hB5.set 0 _) hdl 1 _).set ((hB5.set 0 _).set 1 _) hdl 2 _).set (((hB5.set 0 _).set 1 _).set 2 _) hdl 3 _
      have hNI : NT ((((W.setCell ⟨B5, 0, none⟩ (.int .i64 cb)).setCell ⟨B5, 1, none⟩ (.int .i64 gm)).setCell ⟨B5, 2, none⟩ (.int .i64 0)).setCell ⟨B5, 3, none⟩ (.slice A11 nl c11)) B12 d12 ns x9.s := (((kn12.set hB5 hdi 0 _).set (hB5.set 0 _) hdi 1 _).set ((hB5.set 0 _).set 1 _) hdi 2 _).set (((hB5.set 0 _).set 1 _).set 2 _) hdi 3 _
      have BF_0 := Lib.hid (BE_3.out.next hb4)
      have VF_0 := Lib.hid (VA_3.out.next hb4)
      have BY_0 := Lib.hid hBX
      have LY_0 := Lib.hid hLI.li
      have NY_0 := Lib.hid hNI.ni
      obtain ⟨k0, k1, k2, k3⟩ := hB5.bx.c4
      obtain ⟨f0, f1', f2, f3⟩ := hB5.bx.f4
      clear hb4 hBX hLI hNI hB5 hn5 hB HA kl11 kn12 kl9 kn9 hdl hdi TB_3 BE_3 VA_3 LX_3 BX_3
      change wpList _ _ _ _ _ _
      go_wp2
      refine ⟨rfl, rfl, fun i hi he o d ho hd => (by simp only [List.mem_cons, List.not_mem_nil, or_false] at hi; subst hi; obtain rfl := Option.some.inj ho; obtain rfl := Option.some.inj hd; have e12 : x 12 = .slice B9 ns d9 := (by rw [he]; show ext1 (x 10) = _; rw [E10.out]; rfl); rw [e12]; simp [execOp, Act.eval, go_sem]), ?_⟩
      clear k0 k1 k2 k3 f0 f1' f2 f3 E10
      generalize hW4 : ((((W.setCell ⟨B5, 0, none⟩ (.int .i64 cb)).setCell ⟨B5, 1, none⟩ (.int .i64 gm)).setCell ⟨B5, 2, none⟩ (.int .i64 0)).setCell ⟨B5, 3, none⟩ (.slice A11 nl c11)) = W4 at BF_0 VF_0 BY_0 LY_0 NY_0 ⊢
      clear hW4
      change wpList _ _ _ _ _ _
      obtain ⟨z0, z1, z2, z3⟩ := BY_0.out.bx.c4
      go_wp2_with (first
        | (go_at_call 14; (refine (check_at LY_0.out (by have := HF.out; omega) cb gm 0).mono ?_; rintro e w5 ⟨rfl, h5⟩; have BF_1 := Lib.hid (BF_0.out.next h5); have VF_1 := Lib.hid (VF_0.out.next h5); have LY_1 := Lib.hid (LY_0.out.next h5); have NY_1 := Lib.hid (NY_0.out.next h5); have BY_1 := Lib.hid (BY_0.out.next h5); rw [HK9.out]; clear BF_0 VF_0 LY_0 NY_0 BY_0 h5; obtain ⟨z0, z1, z2, z3⟩ := BY_1.out.bx.c4))
        | (go_at_call 17; (refine (sum_at LY_1.out (by have := HF.out; omega) cb gm 0 HS9.out).mono ?_; rintro e w6 ⟨rfl, h6⟩; have BF_2 := Lib.hid (BF_1.out.next h6); have VF_2 := Lib.hid (VF_1.out.next h6); have LY_2 := Lib.hid (LY_1.out.next h6); have NY_2 := Lib.hid (NY_1.out.next h6); have BY_2 := Lib.hid (BY_1.out.next h6); clear BF_1 VF_1 LY_1 NY_1 BY_1 h6; obtain ⟨z0, z1, z2, z3⟩ := BY_2.out.bx.c4)))
      clear z0 z1 z2 z3
      have HA9 : Hid (∀ W, Below w6.heap.size w6 W → BxT W B5 #[.int .i64 cb, .int .i64 gm, .int .i64 0, .slice A11 nl c11] 32 ∧ LI W A11 c11 nl x9.l ∧ NI W B12 d12 ns x9.s ∧ VI W a1 cp1 n1 lv ∧ BS w W) := Lib.hid fun W hW => ⟨BY_2.out.next hW, LY_2.out.next hW, NY_2.out.next hW, VF_2.out.next hW, BF_2.out.next hW⟩
      clear BF_2 VF_2 LY_2 NY_2 BY_2
      have hmx : Tryd.prog.follows .mixedOrders = true := by kernel_rfl
      go_loopw [13] (fun i wr => ∃ k : Nat, k ≤ n1 ∧ i = .int .i64 k ∧ Hid (Below w6.heap.size w6 wr)) (fun i _ => n1 - (intOf i).toNat)
      case atStart => exact ⟨0, Nat.zero_le _, rfl, Lib.hid (Below.refl _ _)⟩
      case round =>
        obtain ⟨i, hi, rfl, hbr⟩ := hrel
        by_cases hlt : i < n1
        · have hil : i < lv.length := by rw [HV1.out]; exact hlt
          have hiv := List.getElem?_eq_getElem hil
          obtain ⟨bb, o, rfl, hbb, e0, e1⟩ := mv_cells (HA9.out wr hbr.out).2.2.2.1.see i lv[i] hiv
          generalize lv[i] = mv at e0 e1 hiv
          have HIV := Lib.hid hiv
          have HBB := Lib.hid hbb
          have HFm := Lib.hid (HFate.out i mv hiv)
          obtain ⟨mc, mp⟩ := mv
          simp only at e0 e1 HFm
          have i1 : (i : Int) < (n1 : Int) := by omega
          have e3 : IntKind.i64.wrap ((i : Int) + 1) = ((i + 1 : Nat) : Int) := by have := HN.out; rw [IntWalk.i64_in _ (by omega)]; rfl
          have HLT := Lib.hid hlt
          clear hil hiv hbb hlt
          by_cases hc0 : mc < 0
          · clear HFm
            go_wp2
            go_roundw
            case rel => exact ⟨i + 1, HLT.out, rfl, hbr⟩
            case measure => have := HLT.out; simp [intOf]; omega
          by_cases hc1 : (63 : Int) < mc
          · clear HFm
            go_wp2
            go_roundw
            case rel => exact ⟨i + 1, HLT.out, rfl, hbr⟩
            case measure => have := HLT.out; simp [intOf]; omega
          have HIN : Hid (inC mc = true) := Lib.hid (inC_iff.2 ⟨by omega, by omega⟩)
          go_wp2
          go_loopw [14, 15] (fun f jj wr => ∃ j : Nat, j ≤ i ∧ jj = .int .i64 j ∧ f = .bool (fst lv mc j) ∧ Hid (Below w6.heap.size w6 wr)) (fun _ jj _ => i - (intOf jj).toNat)
          case atStart => exact ⟨0, Nat.zero_le _, rfl, rfl, hbr⟩
          case round =>
            clear hbr e0 e1
            obtain ⟨j, hj, rfl, rfl, hbr⟩ := hrel
            obtain ⟨b9, o9, ea, hb9, e0, e1⟩ := mv_cells (HA9.out wr hbr.out).2.2.2.1.see i _ HIV.out
            obtain ⟨rfl, rfl⟩ : bb = b9 ∧ o = o9 := by injection ea with ea; injection ea with h1 h2; exact ⟨h1, h2⟩
            clear ea
            by_cases hltj : j < i
            · have hjl : j < lv.length := by have := HLT.out; rw [HV1.out]; omega
              have hjv := List.getElem?_eq_getElem hjl
              obtain ⟨b8, o8, ea, hb8, d0, d1⟩ := mv_cells (HA9.out wr hbr.out).2.2.2.1.see j _ hjv
              obtain ⟨rfl, rfl⟩ : bb = b8 ∧ o = o8 := by injection ea with ea; injection ea with h1 h2; exact ⟨h1, h2⟩
              have HFS := Lib.hid (fst_succ (c := mc) hjv)
              generalize lv[j] = qv at d0 d1 HFS
              obtain ⟨qc, qp⟩ := qv
              simp only at d0 d1 HFS
              have i2 : (j : Int) < (i : Int) := by omega
              have i3 : (j : Int) < (n1 : Int) := by have := HLT.out; omega
              have e4 : IntKind.i64.wrap ((j : Int) + 1) = ((j + 1 : Nat) : Int) := by have := HN.out; have := HLT.out; rw [IntWalk.i64_in _ (by omega)]; rfl
              have HLJ := Lib.hid hltj
              have HB9 := Lib.hid hb9
              have hjS : Hid (JS wr [] wr) := Lib.hid (J.start wr)
              clear ea hjl hjv hltj hb8 hb9 d1 e1
              generalize fst lv mc j = f at *
              cases f
              · rw [Bool.false_and] at HFS
                clear d0 e0
                go_wp2
                refine wp_region_tail 14 _ JS.closed hjS.out hmx (by kernel_rfl) ?_
                simp only [List.take_succ_cons, List.take_zero, List.drop_succ_cons, List.drop_zero]
                apply Exists.intro
                refine ⟨fun w50 h50 => ?_, fun W1 hJ1 hB1 => ?_⟩
                · haveI := Ext.some h50
                  repeat go_big_quiet_step (fail)
                  exact wpQuiet_nil rfl
                have hb1 := Lib.hid (hbr.out.trans (hB1.mono hbr.out.size))
                clear hJ1 hB1 hjS hbr
                change wpList _ _ _ _ _ _
                go_wp2
                go_roundw
                case rel => exact ⟨j + 1, HLJ.out, rfl, by rw [HFS.out], hb1⟩
                case measure => have := HLJ.out; simp [intOf]; omega
              · rw [Bool.true_and] at HFS
                obtain ⟨v, hv⟩ : ∃ v, decide (qc ≠ mc) = v := ⟨_, rfl⟩
                rw [hv] at HFS
                have hv2 : (qc != mc) = v := by rw [← hv]; by_cases h : qc = mc <;> simp [h]
                have hv3 : (qc == mc) = !v := by rw [← hv]; by_cases h : qc = mc <;> simp [h]
                clear hv
                go_wp2
                refine wp_region_tail 14 _ JS.closed hjS.out hmx (by kernel_rfl) ?_
                simp only [List.take_succ_cons, List.take_zero, List.drop_succ_cons, List.drop_zero]
                apply Exists.intro
                refine ⟨fun w50 h50 => ?_, fun W1 hJ1 hB1 => ?_⟩
                · haveI := Ext.some h50
                  have q0 := ext_old h50 (a := ⟨bb, o + j * 2, none⟩) HB9.out d0
                  have q1 := ext_old h50 (a := ⟨bb, o + i * 2, none⟩) HB9.out e0
                  repeat go_big_quiet_step (fail)
                  exact wpQuiet_nil rfl
                have hb1 := Lib.hid (hbr.out.trans (hB1.mono hbr.out.size))
                clear hJ1 hB1 hjS hbr d0 e0
                change wpList _ _ _ _ _ _
                go_wp2
                go_roundw
                case rel => exact ⟨j + 1, HLJ.out, rfl, by rw [HFS.out], hb1⟩
                case measure => have := HLJ.out; simp [intOf]; omega
            · obtain rfl : j = i := by omega
              clear e0 e1
              rcases hff : fst lv mc j with _ | _
              · clear hff HFm
                go_wp2
                go_roundw
                case rel => exact ⟨j + 1, HLT.out, rfl, hbr⟩
                case measure => have := HLT.out; simp [intOf]; omega
              · have HF2 := HFm.out HIN.out hff
                obtain ⟨hcc, hhc⟩ : ∃ z, (had x9.l mc).c = z := ⟨_, rfl⟩
                obtain ⟨hpp, hhp⟩ : ∃ z, (had x9.l mc).p = z := ⟨_, rfl⟩
                obtain ⟨iv, hiv⟩ : ∃ z, decide (0 ≤ idx x9.l mc) = z := ⟨_, rfl⟩
                obtain ⟨sv, hsv⟩ : ∃ z, stp x9.s mc ns = z := ⟨_, rfl⟩
                have HIS : Hid ((iv = true ∧ sv = false ∧ min mp 1048576 ≤ hpp) ∨ (iv = false ∧ sv = true)) := Lib.hid (by
                  have e1 := stp_all x9.s mc
                  rw [HNS.out, hsv] at e1
                  rcases HF2 with ⟨h1, h2, h3⟩ | ⟨h1, h2⟩
                  · exact .inl ⟨by rw [← hiv]; exact decide_eq_true h2, by rw [e1]; exact decide_eq_false h3, by rw [← hhp, h1]; exact dr_ge t ⟨mc, mp⟩⟩
                  · exact .inr ⟨by rw [← hiv]; exact decide_eq_false (by omega), by rw [e1]; exact decide_eq_true h2⟩)
                have HHas : Hid (∀ W, Below w6.heap.size w6 W → Calls Tryd.prog 18 #[.agg #[.int .i64 cb, .int .i64 gm, .int .i64 0, .slice A11 nl c11], .int .i64 mc] W (Says W (.tuple #[.agg #[.int .i64 hcc, .int .i64 hpp], .bool iv]))) := Lib.hid fun W hW => by
                  have := has_at (HA9.out W hW).2.1 cb gm 0 mc
                  rwa [hhc, hhp, hiv] at this
                have HSV := Lib.hid hsv
                clear hff HFm HF2 hhc hhp hiv hsv
                go_wp2
                go_loopw [16, 17] (fun sp jj wr => ∃ j2 : Nat, j2 ≤ ns ∧ jj = .int .i64 j2 ∧ sp = .bool (stp x9.s mc j2) ∧ Hid (Below w6.heap.size w6 wr)) (fun _ jj _ => ns - (intOf jj).toNat)
                case atStart => exact ⟨0, Nat.zero_le _, rfl, rfl, hbr⟩
                case round =>
                  clear hbr
                  obtain ⟨j2, hj2, rfl, rfl, hbr⟩ := hrel
                  obtain ⟨b9, o9, ea, hb9, e0, e1⟩ := mv_cells (HA9.out wr hbr.out).2.2.2.1.see j _ HIV.out
                  obtain ⟨rfl, rfl⟩ : bb = b9 ∧ o = o9 := by injection ea with ea; injection ea with h1 h2; exact ⟨h1, h2⟩
                  clear ea
                  have HB9 := Lib.hid hb9
                  have hjS : Hid (JS wr [] wr) := Lib.hid (J.start wr)
                  clear hb9
                  by_cases hlt2 : j2 < ns
                  · have hjs : j2 < x9.s.length := by rw [HNS.out]; exact hlt2
                    have hjv := List.getElem?_eq_getElem hjs
                    obtain ⟨u8, o8, ea, hb8, d0⟩ := (HA9.out wr hbr.out).2.2.1.see.at_ (k := j2) (u := .int .i64 x9.s[j2]) (by simp [nums, hjv])
                    have HSP := Lib.hid (stp_succ (c := mc) hjv)
                    generalize x9.s[j2] = zc at d0 HSP
                    have HLJ := Lib.hid hlt2
                    have HB8 := Lib.hid hb8
                    have i4 : (j2 : Int) < (ns : Int) := by omega
                    have e4 : IntKind.i64.wrap ((j2 : Int) + 1) = ((j2 + 1 : Nat) : Int) := by have := HF.out; rw [IntWalk.i64_in _ (by omega)]; rfl
                    clear hjs hjv hlt2 hb8 e1
                    subst ea
                    generalize stp x9.s mc j2 = f at *
                    cases f
                    · rw [Bool.false_or] at HSP
                      obtain ⟨v, hv⟩ : ∃ v, decide (zc = mc) = v := ⟨_, rfl⟩
                      rw [hv] at HSP
                      have hv3 : (zc == mc) = v := by rw [← hv]; by_cases h : zc = mc <;> simp [h]
                      clear hv
                      go_wp2
                      refine wp_region_tail 13 _ JS.closed hjS.out hmx (by kernel_rfl) ?_
                      simp only [List.take_succ_cons, List.take_zero, List.drop_succ_cons, List.drop_zero]
                      apply Exists.intro
                      refine ⟨fun w50 h50 => ?_, fun W1 hJ1 hB1 => ?_⟩
                      · haveI := Ext.some h50
                        have q0 := ext_old h50 (a := ⟨u8, o8 + j2, none⟩) HB8.out d0
                        have q1 := ext_old h50 (a := ⟨bb, o + j * 2, none⟩) HB9.out e0
                        repeat go_big_quiet_step (fail)
                        exact wpQuiet_nil rfl
                      have hb1 := Lib.hid (hbr.out.trans (hB1.mono hbr.out.size))
                      clear hJ1 hB1 hjS hbr d0 e0
                      change wpList _ _ _ _ _ _
                      go_wp2
                      go_roundw
                      case rel => exact ⟨j2 + 1, HLJ.out, rfl, by rw [HSP.out], hb1⟩
                      case measure => have := HLJ.out; simp [intOf]; omega
                    · rw [Bool.true_or] at HSP
                      clear d0 e0
                      go_wp2
                      refine wp_region_tail 13 _ JS.closed hjS.out hmx (by kernel_rfl) ?_
                      simp only [List.take_succ_cons, List.take_zero, List.drop_succ_cons, List.drop_zero]
                      apply Exists.intro
                      refine ⟨fun w50 h50 => ?_, fun W1 hJ1 hB1 => ?_⟩
                      · haveI := Ext.some h50
                        repeat go_big_quiet_step (fail)
                        exact wpQuiet_nil rfl
                      have hb1 := Lib.hid (hbr.out.trans (hB1.mono hbr.out.size))
                      clear hJ1 hB1 hjS hbr
                      change wpList _ _ _ _ _ _
                      go_wp2
                      go_roundw
                      case rel => exact ⟨j2 + 1, HLJ.out, rfl, by rw [HSP.out], hb1⟩
                      case measure => have := HLJ.out; simp [intOf]; omega
                  · obtain rfl : j2 = ns := by omega
                    rw [HSV.out]
                    have HR := HA9.out wr hbr.out
                    obtain ⟨z0, z1, z2, z3⟩ := HR.1.bx.c4
                    have HB5 := Lib.hid HR.1.bx.lt
                    clear HR
                    go_wp2
                    refine wp_region_lay_late 10 [9] _ #[.int .i64 0, .int .i64 0] 54 _ 18 JS.closed hjS.out (by kernel_rfl) (by kernel_rfl) rfl rfl rfl (fun ρ w' => by simp [execOp, go_sem]) ?_
                    simp only [List.take_succ_cons, List.take_zero, List.drop_succ_cons, List.drop_zero]
                    apply Exists.intro
                    refine ⟨fun w50 h50 => ?_, fun B W3 hJ3 hz3 hB hbx aF haF => ?_⟩
                    · haveI := Ext.some h50
                      have q0 := ext_old h50 (a := ⟨B5, 0, none⟩) HB5.out z0
                      have q1 := ext_old h50 (a := ⟨B5, 1, none⟩) HB5.out z1
                      have q2 := ext_old h50 (a := ⟨B5, 2, none⟩) HB5.out z2
                      have q3 := ext_old h50 (a := ⟨B5, 3, none⟩) HB5.out z3
                      have q4 := ext_old h50 (a := ⟨bb, o + j * 2, none⟩) HB9.out e0
                      have cH := Lib.hid (Ext.calls h50 JS.closed (fun W hW => HHas.out W (hbr.out.trans ((J.below hW).mono hbr.out.size))))
                      repeat go_big_quiet_step (first | (go_at_call 18; with_reducible exact cH.out _))
                      exact wpQuiet_nil rfl
                    · have hb4 : Below w6.heap.size w6 ((W3.setCell ⟨B, 0, none⟩ (.int .i64 hcc)).setCell ⟨B, 1, none⟩ (.int .i64 hpp)) := ((hbr.out.trans (hz3.mono hbr.out.size)).setCell (p := ⟨B, 0, none⟩) (Nat.le_trans hbr.out.size hB) _).setCell (p := ⟨B, 1, none⟩) (Nat.le_trans hbr.out.size hB) _
                      have hx4 : Bx ((W3.setCell ⟨B, 0, none⟩ (.int .i64 hcc)).setCell ⟨B, 1, none⟩ (.int .i64 hpp)) B #[.int .i64 hcc, .int .i64 hpp] := (hbx.set (j := 0) (.int .i64 hcc)).set (j := 1) (.int .i64 hpp)
                      have hb5 := Lib.hid hb4
                      have hx5 := Lib.hid hx4
                      obtain ⟨f0', f1'⟩ := hbx.f2
                      obtain ⟨k0', k1'⟩ := hbx.c2
                      simp [Act.put] at haF
                      subst haF
                      clear hb4 hx4 hJ3 hz3 hB hbx z0 z1 z2 z3 e0 e1 hjS hbr
                      change wpList _ _ _ _ _ _
                      go_wp2
                      refine ⟨rfl, rfl, ⟨fun o d ho hd => by obtain rfl := Option.some.inj ho; obtain rfl := Option.some.inj hd; simp [execOp, Act.eval, go_sem], trivial⟩, ?_⟩
                      clear f0' f1' k0' k1'
                      generalize hW4 : ((W3.setCell ⟨B, 0, none⟩ (.int .i64 hcc)).setCell ⟨B, 1, none⟩ (.int .i64 hpp)) = W4 at hb5 hx5 ⊢
                      clear hW4
                      change wpList _ _ _ _ _ _
                      obtain ⟨b9, o9, ea, hb9, e0, e1⟩ := mv_cells (HA9.out W4 hb5.out).2.2.2.1.see j _ HIV.out
                      obtain ⟨rfl, rfl⟩ : bb = b9 ∧ o = o9 := by injection ea with ea; injection ea with h1 h2; exact ⟨h1, h2⟩
                      obtain ⟨k0', k1'⟩ := hx5.out.c2
                      have hlB := hx5.out.lt
                      have HLB := Lib.hid (And.intro hb9 hlB)
                      have hjS : Hid (JS W4 [] W4) := Lib.hid (J.start W4)
                      clear ea hb9 hlB e0
                      rcases HIS.out with ⟨rfl, rfl, hge⟩ | ⟨rfl, rfl⟩
                      · obtain ⟨mq, hmq⟩ : ∃ q, min mp 1048576 = q := ⟨_, rfl⟩
                        rw [hmq] at hge
                        have t1 : ∀ W, (Builtin.min_ #[3, 3] 3 #[.int .i64 mp, .int .i64 1048576]).run Tryd.prog W = .ok (.int .i64 mq) W := fun W => by
                          rw [run_min_int2, ← hmq]; congr 2; split <;> omega
                        have g9 : decide (hpp < mq) = false := decide_eq_false (by omega)
                        clear hge hmq
                        go_wp2
                        refine wp_region_all _ JS.closed hjS.out hmx (by kernel_rfl) ?_
                        apply Exists.intro
                        refine ⟨fun w50 h50 => ?_, fun W1 hJ1 hB1 => ?_⟩
                        · haveI := Ext.some h50
                          have q0 := ext_old h50 (a := ⟨B, 1, none⟩) HLB.out.2 k1'
                          have q1 := ext_old h50 (a := ⟨bb, o + j * 2 + 1, none⟩) HLB.out.1 e1
                          repeat go_big_quiet_step (fail)
                          exact wpQuiet_nil rfl
                        have hb1 := Lib.hid (hb5.out.trans (hB1.mono hb5.out.size))
                        clear hJ1 hB1 hjS hb5 hx5 k0' k1' e1
                        go_wp2
                        go_roundw
                        case rel => exact ⟨j + 1, HLT.out, rfl, hb1⟩
                        case measure => have := HLT.out; simp [intOf]; omega
                      · go_wp2
                        refine wp_region_all _ JS.closed hjS.out hmx (by kernel_rfl) ?_
                        apply Exists.intro
                        refine ⟨fun w50 h50 => ?_, fun W1 hJ1 hB1 => ?_⟩
                        · haveI := Ext.some h50
                          repeat go_big_quiet_step (fail)
                          exact wpQuiet_nil rfl
                        have hb1 := Lib.hid (hb5.out.trans (hB1.mono hb5.out.size))
                        clear hJ1 hB1 hjS hb5 hx5 k0' k1' e1
                        go_wp2
                        go_roundw
                        case rel => exact ⟨j + 1, HLT.out, rfl, hb1⟩
                        case measure => have := HLT.out; simp [intOf]; omega
        · obtain rfl : i = n1 := by omega
          have HE := Lib.hid (HA9.out _ hbr.out).2.2.2.2.bel
          go_wp2
          go_ret
          exact ⟨rfl, HE.out⟩
  · have f1 : decide (n1 ≤ 100) = false := decide_eq_false h1
    clear h1
    go_enter Tryd.func4, Tryd.ntmps4
    go_wp2_with (first
      | (go_at_call 7; (refine (Mnd.awake_any _ TB_0.out).mono ?_; rintro e w1 ⟨rfl, h1⟩; have TB_1 := Lib.hid (TB_0.out.next h1); have BE_1 := Lib.hid (BE_0.out.next h1); have LX_1 := Lib.hid (LX_0.out.next h1); have BX_1 := Lib.hid (BX_0.out.next h1); clear TB_0 BE_0 LX_0 BX_0 h1; obtain ⟨z0, z1, z2, z3⟩ := BX_1.out.bx.c4))
      | (go_at_call 8; (refine (mFew_any a1 n1 cp1 _).mono ?_; rintro e w2 ⟨rfl, h2⟩; have TB_2 := Lib.hid (TB_1.out.next h2); have BE_2 := Lib.hid (BE_1.out.next h2); have LX_2 := Lib.hid (LX_1.out.next h2); have BX_2 := Lib.hid (BX_1.out.next h2); rw [f1]; clear TB_1 BE_1 LX_1 BX_1 h2; obtain ⟨z0, z1, z2, z3⟩ := BX_2.out.bx.c4)))
    go_ret
    exact ⟨rfl, BE_2.out.bel⟩

end Go.Proofs.YtjedkkkhficmoaaDoor.Walk
