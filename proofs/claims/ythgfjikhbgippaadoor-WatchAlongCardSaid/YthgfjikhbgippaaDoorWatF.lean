/- Contracts of slices.Clone of numbers, of watch's New, Bad, follows. -/
import Derived.Test.YthgfjikhbgippaaDoorWatE
import Derived.Test.YthgfjikhbgippaaDoorSeesN
import Derived.Test.YthgfjikhbgippaaDoorAto0
import Derived.Lib.SliceRun
namespace Go.Proofs.YthgfjikhbgippaaDoor.Wat
open Go.RowKit Go.Proofs.YthgfjikhbgippaaDoor.Plain Go.Proofs.YthgfjikhbgippaaDoor.WatP Go.Proofs.YthgfjikhbgippaaDoor.OrdP Go.Proofs.YthgfjikhbgippaaDoor.PhaP Go.Proofs.YthgfjikhbgippaaDoor.FedP Go.Proofs.YthgfjikhbgippaaDoor.Open Go.Proofs.YthgfjikhbgippaaDoor.Sees Go.Proofs.YthgfjikhbgippaaDoor.Box Go.Proofs.YthgfjikhbgippaaDoor.Held Go.Proofs.YthgfjikhbgippaaDoor.Pha Go.Proofs.YthgfjikhbgippaaDoor.Ato
open Go.Proofs.YthgfjikhbgippaaDoor.Fed (hs hs_succ an_hs karr kval jfill9x New_any)
set_option linter.unusedVariables false
set_option linter.unusedSimpArgs false
set_option maxRecDepth 100000

set_option maxHeartbeats 1600000 in
/-- slices.Clone: a row of the call's own that holds the same -/
theorem clone_any (l : List Int) (A : Option Addr) (n c : Nat) (w : World) (hl : l.length = n) (hn : n ≤ 65536) (hs : Sees w w.heap.size A (nums .i64 l)) :
    Calls Tryd.prog 31 #[.slice A n c] w fun e w' => ∃ A' c', e = .returned (.slice A' n c') ∧ w'.ownsRow w.heap.size 3 1 (.slice A' n c') n (nums .i64 l) ∧ Below w.heap.size w w' := by
  obtain ⟨i0, hi, hz0, hz1, hz2⟩ := info_parts info_ri
  have q22 : ∀ (w : World) (a : Option Addr) (n c n' c' : Nat), (binOp .eql 37 (.slice a n c) (.slice none n' c')).run Tryd.prog w = .ok (.bool a.isNone) w := fun w a n c n' c' => Lib.run_eql_slice_nil w _ _ a n c n' c' Tryd.underlying37
  rcases A with _ | ad
  · have hp : nums .i64 l = [] := by
      rcases hs with h | ⟨b, o, h, _⟩
      · exact h
      · cases h
    obtain rfl : n = 0 := by have := nums_length .i64 l; rw [hp, hl] at this; simp at this; omega
    go_enter Tryd.func31, Tryd.ntmps31
    go_wp2
    go_ret
    exact ⟨none, 0, rfl, by rw [hp]; exact World.ownsRow_nil _ _ _ _, Below.refl _ _⟩
  · have HS := Lib.hid hs
    have HL := Lib.hid hl
    clear hs hl
    go_enter Tryd.func31, Tryd.ntmps31
    go_wp2_with (at_builtin; refine wpList_append_seesN _ rfl _ _ 37 rfl w.heap.size 3 i0 (.int .i64 0) 1 8 Tryd.underlying37 hi hz0 hz1 hz2 rfl (by decide) _ _ _ rfl (World.ownsRow_made w #[] 0 (Nat.le_refl _) (Nat.zero_le _) (by simp)) w.heap.size (some ad) n c (nums .i64 l) rfl (by rw [nums_length, HL.out]; omega) (HS.out.below below_box (Nat.le_refl _)) (nums_one _ l) (by unfold maxLen; omega) (by omega) (by simp) ?_; intro v' w' hown hg)
    obtain ⟨A', c', rfl, hc', _⟩ : ∃ A' c', v' = .slice A' n c' ∧ n ≤ c' ∧ True := by
      rcases hown.2 with ⟨rfl, h0⟩ | ⟨g, cap, cur, rfl, _, _, hcap, _⟩
      · exact ⟨none, 0, by rw [show n = 0 by omega], by omega, trivial⟩
      · exact ⟨some ⟨g, 0, none⟩, cap, by simp, by omega, trivial⟩
    go_wp2
    go_ret
    exact ⟨A', c', rfl, by simpa using hown, below_box.trans (hg.below (B := w.heap.size) (by simp) (by intro g hg'; simp [Value.ownBlock, go_sem] at hg'; omega))⟩

theorem c12 {W : World} {X : Nat} {a0 a1 a2 a3 a4 a5 a6 a7 a8 a9 a10 a11 : Value} (k : Bx W X #[a0, a1, a2, a3, a4, a5, a6, a7, a8, a9, a10, a11]) : W.cell? ⟨X, 0, none⟩ = some a0 ∧ W.cell? ⟨X, 1, none⟩ = some a1 ∧ W.cell? ⟨X, 2, none⟩ = some a2 ∧ W.cell? ⟨X, 3, none⟩ = some a3 ∧ W.cell? ⟨X, 4, none⟩ = some a4 ∧ W.cell? ⟨X, 5, none⟩ = some a5 ∧ W.cell? ⟨X, 6, none⟩ = some a6 ∧ W.cell? ⟨X, 7, none⟩ = some a7 ∧ W.cell? ⟨X, 8, none⟩ = some a8 ∧ W.cell? ⟨X, 9, none⟩ = some a9 ∧ W.cell? ⟨X, 10, none⟩ = some a10 ∧ W.cell? ⟨X, 11, none⟩ = some a11 := ⟨k.cell rfl, k.cell rfl, k.cell rfl, k.cell rfl, k.cell rfl, k.cell rfl, k.cell rfl, k.cell rfl, k.cell rfl, k.cell rfl, k.cell rfl, k.cell rfl⟩
theorem f12 {W : World} {X : Nat} {a0 a1 a2 a3 a4 a5 a6 a7 a8 a9 a10 a11 : Value} (k : Bx W X #[a0, a1, a2, a3, a4, a5, a6, a7, a8, a9, a10, a11]) : W.frozen? ⟨X, 0, none⟩ = false ∧ W.frozen? ⟨X, 1, none⟩ = false ∧ W.frozen? ⟨X, 2, none⟩ = false ∧ W.frozen? ⟨X, 3, none⟩ = false ∧ W.frozen? ⟨X, 4, none⟩ = false ∧ W.frozen? ⟨X, 5, none⟩ = false ∧ W.frozen? ⟨X, 6, none⟩ = false ∧ W.frozen? ⟨X, 7, none⟩ = false ∧ W.frozen? ⟨X, 8, none⟩ = false ∧ W.frozen? ⟨X, 9, none⟩ = false ∧ W.frozen? ⟨X, 10, none⟩ = false ∧ W.frozen? ⟨X, 11, none⟩ = false := ⟨k.fr 0, k.fr 1, k.fr 2, k.fr 3, k.fr 4, k.fr 5, k.fr 6, k.fr 7, k.fr 8, k.fr 9, k.fr 10, k.fr 11⟩

/-- a new one -/
def NewP (w : World) (cs : Array Value) (e : Ending) (w' : World) : Prop := ∃ X, e = .returned (.pointer (some ⟨X, 0, none⟩)) ∧ w.heap.size ≤ X ∧ Hid (J w w' [(X, cs)])
theorem wNew_any (lag : Int) (n : Nat) (hn : bo lag 0 8 = n) (w : World) : Calls Tryd.prog 15 #[.int .i64 lag] w (NewP w #[.int .i64 n, .int .i64 0, .int .i64 0, .int .i64 0, .int .i64 0, .int .i64 0, .int .i64 0, .int .i64 0, .int .i64 0, .bool false, .slice none 0 0, .int .i64 0]) := by
  have HN := Lib.hid fun W => New_any lag n hn W
  unfold kval karr at HN
  simp only [List.map_cons, List.map_nil] at HN
  clear hn
  generalize (n : Int) = z at *
  go_enter Tryd.func15, Tryd.ntmps15
  go_wp2_with (go_at_call 21; ((with_reducible refine (HN.out _).mono ?_); rintro e w1 ⟨rfl, k1⟩; have K1 := Lib.hid k1))
  go_ret
  exact ⟨_, rfl, K1.out.size, Lib.hid (((J.start w).next K1.out).push _ _)⟩

theorem bad_any (X : Nat) (d : Int) (w : World) (hc : w.cell? ⟨X, 11, none⟩ = some (.int .i64 d)) : Calls Tryd.prog 17 #[.pointer (some ⟨X, 0, none⟩)] w fun e w' => e = .returned (.int .i64 d) ∧ w = w' := by
  go_enter Tryd.func17, Tryd.ntmps17
  go_wp2_with (go_at_call 32; refine (load_any ⟨X, 11, none⟩ d _ hc).mono ?_; rintro e w' ⟨rfl, rfl⟩)
  go_ret
  exact ⟨rfl, rfl⟩
theorem bad_nil (w : World) : Calls Tryd.prog 17 #[.pointer none] w fun e w' => e = .returned (.int .i64 0) ∧ w = w' := by
  go_enter Tryd.func17, Tryd.ntmps17
  go_wp2
  go_ret
  exact ⟨rfl, rfl⟩

set_option maxHeartbeats 1600000 in
/-- whether a fact follows what is ahead -/
theorem follows_any (X : Nat) (w : World) (hL : Lay w) (x : Fc) (hx : Rok w x.r) (b : Bool) (r : RowN) (hb : b = true → Rok w r) (hc9 : w.cell? ⟨X, 9, none⟩ = some (.bool b)) (hc10 : w.cell? ⟨X, 10, none⟩ = some r.val) (hX : X < w.heap.size) :
    Calls Tryd.prog 29 #[.pointer (some ⟨X, 0, none⟩), fcv x] w (Says w (.bool (if b then fo r.zs x.r.zs else ft x.r.zs))) := by
  have HF : Hid (∀ W, Bw w W → Calls Tryd.prog 36 #[x.r.val] W (Says W (.bool (ft x.r.zs)))) := Lib.hid fun W hW => Fits_any x.r.zs x.r.A _ x.r.c W rfl hx.len (hx.bw hW).see
  have HG : Hid (b = true → ∀ W, Bw w W → Calls Tryd.prog 37 #[r.val, x.r.val] W (Says W (.bool (fo r.zs x.r.zs)))) := Lib.hid fun e W hW =>
    Follows_any r.zs x.r.zs r.A x.r.A _ r.c _ x.r.c W (hL.bw hW) rfl rfl (hb e).len hx.len ((hb e).bw hW).see (hx.bw hW).see
  obtain ⟨pw, dr, cp, ⟨Ar, cr, zs⟩, rs⟩ := x
  obtain ⟨Aq, cq, ys⟩ := r
  unfold RowN.val at HF HG hc10
  unfold fcv RowN.val
  simp only at HF HG hc10 ⊢
  generalize ft zs = f at *
  generalize fo ys zs = g at *
  generalize zs.length = qr at *
  generalize ys.length = qy at *
  have hj : Hid (J w (w.alloc (.cells #[.int .i64 pw, .int .i64 dr, .int .i64 cp, .slice Ar qr cr, .int .u64 (rs : Nat)] 40)) _) := Lib.hid (J.one w #[.int .i64 pw, .int .i64 dr, .int .i64 cp, .slice Ar qr cr, .int .u64 (rs : Nat)] 40)
  obtain ⟨a0, a1, a2, a3, a4⟩ := (hj.out.bx 0 rfl).c5
  have d9 := (hj.out.below.cell (p := ⟨X, 9, none⟩) hX).trans hc9
  have d10 := (hj.out.below.cell (p := ⟨X, 10, none⟩) hX).trans hc10
  have hc10' := hc10
  clear hx hb hL hc9 hc10
  cases b
  · have HA := Lib.hid (HF.out _ hj.out.below)
    simp only [Bool.false_eq_true, if_false]
    clear HG HF
    go_enter Tryd.func29, Tryd.ntmps29
    go_wp2_with (go_at_call 36; ((with_reducible refine HA.out.mono ?_); rintro e w1 ⟨rfl, k1⟩; have K1 := Lib.hid (hj.out.next k1)))
    go_ret
    exact ⟨rfl, K1.out.below⟩
  · have HA := Lib.hid (HG.out rfl)
    have hjS : Hid (JS w _ _) := hj
    have hXX : X < (w.alloc (.cells #[.int .i64 pw, .int .i64 dr, .int .i64 cp, .slice Ar qr cr, .int .u64 (rs : Nat)] 40)).heap.size := Nat.lt_of_lt_of_le hX hj.out.below.size
    simp only [if_true]
    clear HG HF
    go_enter Tryd.func29, Tryd.ntmps29
    go_wp2
    refine wp_region_all _ JS.closed hjS.out (by kernel_rfl) (by kernel_rfl) ?_
    apply Exists.intro
    refine ⟨fun w3 h3 => ?_, fun W3 hJ3 hb3 => ?_⟩
    · haveI := Ext.some h3
      have q0 : ∀ n : Ext (JS w [(w.heap.size, #[.int .i64 pw, .int .i64 dr, .int .i64 cp, .slice Ar qr cr, .int .u64 (rs : Nat)])]) w3, n.W.cell? ⟨X, 10, none⟩ = some (.slice Aq qy cq) := ext_old h3 (a := ⟨X, 10, none⟩) hX hc10'
      have q3 := ext_at h3 0 3 (v := .slice Ar qr cr) rfl rfl
      have cM := Lib.hid (Ext.calls h3 JS.closed (fun W hW => HA.out W (J.below hW)))
      repeat go_big_quiet_step (first | (go_at_call 37; with_reducible exact cM.out _))
      exact wpQuiet_nil rfl
    · go_wp2
      go_ret
      exact ⟨rfl, J.below hJ3⟩
end Go.Proofs.YthgfjikhbgippaaDoor.Wat
