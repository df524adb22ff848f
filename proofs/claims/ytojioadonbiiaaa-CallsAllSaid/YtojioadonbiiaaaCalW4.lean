/- The walk of CallsAll. -/
import Derived.Test.YtojioadonbiiaaaCalU
import Derived.Deep.CutRange
import Derived.OpenShut
import Derived.LoopN
namespace Go.Proofs.Ytojioadonbiiaaa.Walk
open Go.RowKit Go.ChangeShapes Go.Proofs.Ytojioadonbiiaaa.Sees Go.Proofs.Ytojioadonbiiaaa.CalP Go.Proofs.Ytojioadonbiiaaa.Cal Go.Proofs.Ytojioadonbiiaaa.Box Go.Proofs.Ytojioadonbiiaaa.Held
set_option linter.unusedVariables false

/-- what holds of a car that goes where it is told -/
structure AI (n i : Nat) (last : Int) (h x : Nat) : Prop where
  hh : h < 4294967296
  hx : x < 4294967296
  cnt : i + (pc h + pc x) ≤ n
  hi : last = -1 ∨ (x = 0 ∧ ∀ g, hb h g = true → last < g)
  lo : -1 ≤ last ∧ last < 32
theorem AI.ok {n i : Nat} {last : Int} {h x : Nat} (a : AI n i last h x) : (C.mk h [x]).Ok := ⟨a.hh, fun y hy => by rw [List.mem_singleton.1 hy]; exact a.hx⟩
theorem mn_one (h x : Nat) : mn ⟨h, [x]⟩ = pc h + pc x := by unfold mn tot; simp
theorem row_one (h x : Nat) : row ⟨h, [x]⟩ 0 = x := rfl
theorem dn_one (h x : Nat) (y : Int) : dn ⟨h, [x]⟩ 0 y true = ⟨wo h y, [wo x y]⟩ := by
  have e : hasC (C.mk h [x]).l.length 0 = true := by show hasC 1 0 = true; decide
  unfold dn
  rw [if_pos e]
  rfl
theorem all_m (h : Nat) (hh : h < 4294967296) : h &&& 4294967295 = h := by
  have := Nat.and_two_pow_sub_one_eq_mod h 32
  rw [show 2 ^ 32 - 1 = 4294967295 by decide, show 2 ^ 32 = 4294967296 by decide] at this
  rw [this, Nat.mod_eq_of_lt hh]
theorem one_has (h x : Nat) : hasC (C.mk h [x]).l.length 0 = true := by show hasC 1 0 = true; decide
theorem ai_end {n i : Nat} {last : Int} {h x : Nat} (a : AI n i last h x) {p : Int} (hy : nx ⟨h, [x]⟩ 0 p 4294967295 = -1) : mn ⟨h, [x]⟩ = 0 := by
  obtain ⟨h1, h2⟩ := nx_none a.ok (one_has h x) (by decide) hy
  have k1 : x = 0 := h1
  have k2 : h &&& 4294967295 = 0 := h2
  rw [all_m h a.hh] at k2
  rw [mn_one, k1, k2, pc_z]
theorem ai_step {n i : Nat} {last : Int} {h x : Nat} (a : AI n i last h x) {p : Int} {y : Nat} (hy : nx ⟨h, [x]⟩ 0 p 4294967295 = (y : Int)) :
    (x ≠ 0 ∧ hb x y = true ∧ AI n (i + 1) last (wo h y) (wo x y)) ∨ (x = 0 ∧ last < y ∧ AI n (i + 1) y (wo h y) (wo x y)) := by
  have hr := nx_range ⟨h, [x]⟩ 0 p 4294967295
  rw [hy] at hr
  have hm := mn_less a.ok (one_has h x) hy (by omega)
  rw [dn_one, mn_one, mn_one] at hm
  have hc := a.cnt
  by_cases h0 : x = 0
  · have hl := nx_hall (c := ⟨h, [x]⟩) (one_has h x) p (hs := 4294967295) h0
    have hb1 := nx_hall_bit (c := ⟨h, [x]⟩) (one_has h x) (p := p) (hs := 4294967295) h0 (by rw [hy]; omega)
    rw [hy] at hl hb1
    have hl2 : (y : Int) = low h := by
      have e : (C.mk h [x]).h &&& 4294967295 = h := all_m h a.hh
      rw [e] at hl
      exact hl
    have hlt : last < y := by
      rcases a.hi with h1 | ⟨_, h1⟩
      · omega
      · exact h1 _ hb1
    refine .inr ⟨h0, hlt, wo_lt _ a.hh, wo_lt _ a.hx, by omega, .inr ⟨?_, fun g hg => ?_⟩, by omega⟩
    · subst h0
      exact wo_hasnt (by decide) (hb_zero _)
    · rw [hb_wo _ _ a.hh, Bool.and_eq_true] at hg
      have h2 := low_least h g hg.1
      have h3 : g ≠ y := by simpa using hg.2
      omega
  · have h1 := (nx_row a.ok (one_has h x) p 4294967295 h0).1
    rw [hy] at h1
    have h2 : last = -1 := by
      rcases a.hi with h3 | ⟨h3, _⟩
      · exact h3
      · exact absurd h3 h0
    exact .inl ⟨h0, h1, wo_lt _ a.hh, wo_lt _ a.hx, by omega, .inl h2, a.lo⟩

set_option maxRecDepth 100000 in
set_option maxHeartbeats 6400000 in
theorem callsAll_walk (w : World) (own hall pos : Int) (w0 : (Lit.int .u32 own).wf = true) (w1 : (Lit.int .u32 hall).wf = true) (w2 : (Lit.int .u8 pos).wf = true) :
    Calls Try.prog 6 #[.int .u32 own, .int .u32 hall, .int .u8 pos] w fun e w' => e = .returned (.bool true) ∧ Below w.heap.size w w' := by
  have h0 := bounds_u32 w0
  have h1 := bounds_u32 w1
  have h2 := bounds_u8 w2
  clear w0 w1 w2
  obtain ⟨x, rfl⟩ : ∃ x : Nat, own = x := ⟨own.toNat, by omega⟩
  obtain ⟨h, rfl⟩ : ∃ h : Nat, hall = h := ⟨hall.toNat, by omega⟩
  have t1 : IntKind.i64.wrap pos = pos := IntWalk.i64_in _ (by omega)
  obtain ⟨p, hp⟩ : ∃ p, pos % 249 = p := ⟨_, rfl⟩
  have t2 : pos.tmod 249 = p := by rw [Int.tmod_eq_emod_of_nonneg (by omega)]; exact hp
  have HP : Hid (0 ≤ p ∧ p ≤ 248) := Lib.hid (by omega)
  have t3 : IntKind.i64.wrap p = p := IntWalk.i64_in _ (by omega)
  have hlx := pc_le x
  have hlh := pc_le h
  obtain ⟨n, hn⟩ : ∃ n, pc h + pc x = n := ⟨_, rfl⟩
  have hn64 : n ≤ 64 := by omega
  have HI : Hid (AI n 0 (-1) h x) := Lib.hid ⟨by omega, by omega, by omega, .inl rfl, by decide⟩
  have HA : Hid (∀ W, Calls Try.prog 8 #[] W (Says W (.bool true))) := Lib.hid fun W => awake_any W
  -- what is told of one car's calls
  have HNX : Hid (∀ (X R h x : Nat) (i : Nat) (last p y : Int) (a : AI n i last h x) (hp : 0 ≤ p ∧ p ≤ 248) (hy : nx ⟨h, [x]⟩ 0 p 4294967295 = y) (cs : Array Value) W, JS w [(X, cs), (R, #[.int .u32 x])] W → Calls Try.prog 16 #[.agg #[.int .u32 h, .slice (some ⟨R, 0, none⟩) 1 1], .int .i64 0, .int .i64 p, .int .u32 4294967295] W (Says W (.int .i64 y))) := Lib.hid fun X R h x i last p y a hp hy cs => next_js (c := ⟨h, [x]⟩) a.ok rfl 1 rfl 0 p hp 4294967295 (by decide) hy
  have HMC : Hid (∀ (X R h x : Nat) (i : Nat) (last : Int) (a : AI n i last h x) (cs : Array Value) (m : Nat) (hm : mn ⟨h, [x]⟩ = m) W, JS w [(X, cs), (R, #[.int .u32 x])] W → Calls Try.prog 18 #[.agg #[.int .u32 h, .slice (some ⟨R, 0, none⟩) 1 1]] W (Says W (.int .i64 m))) := Lib.hid fun X R h x i last a cs m hm => many_js (c := ⟨h, [x]⟩) a.ok rfl (show 1 ≤ 65536 by decide) 1 rfl hm
  have HDN : Hid (∀ (X R h x : Nat) (i : Nat) (last : Int) (y : Nat) (a : AI n i last h x) (cs : Array Value) W, JS w [(X, cs), (R, #[.int .u32 x])] W → Calls Try.prog 14 #[.agg #[.int .u32 h, .slice (some ⟨R, 0, none⟩) 1 1], .int .i64 0, .int .i64 y, .bool true] W fun e W' => ∃ R', W.heap.size ≤ R' ∧ e = .returned (.agg #[.int .u32 (wo h y : Nat), .slice (some ⟨R', 0, none⟩) 1 1]) ∧ Hid (JS w ((R', #[.int .u32 (wo x y : Nat)]) :: [(X, cs), (R, #[.int .u32 x])]) W')) := Lib.hid fun X R h x i last y a cs W hW =>
    done_js (c := ⟨h, [x]⟩) a.ok rfl (show 1 ≤ 65536 by decide) 1 rfl 0 y true (dn_one h x y) W hW
  have HM0 : Hid (∀ X R cs W, JS w [(X, cs), (R, #[.int .u32 x])] W → Calls Try.prog 18 #[.agg #[.int .u32 h, .slice (some ⟨R, 0, none⟩) 1 1]] W (Says W (.int .i64 n))) := Lib.hid fun X R cs => HMC.out X R h x 0 (-1) HI.out cs n (by rw [mn_one]; exact hn)
  clear hp h0 h1 h2 hn hlx hlh
  go_enter Try.func6, Try.ntmps6
  go_upto_region 9 with (first
    | (go_at_call 8; (with_reducible refine (HA.out _).mono ?_); clear HA; rintro e w1 ⟨rfl, h1⟩; have hj1 : Hid (JS w [(w1.heap.size + 1, #[.int .u32 h, .slice (some ⟨w1.heap.size, 0, none⟩) 1 1]), (w1.heap.size, #[.int .u32 x])] _) := Lib.hid (by have := (((J.start w).next h1).push #[.int .u32 x] 23).push #[.int .u32 h, .slice (some ⟨w1.heap.size, 0, none⟩) 1 1] 27; rw [World.size_alloc] at this; exact this); have hX := Lib.hid h1.size; clear h1)
    | (go_at_call 18; (with_reducible refine (HM0.out _ _ _ _ hj1.out).mono ?_); rintro e w2 ⟨rfl, h2⟩; have hj2 := Lib.hid (JS.closed _ _ hj1.out h2); clear h2))
  obtain ⟨X, hXe⟩ : ∃ X, w1.heap.size + 1 = X := ⟨_, rfl⟩
  have HXE := Lib.hid hXe
  clear hXe
  go_loopw [9, 11, 12] (fun x9 x11 x12 wr => ∃ (i : Nat) (p last : Int) (R h x : Nat), x9 = .int .i64 p ∧ x11 = .int .i64 last ∧ x12 = .int .i64 i ∧ Hid (0 ≤ p ∧ p ≤ 248) ∧ Hid (AI n i last h x) ∧ Hid (JS w [(w1.heap.size + 1, #[.int .u32 h, .slice (some ⟨R, 0, none⟩) 1 1]), (R, #[.int .u32 x])] wr)) (fun _ _ x12 _ => 70 - (intOf x12).toNat)
  case atStart => exact ⟨0, p, -1, w1.heap.size, h, x, rfl, rfl, rfl, HP, HI, hj2⟩
  case round =>
    clear hj1 hj2 HM0 HI HP t2 t3 HXE
    obtain ⟨i, p, last, R, h, x, rfl, rfl, rfl, HP, HI, hM⟩ := hrel
    obtain ⟨d0, d1⟩ := (JS.bx hM.out 0 rfl).c2
    have hi : i ≤ n := by have := HI.out.cnt; omega
    have i1 : (i : Int) < 70 := by omega
    have e1 : IntKind.i64.wrap ((i : Int) + 1) = ((i + 1 : Nat) : Int) := by rw [IntWalk.i64_in _ (by omega)]; rfl
    obtain ⟨y, hy⟩ : ∃ y, nx ⟨h, [x]⟩ 0 p 4294967295 = y := ⟨_, rfl⟩
    have HX1 := Lib.hid (HNX.out (w1.heap.size + 1) R h x i last p y HI.out HP.out hy #[.int .u32 h, .slice (some ⟨R, 0, none⟩) 1 1])
    have hr := nx_range ⟨h, [x]⟩ 0 p 4294967295
    rw [hy] at hr
    by_cases hneg : y < 0
    · obtain rfl : y = -1 := by omega
      have HM1 := Lib.hid (HMC.out (w1.heap.size + 1) R h x i last HI.out #[.int .u32 h, .slice (some ⟨R, 0, none⟩) 1 1] 0 (ai_end HI.out hy))
      have i2 : decide ((i : Int) ≤ (n : Int)) = true := decide_eq_true (by omega)
      clear HNX HMC HDN hy hr
      go_wp2_with (first
        | (go_at_call 16; (with_reducible refine (HX1.out _ hM.out).mono ?_); rintro e w3 ⟨rfl, h3⟩; have hM3 := Lib.hid (JS.closed _ _ hM.out h3); clear h3 d0 d1; obtain ⟨d0, d1⟩ := (JS.bx hM3.out 0 rfl).c2)
        | (go_at_call 18; (with_reducible refine (HM1.out _ hM3.out).mono ?_); rintro e w4 ⟨rfl, h4⟩; have hM4 := Lib.hid (JS.closed _ _ hM3.out h4); clear h4))
      go_ret
      exact ⟨ret_bool (by simp), J.below hM4.out⟩
    · obtain ⟨yn, rfl⟩ : ∃ yn : Nat, y = yn := ⟨y.toNat, by omega⟩
      have hy32 : yn < 32 := by omega
      have t7 : IntKind.u64.wrap (yn : Int) = yn := IntWalk.u64_in _ (by omega)
      have t8 : IntKind.i64.wrap (8 * (yn : Int)) = 8 * (yn : Int) := IntWalk.i64_in _ (by omega)
      have i3 : decide ((31 : Int) < (yn : Int)) = false := decide_eq_false (by omega)
      have HD1 := Lib.hid (HDN.out (w1.heap.size + 1) R h x i last yn HI.out #[.int .u32 h, .slice (some ⟨R, 0, none⟩) 1 1])
      have hx32 := HI.out.hx
      have hst := ai_step HI.out hy
      clear hy hr HDN HI HP
      rcases hst with ⟨h0, hb1, hai⟩ | ⟨h0, hlt, hai⟩
      · have b1 := bits_yes hx32 hy32 hb1
        have v2 : ((x : Int) != 0) = true := by simpa using h0
        have HAI := Lib.hid hai
        clear hb1 hai h0 hx32
        clear HNX HMC
        go_wp2_with (first
          | (go_at_call 16; (with_reducible refine (HX1.out _ hM.out).mono ?_); rintro e w3 ⟨rfl, h3⟩; have hM3 := Lib.hid (JS.closed _ _ hM.out h3); clear h3 d0 d1; obtain ⟨d0, d1⟩ := (JS.bx hM3.out 0 rfl).c2; obtain ⟨f0, f1⟩ := (JS.bx hM3.out 0 rfl).f2; have c0 := (JS.bx hM3.out 1 rfl).c1)
          | (go_at_call 14; (with_reducible refine (HD1.out _ hM3.out).mono ?_); rintro e w4 ⟨R', hR', rfl, hM4⟩; clear d0 d1 f0 f1 c0; obtain ⟨d0, d1⟩ := (JS.bx hM4.out 1 rfl).c2; obtain ⟨f0, f1⟩ := (JS.bx hM4.out 1 rfl).f2; have hM5 := Lib.hid (jnew2 hM4.out hR' (JS.bx hM3.out 0 rfl) (by have := hX.out; omega) ⟨0, rfl⟩ (.int .u32 (wo h yn : Nat)) (.slice (some ⟨R', 0, none⟩) 1 1)); clear hM3 hR' hM4))
        go_roundw
        case rel => exact ⟨i + 1, 8 * yn, last, R', wo h yn, wo x yn, rfl, rfl, rfl, Lib.hid (by omega), HAI, hM5⟩
        case measure => simp [intOf]; omega
      · have v2 : ((x : Int) != 0) = false := by simpa using h0
        have i4 : decide ((yn : Int) ≤ last) = false := decide_eq_false (by omega)
        have HAI := Lib.hid hai
        clear hai h0 hx32 hlt
        clear HNX HMC
        go_wp2_with (first
          | (go_at_call 16; (with_reducible refine (HX1.out _ hM.out).mono ?_); rintro e w3 ⟨rfl, h3⟩; have hM3 := Lib.hid (JS.closed _ _ hM.out h3); clear h3 d0 d1; obtain ⟨d0, d1⟩ := (JS.bx hM3.out 0 rfl).c2; obtain ⟨f0, f1⟩ := (JS.bx hM3.out 0 rfl).f2; have c0 := (JS.bx hM3.out 1 rfl).c1)
          | (go_at_call 14; (with_reducible refine (HD1.out _ hM3.out).mono ?_); rintro e w4 ⟨R', hR', rfl, hM4⟩; clear d0 d1 f0 f1 c0; obtain ⟨d0, d1⟩ := (JS.bx hM4.out 1 rfl).c2; obtain ⟨f0, f1⟩ := (JS.bx hM4.out 1 rfl).f2; have hM5 := Lib.hid (jnew2 hM4.out hR' (JS.bx hM3.out 0 rfl) (by have := hX.out; omega) ⟨0, rfl⟩ (.int .u32 (wo h yn : Nat)) (.slice (some ⟨R', 0, none⟩) 1 1)); clear hM3 hR' hM4))
        go_roundw
        case rel => exact ⟨i + 1, 8 * yn, yn, R', wo h yn, wo x yn, rfl, rfl, rfl, Lib.hid (by omega), HAI, hM5⟩
        case measure => simp [intOf]; omega
end Go.Proofs.Ytojioadonbiiaaa.Walk
