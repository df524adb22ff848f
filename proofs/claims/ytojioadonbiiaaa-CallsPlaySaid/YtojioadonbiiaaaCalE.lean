/- Contracts of calls' has, Next, Many, copied. -/
import Derived.Test.YtojioadonbiiaaaCalD
import Derived.Test.YtojioadonbiiaaaCalQ
import Derived.Test.YtojioadonbiiaaaSees
import Derived.Deep.OwnRows
import Derived.Laws.CopyOwn
import Derived.LoopN
namespace Go.Proofs.Ytojioadonbiiaaa.Cal
open Go.RowKit Go.Proofs.Ytojioadonbiiaaa.Sees Go.Proofs.Ytojioadonbiiaaa.CalP Go.Proofs.Ytojioadonbiiaaa.Box Go.Proofs.Ytojioadonbiiaaa.Held
set_option linter.unusedVariables false

/-- rows as cells; calls as a value -/
def un (l : List Nat) : List Value := l.map fun x : Nat => Value.int .u32 x
def val (h : Nat) (A : Option Addr) (n c : Nat) : Value := .agg #[.int .u32 h, .slice A n c]
theorem un_len (l : List Nat) : (un l).length = l.length := by simp [un]
theorem un_one (l : List Nat) : ∀ u ∈ un l, u.oneCell' = true := by
  intro u hu
  obtain ⟨x, _, rfl⟩ := List.mem_map.1 hu
  rfl
theorem un_at {l : List Nat} {k x : Nat} (h : l[k]? = some x) : (un l)[k]? = some (.int .u32 x) := by unfold un; rw [List.getElem?_map, h]; rfl
theorem un_set (l : List Nat) (k x : Nat) : (un l).toArray.setIfInBounds k (.int .u32 x) = (un (l.set k x)).toArray := by unfold un; rw [List.map_set]; simp
theorem sees_bx {W : World} {b n₀ : Nat} {xs : List Value} (h : Bx W b xs.toArray) (hb : b < n₀) : Sees W n₀ (some ⟨b, 0, none⟩) xs :=
  .inr ⟨b, 0, rfl, hb, fun j u hu => by rw [Nat.zero_add]; exact h.cell (by simpa using hu)⟩
/-- memory alone was made since w -/
def Bw (w W : World) : Prop := Below w.heap.size w W
theorem Bw.refl (w : World) : Bw w w := Below.refl _ _
theorem Bw.next {w W W' : World} (h : Bw w W) (k : Below W.heap.size W W') : Bw w W' := below_more h k (Nat.le_refl _)
/-- a call that answers v and makes memory alone -/
def On (w : World) (v : Value) (e : Ending) (w' : World) : Prop := e = .returned v ∧ Hid (Bw w w')
theorem on_says {f : FuncId} {args : Array Value} {w W : World} {v : Value} (hW : Hid (Bw w W)) (h : Calls Try.prog f args W (Says W v)) : Calls Try.prog f args W (On w v) :=
  h.mono fun e w' ⟨h1, h2⟩ => ⟨h1, Lib.hid (hW.out.next h2)⟩
theorem on_same {f : FuncId} {args : Array Value} {w W : World} {v : Value} (hW : Hid (Bw w W)) (h : Calls Try.prog f args W fun e w' => e = .returned v ∧ W = w') : Calls Try.prog f args W (On w v) :=
  h.mono fun e w' ⟨h1, h2⟩ => ⟨h1, h2 ▸ hW⟩
theorem sees_bw {w W : World} {A : Option Addr} {xs : List Value} (h : Sees w w.heap.size A xs) (hW : Bw w W) : Sees W W.heap.size A xs := (h.below hW (Nat.le_refl _)).more hW.size

theorem has_any (h : Nat) (A : Option Addr) (n c : Nat) (k : Int) (w : World) : Calls Try.prog 24 #[val h A n c, .int .i64 k] w (Says w (.bool (hasC n k))) := by
  have hj := Lib.hid (J.one w #[.int .u32 h, .slice A n c] 27)
  obtain ⟨a0, a1⟩ := (hj.out.bx 0 rfl).c2
  unfold val
  by_cases h0 : 0 ≤ k
  · by_cases h1 : k < n
    · rw [hasC_iff.2 ⟨h0, h1⟩]
      go_enter Try.func24, Try.ntmps24
      go_wp2
      go_ret
      exact ⟨rfl, hj.out.below⟩
    · rw [hasC_no.2 (by omega)]
      go_enter Try.func24, Try.ntmps24
      go_wp2
      go_ret
      exact ⟨rfl, hj.out.below⟩
  · rw [hasC_no.2 (by omega)]
    go_enter Try.func24, Try.ntmps24
    go_wp2
    go_ret
    exact ⟨rfl, hj.out.below⟩

set_option maxHeartbeats 1600000 in
theorem Next_any (c : C) (hc : c.Ok) (A : Option Addr) (n cap : Nat) (hn : c.l.length = n) (k p : Int) (hp : 0 ≤ p ∧ p ≤ 248) (hs : Nat) (hhs : hs < 4294967296) (w : World) (hsee : Sees w w.heap.size A (un c.l)) :
    Calls Try.prog 16 #[val c.h A n cap, .int .i64 k, .int .i64 p, .int .u32 hs] w (Says w (.int .i64 (nx c k p hs))) := by
  have hj := Lib.hid (J.one w #[.int .u32 c.h, .slice A n cap] 27)
  obtain ⟨a0, a1⟩ := (hj.out.bx 0 rfl).c2
  have HH := Lib.hid (has_any c.h A n cap k)
  unfold nx
  rw [hn]
  unfold val at *
  cases hk : hasC n k
  · rw [hk] at HH
    rw [if_neg (by decide)]
    go_enter Try.func16, Try.ntmps16
    go_wp2_with (go_at_call 24; refine (HH.out _).mono ?_; rintro e w1 ⟨rfl, h1⟩; have hj1 := Lib.hid (hj.out.next h1))
    go_ret
    exact ⟨rfl, hj1.out.below⟩
  · rw [hk] at HH
    rw [if_pos rfl]
    obtain ⟨h0, h1⟩ := hasC_iff.1 hk
    clear hk
    obtain ⟨m, rfl⟩ : ∃ m : Nat, k = m := ⟨k.toNat, by omega⟩
    have hr := row_lt hc m
    have hat := row_at (c := c) (k := m) (by omega)
    obtain ⟨b, o, rfl, hb, k0⟩ := hsee.at_ (un_at hat)
    have HR := Lib.hid fun W => nearest_any (row c m) p hr hp W
    have hand : bits .and .u32 c.h hs = ((c.h &&& hs : Nat) : Int) := u32_and_nat _ _ hc.1 hhs
    have HL := Lib.hid fun W => lowest_any (c.h &&& hs) (Nat.and_lt_two_pow (n := 32) _ hhs) W
    clear hsee hat
    generalize row c m = x at *
    have hnr := nr_range x p
    generalize nr x p = y at *
    generalize low (c.h &&& hs) = z at *
    generalize c.h &&& hs = q at *
    generalize c.h = ch at *
    by_cases hy : y = -1
    · subst hy
      rw [if_pos rfl]
      go_enter Try.func16, Try.ntmps16
      go_wp2_with (first
        | (go_at_call 24; refine (HH.out _).mono ?_; rintro e w1 ⟨rfl, h1'⟩; have hj1 := Lib.hid (hj.out.next h1'); obtain ⟨b0, b1⟩ := (hj1.out.bx 0 rfl).c2; have k1 := (hj1.out.below.cell (p := ⟨b, o + m, none⟩) hb).trans k0; clear HH h1')
        | (go_at_call 25; refine (HR.out _).mono ?_; rintro e w2 ⟨rfl, h2⟩; have hj2 := Lib.hid (hj1.out.next h2); obtain ⟨c0, c1⟩ := (hj2.out.bx 0 rfl).c2; clear HR h2)
        | (go_at_call 26; refine (HL.out _).mono ?_; rintro e w3 ⟨rfl, h3⟩; have hj3 := Lib.hid (hj2.out.next h3); clear HL h3))
      go_ret
      exact ⟨rfl, hj3.out.below⟩
    · have hy' : (y == -1) = false := by simpa using hy
      rw [if_neg hy]
      go_enter Try.func16, Try.ntmps16
      go_wp2_with (first
        | (go_at_call 24; refine (HH.out _).mono ?_; rintro e w1 ⟨rfl, h1'⟩; have hj1 := Lib.hid (hj.out.next h1'); obtain ⟨b0, b1⟩ := (hj1.out.bx 0 rfl).c2; have k1 := (hj1.out.below.cell (p := ⟨b, o + m, none⟩) hb).trans k0; clear HH h1')
        | (go_at_call 25; refine (HR.out _).mono ?_; rintro e w2 ⟨rfl, h2⟩; have hj2 := Lib.hid (hj1.out.next h2); obtain ⟨c0, c1⟩ := (hj2.out.bx 0 rfl).c2; clear HR h2))
      go_ret
      exact ⟨rfl, hj2.out.below⟩

set_option maxHeartbeats 1600000 in
theorem Many_any (c : C) (hc : c.Ok) (A : Option Addr) (n cap : Nat) (hn : c.l.length = n) (hN : n ≤ 65536) (w : World) (hsee : Sees w w.heap.size A (un c.l)) :
    Calls Try.prog 18 #[val c.h A n cap] w (Says w (.int .i64 (mn c : Nat))) := by
  have hj := Lib.hid (J.one w #[.int .u32 c.h, .slice A n cap] 27)
  obtain ⟨a0, a1⟩ := (hj.out.bx 0 rfl).c2
  have HO : Hid (∀ x, x < 4294967296 → ∀ W, Calls Try.prog 27 #[.int .u32 (x : Nat)] W (Says W (.int .i64 (pc x : Nat)))) := Lib.hid fun x hx W => ones_any x hx W
  have HX := Lib.hid (HO.out c.h hc.1)
  have hpc := pc_le c.h
  unfold val mn
  have HC := Lib.hid hc.2
  have HS := Lib.hid hsee
  have HL := Lib.hid hn
  clear hsee hc hn
  obtain ⟨h, l⟩ := c
  simp only at *
  generalize pc h = y at *
  go_enter Try.func18, Try.ntmps18
  go_wp2_with (go_at_call 27; refine (HX.out _).mono ?_; rintro e w1 ⟨rfl, h1⟩; have hj1 := Lib.hid (hj.out.next h1); obtain ⟨b0, b1⟩ := (hj1.out.bx 0 rfl).c2; clear HX h1 hj a0 a1)
  go_loopw [3, 12] (fun t i wr => ∃ k s : Nat, i = .int .i64 k ∧ k ≤ n ∧ t = .int .i64 s ∧ s ≤ 32 * (k + 1) ∧ Hid (s = y + tot (l.take k)) ∧ Hid (Below w.heap.size w wr)) (fun _ i _ => n - (intOf i).toNat)
  case atStart => exact ⟨0, y, rfl, Nat.zero_le _, rfl, by omega, Lib.hid (by simp [tot]), Lib.hid hj1.out.below⟩
  case round =>
    clear b0 b1
    obtain ⟨k, s, rfl, hk, rfl, hs, hS, hM⟩ := hrel
    by_cases hlt : k < n
    · have i1 : (k : Int) < (n : Int) := by omega
      obtain ⟨x, hx⟩ : ∃ x, l[k]? = some x := ⟨_, List.getElem?_eq_getElem (by rw [HL.out]; omega)⟩
      obtain ⟨b, o, rfl, hb, k0⟩ := HS.out.at_ (un_at hx)
      have k1 := (hM.out.cell (p := ⟨b, o + k, none⟩) hb).trans k0
      have HX := Lib.hid (HO.out x (HC.out x (List.mem_of_getElem? hx)))
      have HT := Lib.hid (tot_take hx)
      have hp := pc_le x
      generalize pc x = q at *
      have e1 : IntKind.i64.wrap ((s : Int) + (q : Int)) = ((s + q : Nat) : Int) := by rw [IntWalk.i64_in _ (by omega)]; omega
      have e2 : IntKind.i64.wrap ((k : Int) + 1) = ((k + 1 : Nat) : Int) := by rw [IntWalk.i64_in _ (by omega)]; rfl
      clear hx k0
      go_wp2_with (go_at_call 27; refine (HX.out _).mono ?_; rintro e w2 ⟨rfl, h2⟩; have hb2 := Lib.hid (below_more hM.out h2 (Nat.le_refl _)); clear h2)
      go_roundw
      case rel => exact ⟨k + 1, s + q, rfl, by omega, congrArg _ (by omega), by omega, Lib.hid (by rw [HT.out, hS.out]; omega), hb2⟩
      case measure => simp [intOf]; omega
    · obtain rfl : k = n := by omega
      have e := hS.out
      rw [List.take_of_length_le (by rw [HL.out]; exact Nat.le_refl _)] at e
      have HE := Lib.hid e
      clear e hS
      go_wp2
      go_ret
      exact ⟨ret_int (by rw [HE.out]), hM.out⟩
end Go.Proofs.Ytojioadonbiiaaa.Cal
