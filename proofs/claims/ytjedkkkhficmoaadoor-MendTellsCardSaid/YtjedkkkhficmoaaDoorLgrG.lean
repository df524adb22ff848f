/- The contract of Grant. -/
import Derived.Test.YtjedkkkhficmoaaDoorLgrA
import Derived.Test.YtjedkkkhficmoaaDoorLgrB
import Derived.Test.YtjedkkkhficmoaaDoorLgrF
import Derived.Test.YtjedkkkhficmoaaDoorTy
import Derived.RangeFuncBox
namespace Go.Proofs.YtjedkkkhficmoaaDoor.Lgr
open Go.RowKit Go.Proofs.YtjedkkkhficmoaaDoor.LgrP Go.Proofs.YtjedkkkhficmoaaDoor.Open Go.Proofs.YtjedkkkhficmoaaDoor.Sees Go.Proofs.YtjedkkkhficmoaaDoor.Box Go.Proofs.YtjedkkkhficmoaaDoor.Held
set_option linter.unusedVariables false

/-- the permits behind Grant -/
def gl (x : Lg) (car peak : Int) : List Pm := if ge x car peak = 0 then x.l ++ [⟨car, peak⟩] else x.l
/-- what Grant answers -/
def GrantPost (w : World) (x : Lg) (car peak : Int) (e : Ending) (w' : World) : Prop :=
  ∃ (A' : Option Addr) (c' : Nat), e = .returned (.tuple #[.agg #[.int .i64 x.b, .int .i64 x.m, .int .i64 x.k, .slice A' (gl x car peak).length c'], .int .i64 (ge x car peak)]) ∧
    (gl x car peak).length ≤ c' ∧ c' ≤ maxLen ∧ Sees w' w'.heap.size A' (pms (gl x car peak)) ∧ Below w.heap.size w w'
/-- what Grant answers, and that what is granted lies in permits' memory -/
def GrantPostT (w : World) (x : Lg) (car peak : Int) (e : Ending) (w' : World) : Prop :=
  ∃ (A' : Option Addr) (c' : Nat), e = .returned (.tuple #[.agg #[.int .i64 x.b, .int .i64 x.m, .int .i64 x.k, .slice A' (gl x car peak).length c'], .int .i64 (ge x car peak)]) ∧
    (gl x car peak).length ≤ c' ∧ c' ≤ maxLen ∧ Sees w' w'.heap.size A' (pms (gl x car peak)) ∧ (ge x car peak = 0 → Jrn.TS w' 54 A' (pms (gl x car peak))) ∧ Below w.heap.size w w'
theorem j_row {w W W' : World} {bs : List (Nat × Array Value)} {base : Nat} {o : Option Nat} (h : J w W bs) (hg : W.grownBy W' o) (ho : ∀ g, o = some g → base ≤ g) (hw : w.heap.size ≤ base) (hb : ∀ x ∈ bs, x.1 < base) : J w W' bs :=
  ⟨h.below.grown hg h.below.size (fun g e => Nat.le_trans hw (ho g e)), fun x hx => (h.at_ x hx).kept (hg.block x.1 (h.at_ x hx).lt (fun e => by have := ho _ e.symm; have := hb x hx; omega))⟩
theorem own_max {W : World} {base : Nat} {e : TypeId} {size : Nat} {A : Option Addr} {n c : Nat} {xs : List Value} (h : W.ownsRow base e size (.slice A n c) n xs) : c ≤ maxLen := by
  rcases h.2 with ⟨hv, _⟩ | ⟨g, cap2, cur, hv, _, _, _, hmx, _⟩
  · injection hv; omega
  · injection hv; omega
theorem jfill4 {w W : World} {bs : List (Nat × Array Value)} {X : Nat} {a b c d x y z u : Value} (h : J w W ((X, #[a, b, c, d]) :: bs)) (hX : w.heap.size ≤ X) (hne : ∀ x ∈ bs, x.1 ≠ X) : J w ((((W.setCell ⟨X, 0, none⟩ x).setCell ⟨X, 1, none⟩ y).setCell ⟨X, 2, none⟩ z).setCell ⟨X, 3, none⟩ u) ((X, #[x, y, z, u]) :: bs) :=
  (((h.put hX hne 0 x).put hX hne 1 y).put hX hne 2 z).put hX hne 3 u
theorem far4 {W : World} {n₀ : Nat} {A : Option Addr} {xs : List Value} (h : Far W n₀ A xs) {X : Nat} (x y z u : Value) (hX : X < n₀) : Far ((((W.setCell ⟨X, 0, none⟩ x).setCell ⟨X, 1, none⟩ y).setCell ⟨X, 2, none⟩ z).setCell ⟨X, 3, none⟩ u) n₀ A xs :=
  (((h.set 0 x hX).set 1 y hX).set 2 z hX).set 3 u hX

theorem own_next {W W' : World} {base : Nat} {e : TypeId} {size : Nat} {v : Value} {n : Nat} {xs : List Value} (h : W.ownsRow base e size v n xs) (hb : Below W.heap.size W W') : W'.ownsRow base e size v n xs := own_below h hb fun k hk => (h.lt k hk).2

set_option maxRecDepth 100000 in
set_option maxHeartbeats 6400000 in
theorem grant_ts (x : Lg) (car peak : Int) (w : World) (hx : x.In w) (hmay : x.May) : Calls Tryd.prog 22 #[x.val, .int .i64 car, .int .i64 peak] w (GrantPostT w x car peak) := by
  obtain ⟨hcap, hmax, hs⟩ := hx
  obtain ⟨hb, hm, hk, hp, hl⟩ := hmay
  obtain ⟨b, m, k, A, cap, l⟩ := x
  simp only at hcap hmax hs hb hm hk hp hl
  have hS0 : 0 ≤ sm l ∧ sm l ≤ 67108864 := by
    rw [sm_tot (by omega) hp]
    have := tot_ge hp
    omega
  have hf0 : 0 ≤ fr ⟨b, m, k, A, cap, l⟩ ∧ fr ⟨b, m, k, A, cap, l⟩ ≤ 1048576 := by
    unfold fr
    simp only
    split <;> omega
  have hfr : ∀ A' c', fr ⟨b, m, k, A', c', l⟩ = fr ⟨b, m, k, A, cap, l⟩ := fun _ _ => rfl
  have ways : (okP ⟨car, peak⟩ = false ∧ ge ⟨b, m, k, A, cap, l⟩ car peak = 1) ∨ (okP ⟨car, peak⟩ = true ∧ 0 ≤ idx l car ∧ ge ⟨b, m, k, A, cap, l⟩ car peak = 21) ∨
      (okP ⟨car, peak⟩ = true ∧ ¬ 0 ≤ idx l car ∧ b < sm l + peak + fr ⟨b, m, k, A, cap, l⟩ ∧ ge ⟨b, m, k, A, cap, l⟩ car peak = 20) ∨
      (okP ⟨car, peak⟩ = true ∧ ¬ 0 ≤ idx l car ∧ ¬ b < sm l + peak + fr ⟨b, m, k, A, cap, l⟩ ∧ ge ⟨b, m, k, A, cap, l⟩ car peak = 0) := by
    unfold ge
    simp only
    cases h1 : okP ⟨car, peak⟩
    · exact .inl ⟨rfl, rfl⟩
    · refine .inr ?_
      simp only [Bool.true_eq_false, if_false]
      by_cases h2 : 0 ≤ idx l car
      · exact .inl ⟨trivial, h2, by rw [if_pos h2]⟩
      · refine .inr ?_
        rw [if_neg h2]
        by_cases h3 : b < sm l + peak + fr ⟨b, m, k, A, cap, l⟩
        · exact .inl ⟨trivial, h2, h3, by rw [if_pos h3]⟩
        · exact .inr ⟨trivial, h2, h3, by rw [if_neg h3]⟩
  have hpk : okP ⟨car, peak⟩ = true → 0 ≤ peak ∧ peak ≤ 1048576 := fun h => (okP_iff.1 h).2
  have HCl : Hid (∀ W, Below w.heap.size w W → Calls Tryd.prog 35 #[.slice A l.length cap] W fun e w' => ∃ A' c', e = .returned (.slice A' l.length c') ∧ l.length ≤ c' ∧ w'.ownsRow W.heap.size 54 2 (.slice A' l.length c') l.length (pms l) ∧ Below W.heap.size W w') := Lib.hid fun W hW =>
    clone_any l A l.length cap W rfl (by omega) ((hs.below hW (Nat.le_refl _)).more hW.size)
  have HOk : Hid (∀ W, Calls Tryd.prog 28 #[.agg #[.int .i64 car, .int .i64 peak]] W (Says W (.bool (okP ⟨car, peak⟩)))) := Lib.hid fun W => isPermit_any ⟨car, peak⟩ W
  have HPl : Hid (∀ A' c' W, Far W (w.heap.size + 2) A' (pms l) → Calls Tryd.prog 29 #[.slice A' l.length c', .int .i64 car] W (Says W (.int .i64 (idx l car)))) := Lib.hid fun A' c' W h => place_any l A' l.length c' car W rfl (by unfold maxLen; omega) h.sees
  have HSm : Hid (∀ A' c' W, l.length ≤ c' → c' ≤ maxLen → Far W (w.heap.size + 2) A' (pms l) → Calls Tryd.prog 17 #[.agg #[.int .i64 b, .int .i64 m, .int .i64 k, .slice A' l.length c']] W (Says W (.int .i64 (sm l)))) := Lib.hid fun A' c' W h1 h2 h3 => sum_any ⟨b, m, k, A', c', l⟩ W ⟨h1, h2, h3.sees⟩ (by simp only; omega)
  have HFr : Hid (∀ A' c' W, Calls Tryd.prog 36 #[.agg #[.int .i64 b, .int .i64 m, .int .i64 k, .slice A' l.length c']] W (Says W (.int .i64 (fr ⟨b, m, k, A, cap, l⟩)))) := Lib.hid fun A' c' W => by
    have := free_any ⟨b, m, k, A', c', l⟩ hm hk W
    rwa [hfr] at this
  unfold GrantPostT gl
  generalize ge ⟨b, m, k, A, cap, l⟩ car peak = E at *
  generalize okP ⟨car, peak⟩ = ok at *
  generalize idx l car = ix at *
  generalize sm l = S at *
  generalize fr ⟨b, m, k, A, cap, l⟩ = f at *
  have hj := Lib.hid (J.two w #[.int .i64 b, .int .i64 m, .int .i64 k, .slice A l.length cap] #[.int .i64 0, .int .i64 0, .int .i64 0, .slice none 0 0] 32 32)
  obtain ⟨a0, a1, a2, a3⟩ := (hj.out.bx 1 rfl).c4
  unfold Lg.val
  simp only
  have HL := Lib.hid hl
  clear hs hp hl hfr hcap hmax
  have n1 : w.heap.size ≠ w.heap.size + 1 := by omega
  have n2 : w.heap.size + 1 ≠ w.heap.size := by omega
  rcases ways with ⟨rfl, rfl⟩ | ⟨rfl, h2, rfl⟩ | ⟨rfl, h2, h3, rfl⟩ | ⟨rfl, h2, h3, rfl⟩
  · rw [if_neg (by decide)]
    clear HPl HSm HFr hpk hS0 hf0 hb hm hk
    generalize hn : l.length = n at *
    have HN := Lib.hid hn
    clear hn
    go_enter Tryd.func22, Tryd.ntmps22
    go_wp2_with (first
      | (go_at_call 35; (with_reducible refine (HCl.out _ below_two).mono ?_); clear HCl a0 a1 a2 a3; rintro e w5 ⟨A', c', rfl, hc', hown, h5⟩; have hR5 := Lib.hid (Far.own hown (n₀ := w.heap.size + 2) (by simp)); have hM := Lib.hid (own_max hown); clear hown; have hj5 := Lib.hid (hj.out.next h5); clear h5 hj; have hj6 : Hid (J w (w5.setCell ⟨w.heap.size, 3, none⟩ (.slice A' n c')) [(w.heap.size + 1, #[.int .i64 0, .int .i64 0, .int .i64 0, .slice none 0 0]), (w.heap.size, #[.int .i64 b, .int .i64 m, .int .i64 k, .slice A' n c'])]) := Lib.hid (by have := J.set hj5.out 3 (.slice A' n c') (X := w.heap.size) (Nat.le_refl _); simpa using this); obtain ⟨a0, a1, a2, a3⟩ := (hj5.out.bx 1 rfl).c4; obtain ⟨f0, f1, f2, f3⟩ := (hj5.out.bx 1 rfl).f4; have hj7 := Lib.hid (hj6.out.push #[.int .i64 car, .int .i64 peak] 54); rw [show (w5.setCell ⟨w.heap.size, 3, none⟩ (.slice A' n c')).heap.size = w5.heap.size from by simp [World.setCell]] at hj7; have hR7 := Lib.hid ((hR5.out.set (X := w.heap.size) 3 (.slice A' n c') (by omega)).next (below_box (o := .cells #[.int .i64 car, .int .i64 peak] 54))); obtain ⟨p0, p1⟩ := (hj7.out.bx 0 rfl).c2)
      | (go_at_call 28; (with_reducible refine (HOk.out _).mono ?_); clear HOk a0 a1 a2 a3 f0 f1 f2 f3 p0 p1; rintro e w8 ⟨rfl, h8⟩; have hj8 := Lib.hid (hj7.out.next h8); have hR8 := Lib.hid (hR7.out.next h8); clear h8 hR7 hj7 hj6 hj5 hR5; obtain ⟨a0, a1, a2, a3⟩ := (hj8.out.bx 2 rfl).c4; obtain ⟨z0, z1, z2, z3⟩ := (hj8.out.bx 1 rfl).c4; obtain ⟨f0, f1, f2, f3⟩ := (hj8.out.bx 1 rfl).f4))
    have hje := jfill4 (x := .int .i64 b) (y := .int .i64 m) (z := .int .i64 k) (u := .slice A' n c') (hj8.out.less (bs' := [(w.heap.size + 1, #[.int .i64 0, .int .i64 0, .int .i64 0, .slice none 0 0]), (w.heap.size, #[.int .i64 b, .int .i64 m, .int .i64 k, .slice A' n c'])]) (by simp)) (by omega) (fun x hx => by simp at hx; subst hx; exact n1)
    obtain ⟨k0, k1, k2, k3⟩ := (hje.bx 0 rfl).c4
    refine bodyPost_ret (v := .tuple #[.agg #[.int .i64 b, .int .i64 m, .int .i64 k, .slice A' n c'], .int .i64 1]) (by simp [results, Tryd.results22, go_sem, k0, k1, k2, k3]) rfl ⟨A', c', rfl, hc', hM.out, (far4 hR8.out (X := w.heap.size + 1) _ _ _ _ (by omega)).sees, fun h => absurd h (by decide), hje.below⟩
  · rw [if_neg (by decide)]
    clear HSm HFr hpk hS0 hf0 hb hm hk
    generalize hn : l.length = n at *
    have HN := Lib.hid hn
    clear hn
    go_enter Tryd.func22, Tryd.ntmps22
    go_wp2_with (first
      | (go_at_call 35; (with_reducible refine (HCl.out _ below_two).mono ?_); clear HCl a0 a1 a2 a3; rintro e w5 ⟨A', c', rfl, hc', hown, h5⟩; have hR5 := Lib.hid (Far.own hown (n₀ := w.heap.size + 2) (by simp)); have hM := Lib.hid (own_max hown); clear hown; have hj5 := Lib.hid (hj.out.next h5); clear h5 hj; have hj6 : Hid (J w (w5.setCell ⟨w.heap.size, 3, none⟩ (.slice A' n c')) [(w.heap.size + 1, #[.int .i64 0, .int .i64 0, .int .i64 0, .slice none 0 0]), (w.heap.size, #[.int .i64 b, .int .i64 m, .int .i64 k, .slice A' n c'])]) := Lib.hid (by have := J.set hj5.out 3 (.slice A' n c') (X := w.heap.size) (Nat.le_refl _); simpa using this); obtain ⟨a0, a1, a2, a3⟩ := (hj5.out.bx 1 rfl).c4; obtain ⟨f0, f1, f2, f3⟩ := (hj5.out.bx 1 rfl).f4; have hj7 := Lib.hid (hj6.out.push #[.int .i64 car, .int .i64 peak] 54); rw [show (w5.setCell ⟨w.heap.size, 3, none⟩ (.slice A' n c')).heap.size = w5.heap.size from by simp [World.setCell]] at hj7; have hR7 := Lib.hid ((hR5.out.set (X := w.heap.size) 3 (.slice A' n c') (by omega)).next (below_box (o := .cells #[.int .i64 car, .int .i64 peak] 54))); obtain ⟨p0, p1⟩ := (hj7.out.bx 0 rfl).c2)
      | (go_at_call 28; (with_reducible refine (HOk.out _).mono ?_); clear HOk a0 a1 a2 a3 f0 f1 f2 f3 p0 p1; rintro e w8 ⟨rfl, h8⟩; have hj8 := Lib.hid (hj7.out.next h8); have hR8 := Lib.hid (hR7.out.next h8); clear h8 hR7 hj7 hj6 hj5 hR5; obtain ⟨a0, a1, a2, a3⟩ := (hj8.out.bx 2 rfl).c4; obtain ⟨z0, z1, z2, z3⟩ := (hj8.out.bx 1 rfl).c4; obtain ⟨f0, f1, f2, f3⟩ := (hj8.out.bx 1 rfl).f4)
      | (go_at_call 29; (with_reducible refine (HPl.out _ _ _ hR8.out).mono ?_); clear HPl a0 a1 a2 a3 z0 z1 z2 z3 f0 f1 f2 f3; rintro e w9 ⟨rfl, h9⟩; have hj9 := Lib.hid (hj8.out.next h9); have hR9 := Lib.hid (hR8.out.next h9); clear h9 hR8 hj8; obtain ⟨a0, a1, a2, a3⟩ := (hj9.out.bx 2 rfl).c4; obtain ⟨z0, z1, z2, z3⟩ := (hj9.out.bx 1 rfl).c4; obtain ⟨f0, f1, f2, f3⟩ := (hj9.out.bx 1 rfl).f4))
    have hje := jfill4 (x := .int .i64 b) (y := .int .i64 m) (z := .int .i64 k) (u := .slice A' n c') (hj9.out.less (bs' := [(w.heap.size + 1, #[.int .i64 0, .int .i64 0, .int .i64 0, .slice none 0 0]), (w.heap.size, #[.int .i64 b, .int .i64 m, .int .i64 k, .slice A' n c'])]) (by simp)) (by omega) (fun x hx => by simp at hx; subst hx; exact n1)
    obtain ⟨k0, k1, k2, k3⟩ := (hje.bx 0 rfl).c4
    refine bodyPost_ret (v := .tuple #[.agg #[.int .i64 b, .int .i64 m, .int .i64 k, .slice A' n c'], .int .i64 21]) (by simp [results, Tryd.results22, go_sem, k0, k1, k2, k3]) rfl ⟨A', c', rfl, hc', hM.out, (far4 hR9.out (X := w.heap.size + 1) _ _ _ _ (by omega)).sees, fun h => absurd h (by decide), hje.below⟩
  · rw [if_neg (by decide)]
    obtain ⟨P1, hP1⟩ : ∃ P1, S + peak = P1 := ⟨_, rfl⟩
    obtain ⟨P2, hP2⟩ : ∃ P2, P1 + f = P2 := ⟨_, rfl⟩
    have hpk := hpk rfl
    have e1 : IntKind.i64.wrap (S + peak) = P1 := by rw [hP1]; exact IntWalk.i64_in _ (by omega)
    have e2 : IntKind.i64.wrap (P1 + f) = P2 := by rw [hP2]; exact IntWalk.i64_in _ (by omega)
    rw [hP1, hP2] at h3
    clear hP1 hP2 hpk hS0 hf0 hb hm hk
    generalize hn : l.length = n at *
    have HN := Lib.hid hn
    clear hn
    go_enter Tryd.func22, Tryd.ntmps22
    go_wp2_with (first
      | (go_at_call 35; (with_reducible refine (HCl.out _ below_two).mono ?_); clear HCl a0 a1 a2 a3; rintro e w5 ⟨A', c', rfl, hc', hown, h5⟩; have hR5 := Lib.hid (Far.own hown (n₀ := w.heap.size + 2) (by simp)); have hM := Lib.hid (own_max hown); clear hown; have hj5 := Lib.hid (hj.out.next h5); clear h5 hj; have hj6 : Hid (J w (w5.setCell ⟨w.heap.size, 3, none⟩ (.slice A' n c')) [(w.heap.size + 1, #[.int .i64 0, .int .i64 0, .int .i64 0, .slice none 0 0]), (w.heap.size, #[.int .i64 b, .int .i64 m, .int .i64 k, .slice A' n c'])]) := Lib.hid (by have := J.set hj5.out 3 (.slice A' n c') (X := w.heap.size) (Nat.le_refl _); simpa using this); obtain ⟨a0, a1, a2, a3⟩ := (hj5.out.bx 1 rfl).c4; obtain ⟨f0, f1, f2, f3⟩ := (hj5.out.bx 1 rfl).f4; have hj7 := Lib.hid (hj6.out.push #[.int .i64 car, .int .i64 peak] 54); rw [show (w5.setCell ⟨w.heap.size, 3, none⟩ (.slice A' n c')).heap.size = w5.heap.size from by simp [World.setCell]] at hj7; have hR7 := Lib.hid ((hR5.out.set (X := w.heap.size) 3 (.slice A' n c') (by omega)).next (below_box (o := .cells #[.int .i64 car, .int .i64 peak] 54))); obtain ⟨p0, p1⟩ := (hj7.out.bx 0 rfl).c2)
      | (go_at_call 28; (with_reducible refine (HOk.out _).mono ?_); clear HOk a0 a1 a2 a3 f0 f1 f2 f3 p0 p1; rintro e w8 ⟨rfl, h8⟩; have hj8 := Lib.hid (hj7.out.next h8); have hR8 := Lib.hid (hR7.out.next h8); clear h8 hR7 hj7 hj6 hj5 hR5; obtain ⟨a0, a1, a2, a3⟩ := (hj8.out.bx 2 rfl).c4; obtain ⟨z0, z1, z2, z3⟩ := (hj8.out.bx 1 rfl).c4; obtain ⟨f0, f1, f2, f3⟩ := (hj8.out.bx 1 rfl).f4)
      | (go_at_call 29; (with_reducible refine (HPl.out _ _ _ hR8.out).mono ?_); clear HPl a0 a1 a2 a3 z0 z1 z2 z3 f0 f1 f2 f3; rintro e w9 ⟨rfl, h9⟩; have hj9 := Lib.hid (hj8.out.next h9); have hR9 := Lib.hid (hR8.out.next h9); clear h9 hR8 hj8; obtain ⟨a0, a1, a2, a3⟩ := (hj9.out.bx 2 rfl).c4; obtain ⟨z0, z1, z2, z3⟩ := (hj9.out.bx 1 rfl).c4; obtain ⟨f0, f1, f2, f3⟩ := (hj9.out.bx 1 rfl).f4))
    have hjS : Hid (JS w9 [] w9) := Lib.hid (J.start w9)
    have hlt := Lib.hid (hj9.out.bx 2 rfl).lt
    refine wp_region_all _ JS.closed hjS.out (by kernel_rfl) (by kernel_rfl) ?_
    apply Exists.intro
    refine ⟨fun w10 h10 => ?_, fun W1 hJ1 hb1 => ?_⟩
    · haveI := Ext.some h10
      have q0 := ext_old h10 (a := ⟨w.heap.size, 0, none⟩) hlt.out a0
      have q1 := ext_old h10 (a := ⟨w.heap.size, 1, none⟩) hlt.out a1
      have q2 := ext_old h10 (a := ⟨w.heap.size, 2, none⟩) hlt.out a2
      have q3 := ext_old h10 (a := ⟨w.heap.size, 3, none⟩) hlt.out a3
      have cS := Lib.hid (Ext.calls h10 JS.closed (fun W hW => HSm.out A' c' W hc' hM.out (hR9.out.next (J.below hW))))
      have cF := Lib.hid (Ext.calls h10 JS.closed (fun W _ => HFr.out A' c' W))
      repeat go_big_quiet_step (first | (go_at_call 17; with_reducible exact cS.out _) | (go_at_call 36; with_reducible exact cF.out _))
      exact wpQuiet_nil rfl
    have hb10 : Below w9.heap.size w9 W1 := J.below hJ1
    have hj10 := Lib.hid (hj9.out.next hb10)
    have hR10 := Lib.hid (hR9.out.next hb10)
    clear a0 a1 a2 a3 z0 z1 z2 z3 f0 f1 f2 f3 hb10 hb1 hJ1 hjS hj9 hR9
    obtain ⟨a0, a1, a2, a3⟩ := (hj10.out.bx 2 rfl).c4
    obtain ⟨z0, z1, z2, z3⟩ := (hj10.out.bx 1 rfl).c4
    obtain ⟨f0, f1, f2, f3⟩ := (hj10.out.bx 1 rfl).f4
    go_wp2
    have hje := jfill4 (x := .int .i64 b) (y := .int .i64 m) (z := .int .i64 k) (u := .slice A' n c') (hj10.out.less (bs' := [(w.heap.size + 1, #[.int .i64 0, .int .i64 0, .int .i64 0, .slice none 0 0]), (w.heap.size, #[.int .i64 b, .int .i64 m, .int .i64 k, .slice A' n c'])]) (by simp)) (by omega) (fun x hx => by simp at hx; subst hx; exact n1)
    obtain ⟨k0, k1, k2, k3⟩ := (hje.bx 0 rfl).c4
    refine bodyPost_ret (v := .tuple #[.agg #[.int .i64 b, .int .i64 m, .int .i64 k, .slice A' n c'], .int .i64 20]) (by simp [results, Tryd.results22, go_sem, k0, k1, k2, k3]) rfl ⟨A', c', rfl, hc', hM.out, (far4 hR10.out (X := w.heap.size + 1) _ _ _ _ (by omega)).sees, fun h => absurd h (by decide), hje.below⟩
  · rw [if_pos rfl]
    obtain ⟨i0, hi, hz0, hz1, hz2⟩ := info_parts infoPermit
    obtain ⟨P1, hP1⟩ : ∃ P1, S + peak = P1 := ⟨_, rfl⟩
    obtain ⟨P2, hP2⟩ : ∃ P2, P1 + f = P2 := ⟨_, rfl⟩
    have hpk := hpk rfl
    have e1 : IntKind.i64.wrap (S + peak) = P1 := by rw [hP1]; exact IntWalk.i64_in _ (by omega)
    have e2 : IntKind.i64.wrap (P1 + f) = P2 := by rw [hP2]; exact IntWalk.i64_in _ (by omega)
    rw [hP1, hP2] at h3
    clear hP1 hP2 hpk hS0 hf0 hb hm hk
    rw [List.length_append, List.length_cons, List.length_nil]
    generalize hn : l.length = n at *
    have HN := Lib.hid hn
    clear hn
    go_enter Tryd.func22, Tryd.ntmps22
    go_wp2_with (first
      | (go_at_call 35; (with_reducible refine (HCl.out _ below_two).mono ?_); clear HCl a0 a1 a2 a3; rintro e w5 ⟨A', c', rfl, hc', hown, h5⟩; have hR5 := Lib.hid (Far.own hown (n₀ := w.heap.size + 2) (by simp)); have hM := Lib.hid (own_max hown); have hO7 := Lib.hid (own_next (ownsRow_setCell_other (own_lower hown (base' := w.heap.size + 2) (by simp)) (a := ⟨w.heap.size, 3, none⟩) (fun e => by have := (hown.lt _ e).1; simp at this; omega) (.slice A' n c')) (below_box (o := .cells #[.int .i64 car, .int .i64 peak] 54))); clear hown; have hj5 := Lib.hid (hj.out.next h5); clear h5 hj; have hj6 : Hid (J w (w5.setCell ⟨w.heap.size, 3, none⟩ (.slice A' n c')) [(w.heap.size + 1, #[.int .i64 0, .int .i64 0, .int .i64 0, .slice none 0 0]), (w.heap.size, #[.int .i64 b, .int .i64 m, .int .i64 k, .slice A' n c'])]) := Lib.hid (by have := J.set hj5.out 3 (.slice A' n c') (X := w.heap.size) (Nat.le_refl _); simpa using this); obtain ⟨a0, a1, a2, a3⟩ := (hj5.out.bx 1 rfl).c4; obtain ⟨f0, f1, f2, f3⟩ := (hj5.out.bx 1 rfl).f4; have hj7 := Lib.hid (hj6.out.push #[.int .i64 car, .int .i64 peak] 54); rw [show (w5.setCell ⟨w.heap.size, 3, none⟩ (.slice A' n c')).heap.size = w5.heap.size from by simp [World.setCell]] at hj7; have hR7 := Lib.hid ((hR5.out.set (X := w.heap.size) 3 (.slice A' n c') (by omega)).next (below_box (o := .cells #[.int .i64 car, .int .i64 peak] 54))); obtain ⟨p0, p1⟩ := (hj7.out.bx 0 rfl).c2)
      | (go_at_call 28; (with_reducible refine (HOk.out _).mono ?_); clear HOk a0 a1 a2 a3 f0 f1 f2 f3 p0 p1; rintro e w8 ⟨rfl, h8⟩; have hj8 := Lib.hid (hj7.out.next h8); have hR8 := Lib.hid (hR7.out.next h8); have hO8 := Lib.hid (own_next hO7.out h8); clear hO7; clear h8 hR7 hj7 hj6 hj5 hR5; obtain ⟨a0, a1, a2, a3⟩ := (hj8.out.bx 2 rfl).c4; obtain ⟨z0, z1, z2, z3⟩ := (hj8.out.bx 1 rfl).c4; obtain ⟨f0, f1, f2, f3⟩ := (hj8.out.bx 1 rfl).f4)
      | (go_at_call 29; (with_reducible refine (HPl.out _ _ _ hR8.out).mono ?_); clear HPl a0 a1 a2 a3 z0 z1 z2 z3 f0 f1 f2 f3; rintro e w9 ⟨rfl, h9⟩; have hj9 := Lib.hid (hj8.out.next h9); have hR9 := Lib.hid (hR8.out.next h9); have hO9 := Lib.hid (own_next hO8.out h9); clear hO8; clear h9 hR8 hj8; obtain ⟨a0, a1, a2, a3⟩ := (hj9.out.bx 2 rfl).c4; obtain ⟨z0, z1, z2, z3⟩ := (hj9.out.bx 1 rfl).c4; obtain ⟨f0, f1, f2, f3⟩ := (hj9.out.bx 1 rfl).f4))
    have hjS : Hid (JS w9 [] w9) := Lib.hid (J.start w9)
    have hlt := Lib.hid (hj9.out.bx 2 rfl).lt
    refine wp_region_all _ JS.closed hjS.out (by kernel_rfl) (by kernel_rfl) ?_
    apply Exists.intro
    refine ⟨fun w10 h10 => ?_, fun W1 hJ1 hb1 => ?_⟩
    · haveI := Ext.some h10
      have q0 := ext_old h10 (a := ⟨w.heap.size, 0, none⟩) hlt.out a0
      have q1 := ext_old h10 (a := ⟨w.heap.size, 1, none⟩) hlt.out a1
      have q2 := ext_old h10 (a := ⟨w.heap.size, 2, none⟩) hlt.out a2
      have q3 := ext_old h10 (a := ⟨w.heap.size, 3, none⟩) hlt.out a3
      have cS := Lib.hid (Ext.calls h10 JS.closed (fun W hW => HSm.out A' c' W hc' hM.out (hR9.out.next (J.below hW))))
      have cF := Lib.hid (Ext.calls h10 JS.closed (fun W _ => HFr.out A' c' W))
      repeat go_big_quiet_step (first | (go_at_call 17; with_reducible exact cS.out _) | (go_at_call 36; with_reducible exact cF.out _))
      exact wpQuiet_nil rfl
    have hb10 : Below w9.heap.size w9 W1 := J.below hJ1
    have hj10 := Lib.hid (hj9.out.next hb10)
    have hR10 := Lib.hid (hR9.out.next hb10)
    have hO10 := Lib.hid (own_next hO9.out hb10)
    clear hO9
    clear a0 a1 a2 a3 z0 z1 z2 z3 f0 f1 f2 f3 hb10 hb1 hJ1 hjS hj9 hR9
    obtain ⟨a0, a1, a2, a3⟩ := (hj10.out.bx 2 rfl).c4
    obtain ⟨z0, z1, z2, z3⟩ := (hj10.out.bx 1 rfl).c4
    obtain ⟨f0, f1, f2, f3⟩ := (hj10.out.bx 1 rfl).f4
    obtain ⟨p0, p1⟩ := (hj10.out.bx 0 rfl).c2
    have hws : w.heap.size + 2 ≤ W1.heap.size := by have := (hj10.out.bx 1 rfl).lt; omega
    go_wp2_with (at_builtin; refine wpList_append_seesN _ rfl _ _ 30 rfl (w.heap.size + 2) 54 i0 (.agg #[.int .i64 0, .int .i64 0]) 2 16 Tryd.underlying30 hi hz0 hz1 hz2 rfl (by decide) _ _ _ rfl (hO10.out.alloc _) (W1.heap.size + 1) (some ⟨W1.heap.size, 0, none⟩) 1 1 (pms [⟨car, peak⟩]) rfl (by simp [pms, Pm.cells]) (.inr ⟨W1.heap.size, 0, rfl, by omega, fun j u hu => by rw [Nat.zero_add]; exact (Bx.new W1 #[.int .i64 car, .int .i64 peak] _).cell (by simpa [pms, Pm.cells] using hu)⟩) (pms_one _) (by have := HL.out; unfold maxLen; omega) (by have := HL.out; omega) (by simp; omega) ?_; intro v' w11 hown11 hg11; obtain ⟨g', c2, rfl⟩ := ownsRow_succ hown11; have hj11 := Lib.hid (j_row (hj10.out.alloc (.cells #[.int .i64 car, .int .i64 peak] 54) |>.less (bs' := [(w.heap.size + 1, #[.int .i64 0, .int .i64 0, .int .i64 0, .slice none 0 0]), (w.heap.size, #[.int .i64 b, .int .i64 m, .int .i64 k, .slice A' n c'])]) (by simp)) hg11.by_ (fun g e => (hO10.out.lt g e).1) (by omega) (fun x hx => by simp at hx; rcases hx with rfl | rfl <;> simp)); clear a0 a1 a2 a3 z0 z1 z2 z3 f0 f1 f2 f3 p0 p1; obtain ⟨a0, a1, a2, a3⟩ := (hj11.out.bx 1 rfl).c4; obtain ⟨y0, y1, y2, y3⟩ := (hj11.out.bx 1 rfl).f4; obtain ⟨z0, z1, z2, z3⟩ := (hj11.out.bx 0 rfl).c4; obtain ⟨f0, f1, f2, f3⟩ := (hj11.out.bx 0 rfl).f4)
    have hj12 : J w (w11.setCell ⟨w.heap.size, 3, none⟩ (.slice (some ⟨g', 0, none⟩) (n + 1) c2)) [(w.heap.size + 1, #[.int .i64 0, .int .i64 0, .int .i64 0, .slice none 0 0]), (w.heap.size, #[.int .i64 b, .int .i64 m, .int .i64 k, .slice (some ⟨g', 0, none⟩) (n + 1) c2])] := by have := J.set hj11.out 3 (.slice (some ⟨g', 0, none⟩) (n + 1) c2) (X := w.heap.size) (Nat.le_refl _); simpa using this
    have hje := jfill4 (x := .int .i64 b) (y := .int .i64 m) (z := .int .i64 k) (u := .slice (some ⟨g', 0, none⟩) (n + 1) c2) hj12 (by omega) (fun x hx => by simp at hx; subst hx; exact n1)
    have hF := far4 ((Far.own hown11 (n₀ := w.heap.size + 2) (Nat.le_refl _)).set (X := w.heap.size) 3 (.slice (some ⟨g', 0, none⟩) (n + 1) c2) (by omega)) (X := w.heap.size + 1) (.int .i64 b) (.int .i64 m) (.int .i64 k) (.slice (some ⟨g', 0, none⟩) (n + 1) c2) (by omega)
    have hFT := ((Jrn.FarT.own hown11 (n₀ := w.heap.size + 2) (Nat.le_refl _)).set (X := w.heap.size) 3 (.slice (some ⟨g', 0, none⟩) (n + 1) c2) (by omega)).set4 (X := w.heap.size + 1) (.int .i64 b) (.int .i64 m) (.int .i64 k) (.slice (some ⟨g', 0, none⟩) (n + 1) c2) (by omega)
    have hcm := own_max hown11
    have hcn : n + 1 ≤ c2 := by
      rcases hown11.2 with ⟨hv, _⟩ | ⟨g, cap2, cur, hv, _, _, hle, _, _⟩
      · injection hv; omega
      · injection hv; omega
    obtain ⟨k0, k1, k2, k3⟩ := (hje.bx 0 rfl).c4
    refine bodyPost_ret (v := .tuple #[.agg #[.int .i64 b, .int .i64 m, .int .i64 k, .slice (some ⟨g', 0, none⟩) (n + 1) c2], .int .i64 0]) (by simp [results, Tryd.results22, go_sem, k0, k1, k2, k3]) rfl ⟨_, c2, rfl, hcn, hcm, by rw [pms_append]; exact hF.sees, fun _ => by rw [pms_append]; exact hFT.ts, hje.below⟩

theorem grant_any (x : Lg) (car peak : Int) (w : World) (hx : x.In w) (hmay : x.May) : Calls Tryd.prog 22 #[x.val, .int .i64 car, .int .i64 peak] w (GrantPost w x car peak) :=
  (grant_ts x car peak w hx hmay).mono fun e w' ⟨A', c', h1, h2, h3, h4, _, h5⟩ => ⟨A', c', h1, h2, h3, h4, h5⟩

end Go.Proofs.YtjedkkkhficmoaaDoor.Lgr
