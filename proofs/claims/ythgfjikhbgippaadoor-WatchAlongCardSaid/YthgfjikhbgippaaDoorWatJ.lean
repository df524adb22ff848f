/- The walk of WatchAlong. -/
import Derived.Test.YthgfjikhbgippaaDoorWatW1
namespace Go.Proofs.YthgfjikhbgippaaDoor.Walk
open Go.RowKit Go.Proofs.YthgfjikhbgippaaDoor.Plain Go.Proofs.YthgfjikhbgippaaDoor.WatP Go.Proofs.YthgfjikhbgippaaDoor.OrdP Go.Proofs.YthgfjikhbgippaaDoor.PhaP Go.Proofs.YthgfjikhbgippaaDoor.FedP Go.Proofs.YthgfjikhbgippaaDoor.Open Go.Proofs.YthgfjikhbgippaaDoor.Sees Go.Proofs.YthgfjikhbgippaaDoor.Box Go.Proofs.YthgfjikhbgippaaDoor.Held Go.Proofs.YthgfjikhbgippaaDoor.Pha Go.Proofs.YthgfjikhbgippaaDoor.Wat
open Go.Proofs.YthgfjikhbgippaaDoor.Fed (hs hs_len)
set_option linter.unusedVariables false
set_option linter.unusedSimpArgs false
set_option maxRecDepth 100000

/-- was a tick not well? -/
def bad1 (k : Nat) (l : List Fc) (t : Nat) : Bool := ov k l t || br l t
/-- how many of the first m weren't -/
def bads (k : Nat) (l : List Fc) : Nat → Nat
  | 0 => 0
  | m + 1 => bads k l m + if bad1 k l m then 1 else 0
theorem bads_le (k : Nat) (l : List Fc) (m : Nat) : bads k l m ≤ m := by
  induction m with
  | zero => exact Nat.le_refl _
  | succ m ih => unfold bads; split <;> omega
theorem ov_take {k : Nat} {l : List Fc} {m t : Nat} (h : t < m) : ov k (l.take m) t = ov k l t := by
  have e1 : (l.take m)[t]? = l[t]? := by rw [List.getElem?_take, if_pos h]
  have e2 : hs (cs (l.take m)) (t + 1) = hs (cs l) (t + 1) := by
    unfold hs cs
    rw [← List.map_take, ← List.map_take, List.take_take, Nat.min_eq_left (by omega)]
  unfold ov
  rw [e1, e2]
theorem br_take {l : List Fc} {m t : Nat} (h : t < m) : br (l.take m) t = br l t := by
  have e : ∀ s, s < m → (zs (l.take m))[s]?.getD [] = (zs l)[s]?.getD [] := fun s hs => by
    unfold zs; rw [List.map_take, List.getElem?_take, if_pos hs]
  unfold br gd
  by_cases h0 : t = 0
  · rw [if_pos h0, if_pos h0, e t h]
  · rw [if_neg h0, if_neg h0, e t h, e (t - 1) (by omega)]
theorem Fi.same {p q : Nat → Bool} {k n : Nat} {v : Int} (h : Fi p k n v) (e : ∀ t, t < n → p t = q t) : Fi q k n v := by
  rcases h with ⟨rfl, h⟩ | ⟨i, rfl, h1, h2, h3, h4⟩
  · exact .inl ⟨rfl, fun t a b => (e t b).symm.trans (h t a b)⟩
  · exact .inr ⟨i, rfl, h1, h2, (e i h2).symm.trans h3, fun t a b => (e t (by omega)).symm.trans (h4 t a b)⟩
/-- all was well just as long as none was bad -/
theorem none_bad {k : Nat} {l : List Fc} (m : Nat) : ∀ {o b : Int}, Fi (ov k l) 0 m o → Fi (br l) 0 m b → ((o == -1) && (b == -1)) = ((bads k l m : Int) == 0) := by
  induction m with
  | zero =>
    intro o b ho hb
    rw [ho.one (Fi.none _ (Nat.le_refl _)), hb.one (Fi.none _ (Nat.le_refl _))]
    rfl
  | succ m ih =>
    intro o b ho hb
    obtain ⟨o', ho'⟩ := Fi.ex (ov k l) 0 m
    obtain ⟨b', hb'⟩ := Fi.ex (br l) 0 m
    have h1 := ho'.snoc ho
    have h2 := hb'.snoc hb
    have h3 := ih ho' hb'
    have d : ∀ x y : Int, (x == y) = decide (x = y) := fun x y => rfl
    rw [d, d, d] at h3 ⊢
    rw [h1, h2]
    unfold bads bad1
    cases ov k l m <;> cases br l m <;> simp only [Bool.not_true, Bool.not_false, Bool.and_true, Bool.and_false, Bool.or_true, Bool.or_false, Bool.false_eq_true, if_true, if_false, Nat.add_zero, Bool.false_and] at h3 ⊢
    · exact h3
    · symm; simp; omega
    · symm; simp; omega
    · symm; simp; omega
/-- what is told of fact m -/
theorem told {k : Nat} {l : List Fc} {m : Nat} {x : Fc} (hx : l[m]? = some x) {b : Bool} {r : RowN} (hb : b = decide (0 < m)) (hr : ∀ y, 0 < m → l[m - 1]? = some y → r.zs = y.r.zs) (hlen : m < l.length) :
    (ox k x (hs (cs l) m) || !(if b then PhaP.fo r.zs x.r.zs else PhaP.ft x.r.zs)) = bad1 k l m := by
  unfold bad1
  rw [ox_ov hx]
  congr 1
  by_cases h0 : m = 0
  · subst h0
    subst hb
    rw [br_zero hx]; simp
  · obtain ⟨s, rfl⟩ : ∃ s, m = s + 1 := ⟨m - 1, by omega⟩
    obtain ⟨y, hy⟩ : ∃ y, l[s]? = some y := ⟨_, List.getElem?_eq_getElem (by omega)⟩
    subst hb
    rw [br_succ hy hx, hr y (by omega) (by simpa using hy)]
    simp
/-- the watch while the law runs: m facts are told -/
structure WA (k : Nat) (l : List Fc) (w0 : World) (X : Nat) (m : Nat) (d : Int) (W : World) : Prop where
  ex : ∃ (b : Bool) (r : RowN), J w0 W [(X, wc k (FedP.kt k (hs (cs l) m)) b r.val d)] ∧ b = decide (0 < m) ∧ (b = true → Rok W r) ∧ ∀ y, 0 < m → l[m - 1]? = some y → r.zs = y.r.zs
  hX : w0.heap.size ≤ X
theorem WA.bw {k : Nat} {l : List Fc} {w0 : World} {X m : Nat} {d : Int} {W : World} (h : WA k l w0 X m d W) : Bw w0 W := by
  obtain ⟨b, r, h1, _⟩ := h.ex
  exact h1.below
theorem WA.on {k : Nat} {l : List Fc} {w0 : World} {X m : Nat} {d : Int} {W W' : World} (h : WA k l w0 X m d W) (hb : Below W.heap.size W W') : WA k l w0 X m d W' := by
  obtain ⟨b, r, h1, h2, h3, h4⟩ := h.ex
  exact ⟨⟨b, r, h1.next hb, h2, fun e => (h3 e).bw hb, h4⟩, h.hX⟩
theorem WA.bad {k : Nat} {l : List Fc} {w0 : World} {X m : Nat} {d : Int} {W : World} (hk : k ≤ 8) (h : WA k l w0 X m d W) : W.cell? ⟨X, 11, none⟩ = some (.int .i64 d) := by
  obtain ⟨b, r, h1, h2, h3, h4⟩ := h.ex
  obtain ⟨t0, t1, t2, t3, t4, t5, t6, t7, ht⟩ := Go.Proofs.YthgfjikhbgippaaDoor.Fed.eight (FedP.kt_len k (hs (cs l) m) hk)
  rw [ht] at h1
  exact (h1.bx 0 rfl).cell (j := 11) rfl
theorem wa_tell {k : Nat} (hk : k ≤ 8) {l : List Fc} {w0 : World} {X m : Nat} {d D : Int} {W : World} (h : WA k l w0 X m d W) (hL : Pha.Lay w0) (hd : 0 ≤ d ∧ d < 1000) {x : Fc} (hx : l[m]? = some x) (hrx : Rok w0 x.r) (hlen : x.r.zs.length ≤ 65536) (hD : D = if bad1 k l m then d + 1 else d) :
    Calls Tryd.prog 16 #[.pointer (some ⟨X, 0, none⟩), fcv x] W fun e w' => e = .returned (.bool (D == 0)) ∧ Hid (WA k l w0 X (m + 1) D w') := by
  obtain ⟨b, r, h1, h2, h3, h4⟩ := h.ex
  have ht := told (k := k) hx h2 h4 (List.getElem?_eq_some_iff.1 hx).1
  refine (tell_any k hk (hs (cs l) m) X w0 W h.hX hL b r h3 d hd x hrx hlen h1 D (by rw [ht]; exact hD)).mono ?_
  rintro e w' ⟨r', hz, rfl, hJ, hR⟩
  rw [kx_hs hx] at hJ
  refine ⟨rfl, Lib.hid ⟨⟨true, r', hJ.out, by simp, fun _ => hR.out, fun y _ hy => ?_⟩, h.hX⟩⟩
  rw [Nat.add_sub_cancel, hx] at hy
  rw [hz, ← Option.some.inj hy]
theorem wa_new {k : Nat} (hk : k ≤ 8) {lag : Int} (hb : FedP.bo lag 0 8 = k) (l : List Fc) (w : World) : Calls Tryd.prog 15 #[.int .i64 lag] w fun e w' => ∃ X, e = .returned (.pointer (some ⟨X, 0, none⟩)) ∧ Hid (WA k l w X 0 0 w') := by
  refine (wNew_any lag k hb w).mono ?_
  rintro e w' ⟨X, rfl, h1, h2⟩
  refine ⟨X, rfl, Lib.hid ⟨⟨false, ⟨none, 0, []⟩, ?_, rfl, (fun h => by cases h), (fun y h => by omega)⟩, h1⟩⟩
  have e : FedP.kt k (hs (cs l) 0) = [0, 0, 0, 0, 0, 0, 0, 0] := FedP.kt_nil k hk
  rw [e]
  exact h2.out
end Go.Proofs.YthgfjikhbgippaaDoor.Walk
