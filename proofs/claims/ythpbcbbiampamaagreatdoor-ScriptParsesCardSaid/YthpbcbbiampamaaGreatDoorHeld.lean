/- A region that draws its order, walked once, in the order of the text: operations and calls that only read, or only make memory, in a class of worlds that is closed under making memory; behind them blocks that are laid whenever it comes, and stores that wait for all. -/
import Derived.Test.YthpbcbbiampamaaGreatDoorInv
import Derived.Test.YthpbcbbiampamaaGreatDoorBox
import Derived.StillTail
namespace Go.Proofs.YthpbcbbiampamaaGreatDoor.Held
open Go Go.RowKit Go.Proofs.YthpbcbbiampamaaGreatDoor.Inv Go.Proofs.YthpbcbbiampamaaGreatDoor.Box
set_option linter.unusedVariables false

/-- worlds in which S holds, and that a world grew to -/
structure Ext (S : World → Prop) (w1 : World) where
  W : World
  h : S W
  hb : Below w1.heap.size w1 W
/-- what stays so, whatever memory is made -/
def Closed (S : World → Prop) : Prop := ∀ w w', S w → Below w.heap.size w w' → S w'
theorem Ext.some {S : World → Prop} {w1 : World} (h : S w1) : Nonempty (Ext S w1) := ⟨⟨w1, h, Below.refl _ _⟩⟩
theorem Ext.call {P : Program} {S : World → Prop} (hS : Closed S) {f : FuncId} {args : Array Value} {r : Value} (hc : ∀ W, S W → Calls P f args W (Says W r)) (w1 : World) :
    ∀ n : Ext S w1, Calls P f args n.W fun e w'' => e = .returned r ∧ ∃ m : Ext S w1, w'' = m.W :=
  fun n => (hc n.W n.h).mono fun e w'' ⟨h1, h2⟩ => ⟨h1, ⟨⟨w'', hS _ _ n.h h2, n.hb.trans (h2.mono n.hb.size)⟩, rfl⟩⟩

theorem Ext.calls {P : Program} {S : World → Prop} {w1 : World} (h1 : S w1) (hS : Closed S) {f : FuncId} {args : Array Value} {r : Value} (hc : ∀ W, S W → Calls P f args W (Says W r)) :
    ∀ n : Ext S w1, Calls P f args n.W fun e w'' => e = .returned r ∧ ∃ m : Ext S w1, w'' = m.W := Ext.call hS hc w1
/-- blocks of the call's own lie as they are -/
def JS (w : World) (bs : List (Nat × Array Value)) (W : World) : Prop := J w W bs
theorem JS.closed {w : World} {bs : List (Nat × Array Value)} : Closed (JS w bs) := fun _ _ h hb => J.next h hb
theorem JS.bx {w W : World} {bs : List (Nat × Array Value)} (h : JS w bs W) (i : Nat) {X : Nat} {cs : Array Value} (hi : bs[i]? = some (X, cs)) : Bx W X cs := J.bx h i hi
theorem ext1 {w w1 : World} {bs : List (Nat × Array Value)} (h1 : JS w bs w1) (i : Nat) {X : Nat} {a : Value} (hi : bs[i]? = some (X, #[a])) : (∀ n : Ext (JS w bs) w1, n.W.cell? ⟨X, 0, none⟩ = some a) := fun n => Bx.cell (n.h.bx i hi) rfl
theorem ext2 {w w1 : World} {bs : List (Nat × Array Value)} (h1 : JS w bs w1) (i : Nat) {X : Nat} {a b : Value} (hi : bs[i]? = some (X, #[a, b])) : (∀ n : Ext (JS w bs) w1, n.W.cell? ⟨X, 0, none⟩ = some a) ∧ (∀ n : Ext (JS w bs) w1, n.W.cell? ⟨X, 1, none⟩ = some b) := ⟨fun n => Bx.cell (n.h.bx i hi) rfl, fun n => Bx.cell (n.h.bx i hi) rfl⟩
theorem ext3 {w w1 : World} {bs : List (Nat × Array Value)} (h1 : JS w bs w1) (i : Nat) {X : Nat} {a b c : Value} (hi : bs[i]? = some (X, #[a, b, c])) : (∀ n : Ext (JS w bs) w1, n.W.cell? ⟨X, 0, none⟩ = some a) ∧ (∀ n : Ext (JS w bs) w1, n.W.cell? ⟨X, 1, none⟩ = some b) ∧ (∀ n : Ext (JS w bs) w1, n.W.cell? ⟨X, 2, none⟩ = some c) := ⟨fun n => Bx.cell (n.h.bx i hi) rfl, fun n => Bx.cell (n.h.bx i hi) rfl, fun n => Bx.cell (n.h.bx i hi) rfl⟩
theorem ext4 {w w1 : World} {bs : List (Nat × Array Value)} (h1 : JS w bs w1) (i : Nat) {X : Nat} {a b c d : Value} (hi : bs[i]? = some (X, #[a, b, c, d])) : (∀ n : Ext (JS w bs) w1, n.W.cell? ⟨X, 0, none⟩ = some a) ∧ (∀ n : Ext (JS w bs) w1, n.W.cell? ⟨X, 1, none⟩ = some b) ∧ (∀ n : Ext (JS w bs) w1, n.W.cell? ⟨X, 2, none⟩ = some c) ∧ (∀ n : Ext (JS w bs) w1, n.W.cell? ⟨X, 3, none⟩ = some d) := ⟨fun n => Bx.cell (n.h.bx i hi) rfl, fun n => Bx.cell (n.h.bx i hi) rfl, fun n => Bx.cell (n.h.bx i hi) rfl, fun n => Bx.cell (n.h.bx i hi) rfl⟩
theorem ext5 {w w1 : World} {bs : List (Nat × Array Value)} (h1 : JS w bs w1) (i : Nat) {X : Nat} {a b c d e : Value} (hi : bs[i]? = some (X, #[a, b, c, d, e])) : (∀ n : Ext (JS w bs) w1, n.W.cell? ⟨X, 0, none⟩ = some a) ∧ (∀ n : Ext (JS w bs) w1, n.W.cell? ⟨X, 1, none⟩ = some b) ∧ (∀ n : Ext (JS w bs) w1, n.W.cell? ⟨X, 2, none⟩ = some c) ∧ (∀ n : Ext (JS w bs) w1, n.W.cell? ⟨X, 3, none⟩ = some d) ∧ (∀ n : Ext (JS w bs) w1, n.W.cell? ⟨X, 4, none⟩ = some e) := ⟨fun n => Bx.cell (n.h.bx i hi) rfl, fun n => Bx.cell (n.h.bx i hi) rfl, fun n => Bx.cell (n.h.bx i hi) rfl, fun n => Bx.cell (n.h.bx i hi) rfl, fun n => Bx.cell (n.h.bx i hi) rfl⟩
theorem ext6 {w w1 : World} {bs : List (Nat × Array Value)} (h1 : JS w bs w1) (i : Nat) {X : Nat} {a b c d e f : Value} (hi : bs[i]? = some (X, #[a, b, c, d, e, f])) : (∀ n : Ext (JS w bs) w1, n.W.cell? ⟨X, 0, none⟩ = some a) ∧ (∀ n : Ext (JS w bs) w1, n.W.cell? ⟨X, 1, none⟩ = some b) ∧ (∀ n : Ext (JS w bs) w1, n.W.cell? ⟨X, 2, none⟩ = some c) ∧ (∀ n : Ext (JS w bs) w1, n.W.cell? ⟨X, 3, none⟩ = some d) ∧ (∀ n : Ext (JS w bs) w1, n.W.cell? ⟨X, 4, none⟩ = some e) ∧ (∀ n : Ext (JS w bs) w1, n.W.cell? ⟨X, 5, none⟩ = some f) := ⟨fun n => Bx.cell (n.h.bx i hi) rfl, fun n => Bx.cell (n.h.bx i hi) rfl, fun n => Bx.cell (n.h.bx i hi) rfl, fun n => Bx.cell (n.h.bx i hi) rfl, fun n => Bx.cell (n.h.bx i hi) rfl, fun n => Bx.cell (n.h.bx i hi) rfl⟩

/-- cell j of block number i -/
theorem ext_at {w w1 : World} {bs : List (Nat × Array Value)} (h1 : JS w bs w1) (i j : Nat) {X : Nat} {cs : Array Value} {v : Value} (hi : bs[i]? = some (X, cs)) (hj : cs[j]? = some v) : ∀ n : Ext (JS w bs) w1, n.W.cell? ⟨X, j, none⟩ = some v := fun n => Bx.cell (n.h.bx i hi) hj
/-- what lay there ahead of the call -/
theorem ext_old {w w1 : World} {bs : List (Nat × Array Value)} (h1 : JS w bs w1) {a : Addr} {v : Value} (ha : a.block < w.heap.size) (hc : w.cell? a = some v) : ∀ n : Ext (JS w bs) w1, n.W.cell? a = some v := fun n => ((J.below n.h).cell ha).trans hc

section
variable {P : Program} {Q : Exit → Act → World → Prop}

theorem put_at {a : Act} {d : Tmp} {v : Value} (h : d < a.tmps.size) : (a.put (some d) v).tmps[d]? = some v := by simp [Act.put, h]
theorem put_off {a : Act} {d : Option Tmp} {v : Value} {t : Tmp} (h : d ≠ some t) : (a.put d v).tmps[t]? = a.tmps[t]? := by
  cases d with
  | none => rfl
  | some d =>
    have : d ≠ t := fun e => h (by rw [e])
    simp [Act.put, Array.getElem?_setIfInBounds_ne this]
theorem put_size {a : Act} {d : Option Tmp} {v : Value} : (a.put d v).tmps.size = a.tmps.size := by
  cases d <;> simp [Act.put]
theorem fill_size (r : List Oper) : ∀ i x a, (fill r i x a).tmps.size = a.tmps.size := by
  induction r with
  | nil => intro i x a; rfl
  | cons o r ih => intro i x a; rw [fill, ih, put_size]
theorem fill_off (r : List Oper) : ∀ i x a {t : Tmp}, (∀ o ∈ r, o.dst ≠ some t) → (fill r i x a).tmps[t]? = a.tmps[t]? := by
  induction r with
  | nil => intro i x a t _; rfl
  | cons o r ih =>
    intro i x a t h
    rw [fill, ih _ _ _ (fun p hp => h p (List.mem_cons_of_mem _ hp)), put_off (h o List.mem_cons_self)]
theorem apart_cons {o : Oper} {r : List Oper} (h : apartB (o :: r) = true) {d : Tmp} (hd : o.dst = some d) : ∀ p ∈ r, p.dst ≠ some d := by
  intro p hp
  simp only [apartB, Bool.and_eq_true] at h
  have h1 := h.1
  rw [hd] at h1
  have := List.all_eq_true.1 h1 p hp
  simpa using this
theorem apart_tail {o : Oper} {r : List Oper} (h : apartB (o :: r) = true) : apartB r = true := by
  simp only [apartB, Bool.and_eq_true] at h
  exact h.2
theorem fill_at (r : List Oper) : ∀ i x a k o {d : Tmp}, apartB r = true → r[k]? = some o → o.dst = some d → d < a.tmps.size → (fill r i x a).tmps[d]? = some (x (i + k)) := by
  induction r with
  | nil => intro i x a k o d _ h; simp at h
  | cons p r ih =>
    intro i x a k o d hA hk hd hlt
    cases k with
    | zero =>
      simp at hk
      subst hk
      rw [fill, fill_off r _ _ _ (apart_cons hA hd), hd, put_at hlt, Nat.add_zero]
    | succ k =>
      simp at hk
      rw [fill, ih (i + 1) x _ k o (apart_tail hA) hk hd (by rw [put_size]; exact hlt), show i + 1 + k = i + (k + 1) by omega]
theorem fill_append (r s : List Oper) : ∀ i x a, fill (r ++ s) i x a = fill s (i + r.length) x (fill r i x a) := by
  induction r with
  | nil => intro i x a; simp [fill]
  | cons o r ih =>
    intro i x a
    simp only [List.cons_append, fill, ih, List.length_cons]
    rw [show i + 1 + r.length = i + (r.length + 1) by omega]
theorem fill_upto (r : List Oper) : ∀ i x y a, (∀ j, i ≤ j → j < i + r.length → x j = y j) → fill r i x a = fill r i y a := by
  induction r with
  | nil => intro i x y a _; rfl
  | cons o r ih =>
    intro i x y a h
    simp only [fill]
    rw [h i (Nat.le_refl i) (by simp)]
    exact ih _ _ _ _ (fun j h1 h2 => h j (by omega) (by simp; omega))
/-- where a slot is that some operation yields -/
theorem dst_cases (r : List Oper) (t : Tmp) : (∀ o ∈ r, Oper.dst o ≠ some t) ∨ ∃ (k : Nat) (o : Oper), r[k]? = some o ∧ o.dst = some t := by
  by_cases h : ∃ (k : Nat) (o : Oper), r[k]? = some o ∧ o.dst = some t
  · exact .inr h
  · left
    intro o ho hd
    obtain ⟨k, hk⟩ := List.mem_iff_getElem?.1 ho
    exact h ⟨k, o, hk, hd⟩

theorem apart_left (r s : List Oper) : apartB (r ++ s) = true → apartB r = true := by
  induction r with
  | nil => intro _; rfl
  | cons o r ih =>
    intro h
    simp only [List.cons_append, apartB, Bool.and_eq_true] at h ⊢
    refine ⟨?_, ih h.2⟩
    have h1 := h.1
    cases hd : o.dst with
    | none => rfl
    | some d =>
      rw [hd] at h1
      exact List.all_eq_true.2 fun p hp => List.all_eq_true.1 h1 p (List.mem_append_left _ hp)

/-- frames that agree where an operation looks -/
theorem exec_agree {ops : Array Oper} {o : Oper} {a a' : Act} (hs : ∀ cs b, o.op ≠ .select cs b) (h : ∀ t ∈ o.looksAt ops, a.tmps[t]? = a'.tmps[t]?) :
    execOp a.eval o = execOp a'.eval o ∧ Region.wanted o (yielded ops a.tmps) = Region.wanted o (yielded ops a'.tmps) := by
  constructor
  · refine execOp_congr o hs fun x hx => ?_
    cases x with
    | tmp t =>
      have := h t (List.mem_append_left _ (List.mem_filterMap.2 ⟨.tmp t, by simpa using hx, rfl⟩))
      simp only [Act.eval, Array.getD_eq_getD_getElem?]
      rw [this]
    | _ => rfl
  · unfold Region.wanted
    cases hg : o.guard with
    | none => rfl
    | some gw =>
      obtain ⟨g, want⟩ := gw
      have hy : yielded ops a.tmps g = yielded ops a'.tmps g := by
        unfold yielded
        cases ht : (ops[g]?).bind (·.dst) with
        | none => rfl
        | some t =>
          have := h t (by simp [Oper.looksAt, hg, ht])
          simp only [Option.bind_some]
          rw [this]
      simp only [hy]

/-- the lexical walk gives a value for each operation, that the last frame shows -/
theorem lex_walk {opsH : Array Oper} {C : World → Prop} {aE : Act} (val : Nat → Value) : ∀ (r : List Oper) (i : Nat) (a : Act), apartB r = true → (∀ o ∈ r, ∃ d, o.dst = some d ∧ d < a.tmps.size) →
    (∀ j o d, r[j]? = some o → o.dst = some d → val (i + j) = aE.tmps[d]?.getD undef) → wpQuiet P opsH C (fun a' => a' = aE) r a →
    aE = fill r i val a ∧ ∀ j o, r[j]? = some o → YieldsIn P opsH C o (val (i + j)) (fill (r.take j) i val a) := by
  intro r
  induction r with
  | nil => intro i a _ _ _ h; exact ⟨Eq.symm h, fun j o h => by simp at h⟩
  | cons o r ih =>
    intro i a hA hD hV h
    obtain ⟨d, hd, hlt⟩ := hD o List.mem_cons_self
    have key : ∃ v, YieldsIn P opsH C o v a ∧ wpQuiet P opsH C (fun a' => a' = aE) r (a.put o.dst v) := by
      rw [wpQuiet] at h
      split at h
      · rename_i hw
        obtain ⟨v, h1, h2⟩ := h
        exact ⟨v, .inl ⟨hw, h1⟩, h2⟩
      · rename_i hw
        exact ⟨undef, .inr ⟨by simpa using hw, rfl⟩, h⟩
    obtain ⟨v, hy, hr⟩ := key
    obtain ⟨e, hall⟩ := ih (i + 1) (a.put o.dst v) (apart_tail hA) (fun p hp => by rw [put_size]; exact hD p (List.mem_cons_of_mem _ hp))
      (fun j p d hj hd => by rw [show i + 1 + j = i + (j + 1) by omega]; exact hV (j + 1) p d (by simpa using hj) hd) hr
    have hv : val i = v := by
      have h0 := hV 0 o d (by simp) hd
      rw [Nat.add_zero] at h0
      rw [h0, e, fill_off r _ _ _ (apart_cons hA hd), hd, put_at hlt]
      rfl
    refine ⟨by rw [fill, hv]; exact e, fun j p hj => ?_⟩
    cases j with
    | zero =>
      simp at hj
      subst hj
      rw [Nat.add_zero, hv]
      exact hy
    | succ j =>
      simp at hj
      have := hall j p hj
      rw [show i + 1 + j = i + (j + 1) by omega] at this
      rw [List.take_succ_cons, fill, hv]
      exact this

/-- what is asked of a region's text: n operations ahead, then blocks that are laid, m of both, then those that wait for all -/
def looksB (l : List Oper) (n m : Nat) : Bool := (List.range n).all fun i => match l[i]? with
  | some o => (o.looksAt l.toArray).all fun t => (List.range m).all fun j => (l[j]?.bind (·.dst)) != some t || (decide (j < i) && Region.waitsFor .any l.toArray i j)
  | none => true
/-- operation t waits for i, or for one that does .. -/
def reachB (l : List Oper) : Nat → Nat → Nat → Bool
  | 0, t, i => Region.waitsFor .any l.toArray t i
  | f + 1, t, i => Region.waitsFor .any l.toArray t i || (List.range l.length).any fun j => Region.waitsFor .any l.toArray t j && reachB l f j i
def tailB (l : List Oper) (m : Nat) : Bool := (List.range l.length).all fun t => decide (t < m) || (if t = m then (List.range m).all fun i => reachB l 5 m i || reachB l 9 m i else reachB l 5 t (t - 1))
def dstB (l : List Oper) (m N : Nat) : Bool := (l.take m).all fun o => match o.dst with | some d => decide (d < N) | none => false
def guardB (l : List Oper) (n : Nat) : Bool := (l.take n).all fun o => match o.guard with | some (g, _) => decide (g < n) | none => true
def headB (l : List Oper) (n m N : Nat) : Bool :=
  decide (n ≤ m) && decide (m ≤ l.length) && Region.noSelect l.toArray && downB .any l.toArray && apartB (l.take m) && dstB l m N && guardB l n && looksB l n m && tailB l m

theorem waits_spec {l : List Oper} {j i : Nat} (h : Region.waitsFor .any l.toArray j i = true) {L : Array Bool} {o : Oper} (ho : l[j]? = some o) (hall : ∀ e ∈ o.after, Region.binds .any e = true → L.getD e.on false = true) : L.getD i false = true := by
  obtain ⟨o', ho', e, he, hb, hon⟩ := Region.waitsFor_spec h
  have : o' = o := by
    have h2 : l[j]? = some o' := by simpa using ho'
    rw [ho] at h2
    injection h2 with h2
    exact h2.symm
  subst this
  rw [← hon]
  exact hall e he hb

theorem getD_set_true' {L : Array Bool} {i j : Nat} (h : L.getD j false = true) : (L.setIfInBounds i true).getD j false = true := by
  by_cases e : j = i
  · subst e
    by_cases hb : j < L.size
    · simp [hb]
    · simp [hb] at h
  · rw [getD_set_ne false (Ne.symm e)]; exact h
/-- what is done is done with all that it waits for -/
def Down (l : List Oper) (L : Array Bool) : Prop := ∀ i j, L.getD i false = true → Region.waitsFor .any l.toArray i j = true → L.getD j false = true
theorem Down.reach {l : List Oper} {L : Array Bool} (h : Down l L) : ∀ f i j, L.getD i false = true → reachB l f i j = true → L.getD j false = true := by
  intro f
  induction f with
  | zero => exact fun i j hi hr => h i j hi hr
  | succ f ih =>
    intro i j hi hr
    simp only [reachB, Bool.or_eq_true, List.any_eq_true, Bool.and_eq_true] at hr
    rcases hr with hr | ⟨k, _, hk, hr⟩
    · exact h i j hi hr
    · exact ih k j (h i k hi hk) hr
theorem Down.from {l : List Oper} {L : Array Bool} (h : Down l L) {t : Nat} (hw : ∀ j, Region.waitsFor .any l.toArray t j = true → L.getD j false = true) : ∀ f j, reachB l f t j = true → L.getD j false = true := by
  intro f j hr
  cases f with
  | zero => exact hw j hr
  | succ f =>
    simp only [reachB, Bool.or_eq_true, List.any_eq_true, Bool.and_eq_true] at hr
    rcases hr with hr | ⟨k, _, hk, hr⟩
    · exact hw j hr
    · exact h.reach f k j (hw k hk) hr
theorem Down.set {l : List Oper} {L : Array Bool} (h : Down l L) {t : Nat} (hw : ∀ j, Region.waitsFor .any l.toArray t j = true → L.getD j false = true) : Down l (L.setIfInBounds t true) := by
  intro i j hi hr
  by_cases e : i = t
  · subst e; exact getD_set_true' (hw j hr)
  · rw [getD_set_ne false (Ne.symm e)] at hi
    exact getD_set_true' (h i j hi hr)
theorem wanted_take {l : List Oper} {n : Nat} {o : Oper} (hg : ∀ g b, o.guard = some (g, b) → g < n) (tm : Array Value) : Region.wanted o (yielded (l.take n).toArray tm) = Region.wanted o (yielded l.toArray tm) := by
  unfold Region.wanted
  cases h : o.guard with
  | none => rfl
  | some gb =>
    obtain ⟨g, b⟩ := gb
    have hlt := hg g b h
    have : yielded (l.take n).toArray tm g = yielded l.toArray tm g := by
      unfold yielded
      have : (l.take n).toArray[g]? = l.toArray[g]? := by simp [hlt]
      rw [this]
    simp only [this]

theorem getD_set_here' {L : Array Bool} {i : Nat} (h : i < L.size) : (L.setIfInBounds i true).getD i false = true := by simp [h]

/-- what operation k looks at comes from operations ahead that it waits for, or from no operation -/
def looks1B (l : List Oper) (n m k : Nat) : Bool := match l[k]? with
  | some o => (o.looksAt l.toArray).all fun t => (List.range m).all fun j => (l[j]?.bind (·.dst)) != some t || (decide (j < n) && Region.waitsFor .any l.toArray k j)
  | none => true
/-- THE RULE -/
theorem any_head3 {a : Act} (aE : Act) {W : World} {l : List Oper} (S : World → Prop) (n m : Nat) (F : Nat → Value → World → Prop) (hS : Closed S) (hF : ∀ k v, Closed (F k v)) (h0 : S W)
    (hB : headB l n m a.tmps.size = true)
    (hmid : ∀ k o (x : Nat → Value) w' (K : Act → World → Prop), n ≤ k → k < m → l[k]? = some o → S w' → Below W.heap.size W w' → (looks1B l n m k = true → ∀ t ∈ o.looksAt l.toArray, (fill (l.take m) 0 x a).tmps[t]? = aE.tmps[t]?) → (∀ j, Region.waitsFor .any l.toArray k j = true → n ≤ j → j < m → F j (x j) w') →
      (∀ v w'', Below w'.heap.size w' w'' → F k v w'' → K ((fill (l.take m) 0 x a).put o.dst v) w'') → wpOp P l.toArray Q k K (fill (l.take m) 0 x a) w')
    (h : (∀ w1, S w1 → wpQuiet P (l.take n).toArray (fun w' => ∃ i : Ext S w1, w' = i.W) (fun a' => a' = aE) (l.take n) a) ∧
      ∀ x w', S w' → Below W.heap.size W w' → (∀ k, n ≤ k → k < m → F k (x k) w') → wpList P l.toArray Q (l.drop m) (fill ((l.take m).drop n) n x aE) w') :
    wpAny P .any l.toArray Q l.toArray.size (Array.replicate l.toArray.size false) a { W with drawn := W.drawn + 1 } := by
  obtain ⟨hw, hend⟩ := h
  simp only [headB, Bool.and_eq_true, decide_eq_true_eq] at hB
  obtain ⟨⟨⟨⟨⟨⟨⟨⟨hnm, hml⟩, hsel⟩, hD⟩, hA⟩, hDst⟩, hG⟩, hL⟩, hT⟩ := hB
  have hdst : ∀ k o, k < m → l[k]? = some o → ∃ d, o.dst = some d ∧ d < a.tmps.size := by
    intro k o hk ho
    have hmem : o ∈ l.take m := List.mem_of_getElem? (i := k) (by rw [List.getElem?_take_of_lt hk]; exact ho)
    have h1 := List.all_eq_true.1 hDst o hmem
    cases hd : o.dst with
    | none => rw [hd] at h1; cases h1
    | some d => rw [hd] at h1; exact ⟨d, rfl, by simpa using h1⟩
  have hsplit : l.take m = l.take n ++ (l.take m).drop n := by
    have := (List.take_append_drop n (l.take m)).symm
    rwa [List.take_take, Nat.min_eq_left hnm] at this
  have hAn : apartB (l.take n) = true := by
    rw [hsplit] at hA
    exact apart_left _ _ hA
  let val : Nat → Value := fun k => match l[k]? with | some o => (match o.dst with | some d => aE.tmps[d]?.getD undef | none => undef) | none => undef
  have hval : ∀ j o d, (l.take n)[j]? = some o → o.dst = some d → val (0 + j) = aE.tmps[d]?.getD undef := by
    intro j o d hj hd
    have hjn : j < n := by
      have := (List.getElem?_eq_some_iff.1 hj).1
      simp at this; omega
    rw [List.getElem?_take_of_lt hjn] at hj
    show (match l[0 + j]? with | some o => (match o.dst with | some d => aE.tmps[d]?.getD undef | none => undef) | none => undef) = _
    rw [Nat.zero_add, hj]
    simp only [hd]
  have hlex : ∀ w1, S w1 → aE = fill (l.take n) 0 val a ∧ ∀ j o, (l.take n)[j]? = some o → YieldsIn P (l.take n).toArray (fun w' => ∃ i : Ext S w1, w' = i.W) o (val j) (fill ((l.take n).take j) 0 val a) := by
    intro w1 h1
    have := lex_walk (opsH := (l.take n).toArray) val (l.take n) 0 a hAn (fun o ho => by
      obtain ⟨k, hk⟩ := List.mem_iff_getElem?.1 ho
      have hkn : k < n := by
        have := (List.getElem?_eq_some_iff.1 hk).1
        simp at this; omega
      rw [List.getElem?_take_of_lt hkn] at hk
      exact hdst k o (by omega) hk) hval (hw w1 h1)
    refine ⟨this.1, fun j o hj => ?_⟩
    have h2 := this.2 j o hj
    rwa [Nat.zero_add] at h2
  have hselN : ∀ o ∈ l, ∀ cs b, o.op ≠ .select cs b := fun o ho cs b => by
    obtain ⟨k, hk⟩ := List.mem_iff_getElem?.1 ho
    exact Region.noSelect_spec hsel k o cs b (by simpa using hk)
  -- an operation ahead, met in any frame of the region
  have hop : ∀ (i : Nat) (o : Oper) (x : Nat → Value) (w' : World) (K : Act → World → Prop), i < n → l[i]? = some o → S w' → (∀ j, Region.waitsFor .any l.toArray i j = true → j < n → x j = val j) →
      (∀ w'', S w'' → Below w'.heap.size w' w'' → K ((fill (l.take m) 0 x a).put o.dst (val i)) w'') → wpOp P l.toArray Q i K (fill (l.take m) 0 x a) w' := by
    intro i o x w' K hi ho hSw hx hK
    have hin : (l.take n)[i]? = some o := by rw [List.getElem?_take_of_lt hi]; exact ho
    have hmem : o ∈ l := List.mem_of_getElem? ho
    obtain ⟨hE, hY⟩ := hlex w' hSw
    have hy := hY i o hin
    have hguard : ∀ g b, o.guard = some (g, b) → g < n := by
      intro g b hg
      have h1 := List.all_eq_true.1 hG o (List.mem_of_getElem? hin)
      rw [hg] at h1
      simpa using h1
    have hlooks : ∀ t ∈ o.looksAt l.toArray, (fill (l.take m) 0 x a).tmps[t]? = (fill ((l.take n).take i) 0 val a).tmps[t]? := by
      intro t ht
      have h1 := List.all_eq_true.1 hL i (List.mem_range.2 hi)
      rw [ho] at h1
      have h2 := List.all_eq_true.1 h1 t ht
      rw [List.all_eq_true] at h2
      rw [List.take_take, Nat.min_eq_left (by omega)]
      rcases dst_cases (l.take m) t with hn | ⟨k, p, hk, hd⟩
      · rw [fill_off _ _ _ _ hn, fill_off _ _ _ _ (fun q hq => hn q (by
          have : l.take i = (l.take m).take i := by rw [List.take_take, Nat.min_eq_left (by omega)]
          rw [this] at hq
          exact List.mem_of_mem_take hq))]
      · have hkm : k < m := by
          have := (List.getElem?_eq_some_iff.1 hk).1
          simp at this; omega
        have hk' : l[k]? = some p := by rwa [List.getElem?_take_of_lt hkm] at hk
        obtain ⟨d, hd', hlt⟩ := hdst k p hkm hk'
        have hdt : d = t := by rw [hd] at hd'; injection hd' with e; exact e.symm
        subst hdt
        have h3 := h2 k (List.mem_range.2 hkm)
        rw [hk'] at h3
        simp only [Option.bind_some, hd, bne_self_eq_false, Bool.false_or, Bool.and_eq_true, decide_eq_true_eq] at h3
        rw [fill_at (l.take m) 0 x a k p hA hk hd hlt, Nat.zero_add, hx k h3.2 (by omega)]
        have hAi : apartB (l.take i) = true := by
          have e : l.take m = l.take i ++ (l.take m).drop i := by
            have := (List.take_append_drop i (l.take m)).symm
            rwa [List.take_take, Nat.min_eq_left (by omega)] at this
          rw [e] at hA
          exact apart_left _ _ hA
        rw [fill_at (l.take i) 0 val a k p hAi (by rw [List.getElem?_take_of_lt h3.1]; exact hk') hd hlt, Nat.zero_add]
    obtain ⟨he, hwd⟩ := exec_agree (hselN o hmem) hlooks
    unfold wpOp
    have ho' : l.toArray[i]? = some o := by simpa using ho
    simp only [ho']
    rcases hy with ⟨h1, h2⟩ | ⟨h1, h2⟩
    · rw [hwd, ← wanted_take hguard, h1, if_pos rfl]
      left
      have h3 := h2 w' ⟨⟨w', hSw, Below.refl _ _⟩, rfl⟩
      unfold Oper.quietAt at h3
      unfold Oper.wp
      rw [he]
      generalize (execOp (fill ((l.take n).take i) 0 val a).eval o).run P w' = r at *
      cases r with
      | ok nx w'' =>
        cases nx <;> simp only [Oper.quietUpon] at h3 <;> simp only [Oper.upon]
        case value u =>
          obtain ⟨e1, e2⟩ := h3
          rw [e1, e2]
          exact hK _ hSw (Below.refl _ _)
        case skip =>
          obtain ⟨e1, e2⟩ := h3
          rw [e1, ← e2]
          exact hK _ hSw (Below.refl _ _)
        case enter f args =>
          obtain ⟨e1, hc⟩ := h3
          rw [e1]
          exact hc.mono fun e w3 ⟨he, ⟨i', hi'⟩⟩ => by subst he; subst hi'; exact hK _ i'.h i'.hb
      | halt y w'' => simp only [Oper.quietUpon] at h3
    · rw [hwd, ← wanted_take hguard, h1, if_neg Bool.false_ne_true, ← h2]
      exact hK _ hSw (Below.refl _ _)
  have hEq : ∀ x, (∀ k, k < n → x k = val k) → fill (l.take m) 0 x a = fill ((l.take m).drop n) n x aE := by
    intro x hx
    have e := (hlex W h0).1
    have : fill (l.take m) 0 x a = fill (l.take n ++ (l.take m).drop n) 0 x a := by rw [← hsplit]
    rw [this, fill_append, Nat.zero_add, e, List.length_take, Nat.min_eq_left (by omega)]
    congr 1
    exact fill_upto _ _ _ _ _ (fun j _ hj => hx j (by simp at hj; omega))
  have hput : ∀ i o x v, i < m → l[i]? = some o → (fill (l.take m) 0 x a).put o.dst v = fill (l.take m) 0 (upd x i v) a := by
    intro i o x v hi ho
    have := fill_put (l.take m) 0 x a i o v hA (by rw [List.getElem?_take_of_lt hi]; exact ho)
    rwa [Nat.zero_add] at this
  have htail : ∀ t o, m < t → l[t]? = some o → reachB l 5 t (t - 1) = true := by
    intro t o ht ho
    have hlt := (List.getElem?_eq_some_iff.1 ho).1
    have h1 := List.all_eq_true.1 hT t (List.mem_range.2 hlt)
    rw [if_neg (by omega)] at h1
    simp only [Bool.or_eq_true, decide_eq_true_eq] at h1
    exact h1.resolve_left (by omega)
  have htail0 : ∀ o i, l[m]? = some o → i < m → ∃ f, reachB l f m i = true := by
    intro o i ho hi
    have hlt := (List.getElem?_eq_some_iff.1 ho).1
    have h1 := List.all_eq_true.1 hT m (List.mem_range.2 hlt)
    simp only [if_pos, Bool.or_eq_true, decide_eq_true_eq] at h1
    have h2 := List.all_eq_true.1 (h1.resolve_left (by omega)) i (List.mem_range.2 hi)
    rcases (Bool.or_eq_true _ _).mp h2 with h | h
    · exact ⟨5, h⟩
    · exact ⟨9, h⟩
  let I : Array Bool → Act → World → Prop := fun L a' w' => L.size = l.length ∧ Down l L ∧
    ((S w' ∧ Below W.heap.size W w' ∧ (∀ t, m ≤ t → L.getD t false = false) ∧ ∃ x, a' = fill (l.take m) 0 x a ∧ (∀ k, L.getD k false = true → k < n → x k = val k) ∧ (∀ k, L.getD k false = true → n ≤ k → k < m → F k (x k) w')) ∨
     (∃ t, m ≤ t ∧ (∀ k, k < t → k < l.length → L.getD k false = true) ∧ (∀ k, t ≤ k → L.getD k false = false) ∧ wpList P l.toArray Q (l.drop t) a' w'))
  -- the operations that wait, one behind the other
  have hseq : ∀ (t : Nat) (o : Oper) (L : Array Bool) (a' : Act) (w' : World), l[t]? = some o → L.size = l.length → Down l (L.setIfInBounds t true) → m ≤ t → (∀ k, k < t → k < l.length → L.getD k false = true) → (∀ k, t ≤ k → L.getD k false = false) → wpList P l.toArray Q (l.drop t) a' w' → wpOp P l.toArray Q t (I (L.setIfInBounds t true)) a' w' := by
    intro t o L a' w' ho hs hdn hmt h1 h2 h3
    have hlt := (List.getElem?_eq_some_iff.1 ho).1
    have hd : l.drop t = o :: l.drop (t + 1) := by
      rw [List.drop_eq_getElem_cons hlt]
      congr 1
      have := (List.getElem?_eq_some_iff.1 ho).2
      exact this
    rw [hd] at h3
    have hw : wpOp P l.toArray Q t (wpList P l.toArray Q (l.drop (t + 1))) a' w' := by
      unfold wpOp
      have ho' : l.toArray[t]? = some o := by simpa using ho
      simp only [ho']
      exact h3
    refine wpOp_mono (fun a2 w2 h4 => ?_) hw
    refine ⟨by simpa using hs, hdn, .inr ⟨t + 1, by omega, fun k hk hkl => ?_, fun k hk => ?_, h4⟩⟩
    · by_cases e : k = t
      · subst e
        exact getD_set_here' (by omega)
      · exact getD_set_true (h1 k (by omega) hkl)
    · rw [getD_set_ne false (by omega)]
      exact h2 k (by omega)
  refine wpAny_inv I ?_ ?_ _ _ _ _ ?_ ?_
  · rintro L a' w' i ⟨hs, hdn, hI⟩ hi
    obtain ⟨hun, o, ho, hdep⟩ := mem_ready.1 hi
    have ho' : l[i]? = some o := by simpa using ho
    have hil := (List.getElem?_eq_some_iff.1 ho').1
    have hunf : L.getD i false = false := getD_both hun
    have hwait : ∀ j, Region.waitsFor .any l.toArray i j = true → L.getD j false = true := fun j hj => waits_spec hj ho' hdep
    rcases hI with ⟨hSw, hbl, hT0, x, rfl, hx, hF0⟩ | ⟨t, hmt, h1, h2, h3⟩
    · rcases Nat.lt_or_ge i n with hin | hin
      · refine hop i o x w' _ hin ho' hSw (fun j hj hjn => hx j (hwait j hj) hjn) (fun w'' hS2 hb2 => ?_)
        rw [hput i o x _ (by omega) ho']
        refine ⟨by simpa using hs, hdn.set hwait, .inl ⟨hS2, hbl.trans (hb2.mono hbl.size), fun t ht => by rw [getD_set_ne false (by omega)]; exact hT0 t ht, _, rfl, fun k hk hkn => ?_, fun k hk hkn hkm => ?_⟩⟩
        · by_cases e : k = i
          · subst e; simp [upd]
          · rw [getD_set_ne false (Ne.symm e)] at hk
            simp only [upd]; rw [if_neg e]
            exact hx k hk hkn
        · have e : k ≠ i := by omega
          rw [getD_set_ne false (Ne.symm e)] at hk
          simp only [upd]; rw [if_neg e]
          exact hF k _ _ _ (hF0 k hk hkn hkm) hb2
      · rcases Nat.lt_or_ge i m with him | him
        · refine hmid i o x w' _ hin him ho' hSw hbl (fun h1 t ht => ?_) (fun j hj h1 h2 => hF0 j (hwait j hj) h1 h2) (fun v w'' hb2 hv => ?_)
          · rw [(hlex w' hSw).1]
            have h2 := h1
            unfold looks1B at h2
            rw [ho'] at h2
            have h2 := List.all_eq_true.1 h2 t ht
            rw [List.all_eq_true] at h2
            rcases dst_cases (l.take m) t with hn | ⟨k, p, hk, hd⟩
            · rw [fill_off _ _ _ _ hn, fill_off _ _ _ _ (fun q hq => hn q (by
                have : l.take n = (l.take m).take n := by rw [List.take_take, Nat.min_eq_left hnm]
                rw [this] at hq
                exact List.mem_of_mem_take hq))]
            · have hkm : k < m := by
                have := (List.getElem?_eq_some_iff.1 hk).1
                simp at this; omega
              have hk' : l[k]? = some p := by rwa [List.getElem?_take_of_lt hkm] at hk
              obtain ⟨d, hd', hlt⟩ := hdst k p hkm hk'
              have hdt : d = t := by rw [hd] at hd'; injection hd' with e; exact e.symm
              subst hdt
              have h3 := h2 k (List.mem_range.2 hkm)
              rw [hk'] at h3
              simp only [Option.bind_some, hd, bne_self_eq_false, Bool.false_or, Bool.and_eq_true, decide_eq_true_eq] at h3
              rw [fill_at (l.take m) 0 x a k p hA hk hd hlt, Nat.zero_add, hx k (hwait k h3.2) h3.1,
                fill_at (l.take n) 0 val a k p hAn (by rw [List.getElem?_take_of_lt h3.1]; exact hk') hd hlt, Nat.zero_add]
          rw [hput i o x _ him ho']
          refine ⟨by simpa using hs, hdn.set hwait, .inl ⟨hS _ _ hSw hb2, hbl.trans (hb2.mono hbl.size), fun t ht => by rw [getD_set_ne false (by omega)]; exact hT0 t ht, _, rfl, fun k hk hkn => ?_, fun k hk hkn hkm => ?_⟩⟩
          · have e : k ≠ i := by omega
            rw [getD_set_ne false (Ne.symm e)] at hk
            simp only [upd]; rw [if_neg e]
            exact hx k hk hkn
          · by_cases e : k = i
            · subst e; simpa [upd] using hv
            · rw [getD_set_ne false (Ne.symm e)] at hk
              simp only [upd]; rw [if_neg e]
              exact hF k _ _ _ (hF0 k hk hkn hkm) hb2
        · have him' : i = m := by
            rcases Nat.lt_or_ge m i with h' | h'
            · have := hdn.from hwait 5 (i - 1) (htail i o h' ho')
              rw [hT0 (i - 1) (by omega)] at this
              cases this
            · omega
          subst him'
          have hall : ∀ k, k < i → L.getD k false = true := fun k hk => (htail0 o k ho' hk).elim fun f hf => hdn.from hwait f k hf
          have he := hEq x (fun k hk => hx k (hall k (by omega)) hk)
          rw [he]
          exact hseq i o L _ w' ho' hs (hdn.set hwait) (Nat.le_refl _) (fun k hk _ => hall k hk) hT0 (hend x w' hSw hbl (fun k hk hkm => hF0 k (hall k hkm) hk hkm))
    · have hti : t ≤ i := by
        rcases Nat.lt_or_ge i t with h' | h'
        · rw [h1 i h' hil] at hunf; cases hunf
        · exact h'
      have hit : i = t := by
        rcases Nat.lt_or_ge t i with h' | h'
        · have := hdn.from hwait 5 (i - 1) (htail i o (by omega) ho')
          rw [h2 (i - 1) (by omega)] at this
          cases this
        · omega
      subst hit
      exact hseq i o L _ w' ho' hs (hdn.set hwait) hmt h1 h2 h3
  · rintro L a' w' ⟨hs, hdn, hI⟩ hr
    have hall : ∀ k, k < l.length → L.getD k false = true := fun k hk => all_listed hD (by simpa using hs) hr (k + 1) k (by omega) (by simpa using hk)
    rcases hI with ⟨hSw, hbl, hT0, x, rfl, hx, hF0⟩ | ⟨t, hmt, h1, h2, h3⟩
    · have hml' : m = l.length := by
        rcases Nat.lt_or_ge m l.length with h' | h'
        · have := hall m h'
          rw [hT0 m (Nat.le_refl _)] at this
          cases this
        · omega
      have he := hEq x (fun k hk => hx k (hall k (by omega)) hk)
      have h4 := hend x w' hSw hbl (fun k hk hkm => hF0 k (hall k (by omega)) hk hkm)
      rw [he]
      rw [hml', List.drop_length] at h4
      rw [← hml'] at h4
      exact h4
    · have : l.drop t = [] := by
        rcases Nat.lt_or_ge t l.length with h' | h'
        · have := hall t h'
          rw [h2 t (Nat.le_refl _)] at this
          cases this
        · exact List.drop_eq_nil_of_le h'
      rw [this] at h3
      exact h3
  · unfold left
    simp
  · refine ⟨by simp, fun i j hi _ => ?_, .inl ⟨hS _ _ h0 ⟨rfl, rfl, rfl, Nat.le_refl _, fun _ _ => rfl⟩, ⟨rfl, rfl, rfl, Nat.le_refl _, fun _ _ => rfl⟩, fun t _ => ?_, fun k => match l[k]? with | some o => (match o.dst with | some d => a.tmps.getD d undef | none => undef) | none => undef, (fill_self (l.take m) 0 a _ (fun k o d hk hd => ?_)).symm, fun k hk => ?_, fun k hk => ?_⟩⟩
    · exfalso
      by_cases h : i < l.length <;> simp [h] at hi
    · by_cases h : t < l.length <;> simp [h]
    · have hkm : k < m := by
        have := (List.getElem?_eq_some_iff.1 hk).1
        simp at this; omega
      rw [List.getElem?_take_of_lt hkm] at hk
      rw [Nat.zero_add]
      simp only [hk, hd]
    · exfalso
      by_cases h : k < l.length <;> simp [h] at hk
    · exfalso
      by_cases h : k < l.length <;> simp [h] at hk

theorem any_head2 {a : Act} (aE : Act) {W : World} {l : List Oper} (S : World → Prop) (n m : Nat) (F : Nat → Value → World → Prop) (hS : Closed S) (hF : ∀ k v, Closed (F k v)) (h0 : S W)
    (hB : headB l n m a.tmps.size = true)
    (hmid : ∀ k o w' a' (K : Act → World → Prop), n ≤ k → k < m → l[k]? = some o → S w' → Below W.heap.size W w' → (looks1B l n m k = true → ∀ t ∈ o.looksAt l.toArray, a'.tmps[t]? = aE.tmps[t]?) → (∀ v w'', Below w'.heap.size w' w'' → F k v w'' → K (a'.put o.dst v) w'') → wpOp P l.toArray Q k K a' w')
    (h : (∀ w1, S w1 → wpQuiet P (l.take n).toArray (fun w' => ∃ i : Ext S w1, w' = i.W) (fun a' => a' = aE) (l.take n) a) ∧
      ∀ x w', S w' → Below W.heap.size W w' → (∀ k, n ≤ k → k < m → F k (x k) w') → wpList P l.toArray Q (l.drop m) (fill ((l.take m).drop n) n x aE) w') :
    wpAny P .any l.toArray Q l.toArray.size (Array.replicate l.toArray.size false) a { W with drawn := W.drawn + 1 } :=
  any_head3 aE S n m F hS hF h0 hB (fun k o x w' K h1 h2 h3 h4 h5 h6 _ h7 => hmid k o w' _ K h1 h2 h3 h4 h5 h6 h7) h
theorem any_head {a : Act} {W : World} {l : List Oper} (S : World → Prop) (n m : Nat) (F : Nat → Value → World → Prop) (hS : Closed S) (hF : ∀ k v, Closed (F k v)) (h0 : S W)
    (hB : headB l n m a.tmps.size = true)
    (hmid : ∀ k o w' a' (K : Act → World → Prop), n ≤ k → k < m → l[k]? = some o → S w' → Below W.heap.size W w' → (∀ v w'', Below w'.heap.size w' w'' → F k v w'' → K (a'.put o.dst v) w'') → wpOp P l.toArray Q k K a' w')
    (h : ∃ aE, (∀ w1, S w1 → wpQuiet P (l.take n).toArray (fun w' => ∃ i : Ext S w1, w' = i.W) (fun a' => a' = aE) (l.take n) a) ∧
      ∀ x w', S w' → Below W.heap.size W w' → (∀ k, n ≤ k → k < m → F k (x k) w') → wpList P l.toArray Q (l.drop m) (fill ((l.take m).drop n) n x aE) w') :
    wpAny P .any l.toArray Q l.toArray.size (Array.replicate l.toArray.size false) a { W with drawn := W.drawn + 1 } := by
  obtain ⟨aE, hw⟩ := h
  exact any_head2 aE S n m F hS hF h0 hB (fun k o w' a' K h1 h2 h3 h4 h5 _ h6 => hmid k o w' a' K h1 h2 h3 h4 h5 h6) hw
theorem wp_region_head {id : Nat} {a : Act} {W : World} {l : List Oper} (S : World → Prop) (n m : Nat) (F : Nat → Value → World → Prop) (hS : Closed S) (hF : ∀ k v, Closed (F k v)) (h0 : S W)
    (hm : P.follows .mixedOrders = true) (hB : headB l n m a.tmps.size = true)
    (hmid : ∀ k o w' a' (K : Act → World → Prop), n ≤ k → k < m → l[k]? = some o → S w' → Below W.heap.size W w' → (∀ v w'', Below w'.heap.size w' w'' → F k v w'' → K (a'.put o.dst v) w'') → wpOp P l.toArray Q k K a' w')
    (h : ∃ aE, (∀ w1, S w1 → wpQuiet P (l.take n).toArray (fun w' => ∃ i : Ext S w1, w' = i.W) (fun a' => a' = aE) (l.take n) a) ∧
      ∀ x w', S w' → Below W.heap.size W w' → (∀ k, n ≤ k → k < m → F k (x k) w') → wpList P l.toArray Q (l.drop m) (fill ((l.take m).drop n) n x aE) w') :
    (Code.region id l.toArray true).wp P Q a W :=
  wp_region_any hm (any_head S n m F hS hF h0 hB hmid h)

/-- .. and behind n operations some that wait for all -/
theorem any_tail {a : Act} {W : World} {l : List Oper} (n : Nat) (S : World → Prop) (hS : Closed S) (h0 : S W) (hB : headB l n n a.tmps.size = true)
    (h : ∃ aE, (∀ w1, S w1 → wpQuiet P (l.take n).toArray (fun w' => ∃ i : Ext S w1, w' = i.W) (fun a' => a' = aE) (l.take n) a) ∧ ∀ w', S w' → Below W.heap.size W w' → wpList P l.toArray Q (l.drop n) aE w') :
    wpAny P .any l.toArray Q l.toArray.size (Array.replicate l.toArray.size false) a { W with drawn := W.drawn + 1 } := by
  obtain ⟨aE, h1, h2⟩ := h
  refine any_head S n n (fun _ _ _ => True) hS (fun _ _ _ _ _ _ => trivial) h0 hB (fun k o w' a' K hk hk2 => by omega) ⟨aE, h1, fun x w' hs hb _ => ?_⟩
  have e : (l.take n).drop n = [] := List.drop_eq_nil_of_le (by simp; omega)
  rw [e]
  exact h2 w' hs hb

/-- what holds of each value of the first m operations, in any world behind it (some that are known by what they show alone); then those that wait for all -/
theorem any_invt {a : Act} {W : World} {l : List Oper} (m : Nat) (F : Nat → Value → World → Prop) (hF' : ∀ k v, Closed (F k v)) (hB : headB l 0 m a.tmps.size = true)
    (hstep : ∀ (i : Nat) (o : Oper) (x : Nat → Value) (w' : World) (K : Act → World → Prop), i < m → l[i]? = some o → Below W.heap.size W w' → (∀ e ∈ o.after, Region.binds .any e = true → F e.on (x e.on) w') →
      (∀ v w'', Below w'.heap.size w' w'' → F i v w'' → K ((fill (l.take m) 0 x a).put o.dst v) w'') → wpOp P l.toArray Q i K (fill (l.take m) 0 x a) w')
    (hend : ∀ (x : Nat → Value) (w' : World), Below W.heap.size W w' → (∀ k, k < m → F k (x k) w') → wpList P l.toArray Q (l.drop m) (fill (l.take m) 0 x a) w') :
    wpAny P .any l.toArray Q l.toArray.size (Array.replicate l.toArray.size false) a { W with drawn := W.drawn + 1 } := by
  have hB0 := hB
  simp only [headB, Bool.and_eq_true, decide_eq_true_eq] at hB0
  obtain ⟨⟨⟨⟨⟨⟨⟨⟨hnm, hml⟩, hsel⟩, hD⟩, hA⟩, hDst⟩, hG⟩, hL⟩, hT⟩ := hB0
  refine any_head3 a (fun _ => True) 0 m F (fun _ _ _ _ => trivial) hF' trivial hB (fun k o x w' K _ hk ho _ hb _ hd hK => ?_) ⟨fun _ _ => ?_, fun x w' _ hb hx => ?_⟩
  · refine hstep k o x w' K hk ho hb (fun e he hbi => ?_) hK
    have hw : Region.waitsFor .any l.toArray k e.on = true := by
      unfold Region.waitsFor
      have ho' : l.toArray[k]? = some o := by simpa using ho
      simp only [ho']
      rw [Array.any_eq_true]
      obtain ⟨j, hj, hje⟩ := Array.mem_iff_getElem.1 he
      exact ⟨j, hj, by rw [hje, hbi]; simp⟩
    have hlt : e.on < k := by
      have h1 := List.all_eq_true.1 hD k (List.mem_range.2 (by simpa using (List.getElem?_eq_some_iff.1 ho).1))
      have ho' : l.toArray[k]? = some o := by simpa using ho
      rw [ho'] at h1
      have h2 := Array.all_eq_true_iff_forall_mem.1 h1 e he
      simpa [hbi] using h2
    exact hd e.on hw (Nat.zero_le _) (by omega)
  · rw [List.take_zero]
    exact wpQuiet_nil rfl
  · rw [List.drop_zero]
    exact hend x w' hb (fun k hk => hx k (Nat.zero_le _) hk)
theorem wp_region_invt {id : Nat} {a : Act} {W : World} {l : List Oper} (m : Nat) (F : Nat → Value → World → Prop) (hm : P.follows .mixedOrders = true) (hB : headB l 0 m a.tmps.size = true)
    (hF' : ∀ k v w' w'', F k v w' → Below w'.heap.size w' w'' → F k v w'')
    (hstep : ∀ (i : Nat) (o : Oper) (x : Nat → Value) (w' : World) (K : Act → World → Prop), i < m → l[i]? = some o → Below W.heap.size W w' → (∀ e ∈ o.after, Region.binds .any e = true → F e.on (x e.on) w') →
      (∀ v w'', Below w'.heap.size w' w'' → F i v w'' → K ((fill (l.take m) 0 x a).put o.dst v) w'') → wpOp P l.toArray Q i K (fill (l.take m) 0 x a) w')
    (hend : ∀ (x : Nat → Value) (w' : World), Below W.heap.size W w' → (∀ k, k < m → F k (x k) w') → wpList P l.toArray Q (l.drop m) (fill (l.take m) 0 x a) w') :
    (Code.region id l.toArray true).wp P Q a W :=
  wp_region_any hm (any_invt m F hF' hB hstep hend)

/-- nothing behind: all operations read, or only make memory -/
theorem wp_region_all {id : Nat} {a : Act} {W : World} {l : List Oper} (S : World → Prop) (hS : Closed S) (h0 : S W)
    (hm : P.follows .mixedOrders = true) (hB : headB l l.length l.length a.tmps.size = true)
    (h : ∃ aE, (∀ w1, S w1 → wpQuiet P l.toArray (fun w' => ∃ i : Ext S w1, w' = i.W) (fun a' => a' = aE) l a) ∧ ∀ w', S w' → Below W.heap.size W w' → Q .normal aE w') :
    (Code.region id l.toArray true).wp P Q a W := by
  obtain ⟨aE, h1, h2⟩ := h
  refine wp_region_head S l.length l.length (fun _ _ _ => True) hS (fun _ _ _ _ _ _ => trivial) h0 hm hB (fun k o w' a' K hk hk2 => by omega) ⟨aE, ?_, fun x w' hs hb _ => ?_⟩
  · rw [List.take_length]
    exact h1
  · rw [List.take_length, List.drop_length]
    exact h2 w' hs hb

/-- behind n operations some that wait for all, one behind the other -/
theorem wp_region_tail {id : Nat} {a : Act} {W : World} {l : List Oper} (n : Nat) (S : World → Prop) (hS : Closed S) (h0 : S W)
    (hm : P.follows .mixedOrders = true) (hB : headB l n n a.tmps.size = true)
    (h : ∃ aE, (∀ w1, S w1 → wpQuiet P (l.take n).toArray (fun w' => ∃ i : Ext S w1, w' = i.W) (fun a' => a' = aE) (l.take n) a) ∧ ∀ w', S w' → Below W.heap.size W w' → wpList P l.toArray Q (l.drop n) aE w') :
    (Code.region id l.toArray true).wp P Q a W := by
  obtain ⟨aE, h1, h2⟩ := h
  refine wp_region_head S n n (fun _ _ _ => True) hS (fun _ _ _ _ _ _ => trivial) h0 hm hB (fun k o w' a' K hk hk2 => by omega) ⟨aE, h1, fun x w' hs hb _ => ?_⟩
  have e : (l.take n).drop n = [] := List.drop_eq_nil_of_le (by simp; omega)
  rw [e]
  exact h2 w' hs hb

/-- behind n operations one that builds a new row of known cells, whenever it comes, and then some that wait for all -/
theorem any_build {a : Act} {W : World} {l : List Oper} (n : Nat) (S : World → Prop) (cs : Array Value) (t : TypeId) (k : Nat) (o : Oper) (d : Tmp) (hS : Closed S) (h0 : S W)
    (hB : headB l n (n + 1) a.tmps.size = true) (hL : looks1B l n (n + 1) n = true) (ho : l[n]? = some o) (hd : o.dst = some d) (hg : o.guard = none)
    (h : ∃ aE, (∀ w1, S w1 → wpQuiet P (l.take n).toArray (fun w' => ∃ i : Ext S w1, w' = i.W) (fun a' => a' = aE) (l.take n) a) ∧
      (∀ w' : World, (execOp aE.eval o).run P w' = .ok (.value (.slice (some ⟨w'.heap.size, 0, none⟩) k k)) (w'.alloc (.cells cs t))) ∧
      ∀ B w', S w' → Below W.heap.size W w' → W.heap.size ≤ B → Bx w' B cs → wpList P l.toArray Q (l.drop (n + 1)) (aE.put (some d) (.slice (some ⟨B, 0, none⟩) k k)) w') :
    wpAny P .any l.toArray Q l.toArray.size (Array.replicate l.toArray.size false) a { W with drawn := W.drawn + 1 } := by
  obtain ⟨aE, h1, h3, h2⟩ := h
  have hB0 := hB
  simp only [headB, Bool.and_eq_true, decide_eq_true_eq] at hB0
  have hsel := hB0.1.1.1.1.1.1.2
  refine any_head2 aE S n (n + 1) (fun _ v w' => ∃ B, v = .slice (some ⟨B, 0, none⟩) k k ∧ W.heap.size ≤ B ∧ Bx w' B cs) hS
    (fun k v w w' ⟨B, e, hB, hb⟩ hbl => ⟨B, e, hB, hb.next hbl⟩) h0 hB (fun k p w' a' K hk hk2 hp hs hb hag hK => ?_) ⟨h1, fun x w' hs hb hx => ?_⟩
  · have hkn : k = n := by omega
    subst hkn
    rw [ho] at hp
    injection hp with hp
    subst hp
    unfold wpOp
    have ho' : l.toArray[k]? = some o := by simpa using ho
    simp only [ho']
    have hw : Region.wanted o (yielded l.toArray a'.tmps) = true := by unfold Region.wanted; rw [hg]
    rw [hw, if_pos rfl]
    left
    unfold Oper.wp
    rw [(exec_agree (fun cs b => Region.noSelect_spec hsel k o cs b ho') (hag hL)).1, h3]
    exact hK _ _ below_box ⟨w'.heap.size, rfl, hb.size, Bx.new w' cs t⟩
  · have hlt := (List.getElem?_eq_some_iff.1 ho).1
    have e : (l.take (n + 1)).drop n = [o] := by
      rw [List.drop_take, Nat.add_sub_cancel_left]
      rw [List.drop_eq_getElem_cons hlt]
      have := (List.getElem?_eq_some_iff.1 ho).2
      simp [this]
    obtain ⟨B, hx1, hx2, hx3⟩ := hx n (Nat.le_refl _) (by omega)
    rw [e]
    simp only [fill, hd, hx1]
    exact h2 B w' hs hb hx2 hx3
theorem wp_region_build {id : Nat} {a : Act} {W : World} {l : List Oper} (n : Nat) (S : World → Prop) (cs : Array Value) (t : TypeId) (k : Nat) (o : Oper) (d : Tmp) (hS : Closed S) (h0 : S W)
    (hm : P.follows .mixedOrders = true) (hB : headB l n (n + 1) a.tmps.size = true) (hL : looks1B l n (n + 1) n = true) (ho : l[n]? = some o) (hd : o.dst = some d) (hg : o.guard = none)
    (h : ∃ aE, (∀ w1, S w1 → wpQuiet P (l.take n).toArray (fun w' => ∃ i : Ext S w1, w' = i.W) (fun a' => a' = aE) (l.take n) a) ∧
      (∀ w' : World, (execOp aE.eval o).run P w' = .ok (.value (.slice (some ⟨w'.heap.size, 0, none⟩) k k)) (w'.alloc (.cells cs t))) ∧
      ∀ B w', S w' → Below W.heap.size W w' → W.heap.size ≤ B → Bx w' B cs → wpList P l.toArray Q (l.drop (n + 1)) (aE.put (some d) (.slice (some ⟨B, 0, none⟩) k k)) w') :
    (Code.region id l.toArray true).wp P Q a W :=
  wp_region_any hm (any_build n S cs t k o d hS h0 hB hL ho hd hg h)

/-- behind n operations one that lays a block, whenever it comes, and then some that wait for all -/
theorem wp_region_lay {id : Nat} {a : Act} {W : World} {l : List Oper} (n : Nat) (S : World → Prop) (cs : Array Value) (t : TypeId) (o : Oper) (d : Tmp) (hS : Closed S) (h0 : S W)
    (hm : P.follows .mixedOrders = true) (hB : headB l n (n + 1) a.tmps.size = true) (ho : l[n]? = some o) (hd : o.dst = some d) (hg : o.guard = none)
    (hrun : ∀ (ρ : Operand → Value) (w' : World), (execOp ρ o).run P w' = .ok (.value (.pointer (some ⟨w'.heap.size, 0, none⟩))) (w'.alloc (.cells cs t)))
    (h : ∃ aE, (∀ w1, S w1 → wpQuiet P (l.take n).toArray (fun w' => ∃ i : Ext S w1, w' = i.W) (fun a' => a' = aE) (l.take n) a) ∧
      ∀ B w', S w' → Below W.heap.size W w' → W.heap.size ≤ B → Bx w' B cs → wpList P l.toArray Q (l.drop (n + 1)) (aE.put (some d) (.pointer (some ⟨B, 0, none⟩))) w') :
    (Code.region id l.toArray true).wp P Q a W := by
  obtain ⟨aE, h1, h2⟩ := h
  refine wp_region_head S n (n + 1) (fun _ v w' => ∃ B, v = .pointer (some ⟨B, 0, none⟩) ∧ W.heap.size ≤ B ∧ Bx w' B cs) hS
    (fun k v w w' ⟨B, e, hB, hb⟩ hbl => ⟨B, e, hB, hb.next hbl⟩) h0 hm hB (fun k p w' a' K hk hk2 hp hs hb hK => ?_) ⟨aE, h1, fun x w' hs hb hx => ?_⟩
  · have hkn : k = n := by omega
    subst hkn
    rw [ho] at hp
    injection hp with hp
    subst hp
    unfold wpOp
    have ho' : l.toArray[k]? = some o := by simpa using ho
    simp only [ho']
    have hw : Region.wanted o (yielded l.toArray a'.tmps) = true := by unfold Region.wanted; rw [hg]
    rw [hw, if_pos rfl]
    left
    unfold Oper.wp
    rw [hrun]
    exact hK _ _ below_box ⟨w'.heap.size, rfl, hb.size, Bx.new w' cs t⟩
  · have hlt := (List.getElem?_eq_some_iff.1 ho).1
    have e : (l.take (n + 1)).drop n = [o] := by
      rw [List.drop_take, Nat.add_sub_cancel_left]
      rw [List.drop_eq_getElem_cons hlt]
      have := (List.getElem?_eq_some_iff.1 ho).2
      simp [this]
    obtain ⟨B, hx1, hx2, hx3⟩ := hx n (Nat.le_refl _) (by omega)
    rw [e]
    simp only [fill, hd, hx1]
    exact h2 B w' hs hb hx2 hx3
end

end Go.Proofs.YthpbcbbiampamaaGreatDoor.Held
