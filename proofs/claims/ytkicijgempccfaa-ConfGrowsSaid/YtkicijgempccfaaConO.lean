/- The contract of the law's 'of': a group as the document has it. -/
import Derived.Test.YtkicijgempccfaaConF
import Derived.Deep.AppendLies
import Derived.Test.YtkicijgempccfaaInv2
namespace Go.Proofs.Ytkicijgempccfaa.Con
open Go.RowKit Go.Proofs.Ytkicijgempccfaa.RatP Go.Proofs.Ytkicijgempccfaa.SatP Go.Proofs.Ytkicijgempccfaa.ConP Go.Proofs.Ytkicijgempccfaa.Rat
set_option linter.unusedVariables false

/-- a block that can be written -/
def Fr (W : World) (X : Nat) : Prop := ∀ o, W.frozen? ⟨X, o, none⟩ = false
theorem Fr.kept {W W' : World} {X : Nat} (h : Fr W X) (hb : W'.heap[X]? = W.heap[X]?) : Fr W' X := fun o => (World.frozen?_of_block hb).trans (h o)
theorem Fr.new (w : World) (arr : Array Value) (t : TypeId) : Fr (w.alloc (.cells arr t)) w.heap.size := fun o => by
  show World.frozen? _ _ = false
  simp
theorem sees_own7 {w : World} {base : Nat} {e : TypeId} {A : Option Addr} {n c : Nat} {xs : List Value} (h : w.ownsRow base e 7 (.slice A n c) n xs) : Sees.Sees w w.heap.size A xs := by
  rcases h.2 with ⟨hv, h0⟩ | ⟨g, cap, cur, hv, _, hg, _⟩
  · have : xs = [] := List.eq_nil_of_length_eq_zero (by have := h.1; omega)
    exact .inl this
  · have hA : A = some ⟨g, 0, none⟩ := by injection hv
    subst hA
    refine .inr ⟨g, 0, rfl, (Array.getElem?_eq_some_iff.1 hg).1, fun j u hu => ?_⟩
    have := h.cells (g := g) rfl j u hu
    rwa [Addr.add_lit] at this
theorem own_form7 {w : World} {base : Nat} {e : TypeId} {v : Value} {n : Nat} {xs : List Value} (h : w.ownsRow base e 7 v n xs) :
    ∃ A c, v = .slice A n c ∧ n ≤ c ∧ Sees.Sees w w.heap.size A xs ∧ ∀ g, v.ownBlock = some g → base ≤ g ∧ g < w.heap.size := by
  have hl := h.lt
  rcases h.2 with ⟨hv, h0⟩ | ⟨g, cap, cur, hv, hb, hg, hn, _⟩
  · subst hv; subst h0
    exact ⟨none, 0, rfl, Nat.le_refl _, sees_own7 h, hl⟩
  · subst hv
    exact ⟨_, cap, rfl, hn, sees_own7 h, hl⟩
/-- a group stored into a block, cell by cell -/
def setAll (W : World) (X : Nat) (v : V) : World :=
  (((((((((((((W.setCell ⟨X, 0, none⟩ (.slice v.A v.c.banks.length v.cb)).setCell ⟨X, 1, none⟩ (.int .i64 v.c.floors)).setCell ⟨X, 2, none⟩ (.int .i64 v.c.home)).setCell ⟨X, 3, none⟩ (.slice v.O v.c.order.length v.co)).setCell ⟨X, 4, none⟩ (.int .i64 v.c.speed)).setCell ⟨X, 5, none⟩ (.int .i64 v.c.width)).setCell ⟨X, 6, none⟩ (.int .i64 v.c.dwell)).setCell ⟨X, 7, none⟩ (.int .i64 v.c.good)).setCell ⟨X, 8, none⟩ (.int .i64 v.c.dead)).setCell ⟨X, 9, none⟩ (.int .i64 v.c.lag)).setCell ⟨X, 10, none⟩ (.int .i64 v.c.turn)).setCell ⟨X, 11, none⟩ (.int .i64 v.c.cost)).setCell ⟨X, 12, none⟩ (.int .i64 v.c.full))
theorem setAll_far (W : World) (X : Nat) (v : V) : ∀ Y, Y ≠ X → (setAll W X v).heap[Y]? = W.heap[Y]? := by
  intro Y hY
  unfold setAll
  have f : ∀ (W : World) (o : Nat) (x : Value), (W.setCell ⟨X, o, none⟩ x).heap[Y]? = W.heap[Y]? := fun W o x => Below.heap_setCell W _ x Y hY
  iterate 13 rw [f]
theorem setAll_below (W : World) (X : Nat) (v : V) {B : Nat} (hB : B ≤ X) : Below B W (setAll W X v) := by
  unfold setAll
  exact (((((((((((((Below.refl B W).setCell hB _).setCell hB _).setCell hB _).setCell hB _).setCell hB _).setCell hB _).setCell hB _).setCell hB _).setCell hB _).setCell hB _).setCell hB _).setCell hB _).setCell hB _
theorem setAll_box {W : World} {X : Nat} (v : V) {u : V} (h : CBox W X u) : CBox (setAll W X v) X v := by
  unfold setAll
  have f : ∀ (W : World) (o o' : Nat) (x : Value), o ≠ o' → (W.setCell ⟨X, o, none⟩ x).cell? ⟨X, o', none⟩ = W.cell? ⟨X, o', none⟩ := fun W o o' x ho => set_far W X o o' x ho
  have s : ∀ (W : World) (o : Nat) (x y : Value), W.cell? ⟨X, o, none⟩ = some y → (W.setCell ⟨X, o, none⟩ x).cell? ⟨X, o, none⟩ = some x := fun W o x y h => World.cell?_setCell_same W _ x h
  constructor
  · (iterate 12 rw [f _ _ _ _ (by decide)]); exact s _ _ _ _ h.c0
  · (iterate 11 rw [f _ _ _ _ (by decide)]); exact s _ _ _ _ (by (iterate 1 rw [f _ _ _ _ (by decide)]); exact h.c1)
  · (iterate 10 rw [f _ _ _ _ (by decide)]); exact s _ _ _ _ (by (iterate 2 rw [f _ _ _ _ (by decide)]); exact h.c2)
  · (iterate 9 rw [f _ _ _ _ (by decide)]); exact s _ _ _ _ (by (iterate 3 rw [f _ _ _ _ (by decide)]); exact h.c3)
  · (iterate 8 rw [f _ _ _ _ (by decide)]); exact s _ _ _ _ (by (iterate 4 rw [f _ _ _ _ (by decide)]); exact h.c4)
  · (iterate 7 rw [f _ _ _ _ (by decide)]); exact s _ _ _ _ (by (iterate 5 rw [f _ _ _ _ (by decide)]); exact h.c5)
  · (iterate 6 rw [f _ _ _ _ (by decide)]); exact s _ _ _ _ (by (iterate 6 rw [f _ _ _ _ (by decide)]); exact h.c6)
  · (iterate 5 rw [f _ _ _ _ (by decide)]); exact s _ _ _ _ (by (iterate 7 rw [f _ _ _ _ (by decide)]); exact h.c7)
  · (iterate 4 rw [f _ _ _ _ (by decide)]); exact s _ _ _ _ (by (iterate 8 rw [f _ _ _ _ (by decide)]); exact h.c8)
  · (iterate 3 rw [f _ _ _ _ (by decide)]); exact s _ _ _ _ (by (iterate 9 rw [f _ _ _ _ (by decide)]); exact h.c9)
  · (iterate 2 rw [f _ _ _ _ (by decide)]); exact s _ _ _ _ (by (iterate 10 rw [f _ _ _ _ (by decide)]); exact h.c10)
  · (iterate 1 rw [f _ _ _ _ (by decide)]); exact s _ _ _ _ (by (iterate 11 rw [f _ _ _ _ (by decide)]); exact h.c11)
  · exact s _ _ _ _ (by (iterate 12 rw [f _ _ _ _ (by decide)]); exact h.c12)
theorem own_kept7 {w w' : World} {base : Nat} {e : TypeId} {size : Nat} {v : Value} {n : Nat} {xs : List Value} (h : w.ownsRow base e size v n xs) (hk : ∀ g, v.ownBlock = some g → w'.heap[g]? = w.heap[g]?) : w'.ownsRow base e size v n xs := by
  refine ⟨h.1, ?_⟩
  rcases h.2 with h2 | ⟨g, cap, cur, rfl, hg, hh, r⟩
  · exact .inl h2
  · exact .inr ⟨g, cap, cur, rfl, hg, by rw [hk g rfl]; exact hh, r⟩
theorem info_refB : (Try.prog.info? 54).map (fun i => (i.zero, i.size, i.bytes)) = some (some (.agg #[.int .i64 0, .int .i64 0, .int .i64 0, .int .i64 0, .int .i64 0, .int .i64 0, .int .i64 0]), 7, 56) := by kernel_rfl
theorem bCells_new (w : World) (x : Bk) (t : TypeId) : ∀ j u, (bCells x)[j]? = some u → (w.alloc (.cells (bCells x).toArray t)).cell? ((⟨w.heap.size, 0, none⟩ : Addr).add j) = some u := by
  intro j u hj
  rw [Addr.add_lit]
  match j, hj with
  | 0, hj => simp [bCells] at hj; subst hj; simp [bCells]
  | 1, hj => simp [bCells] at hj; subst hj; simp [bCells]
  | 2, hj => simp [bCells] at hj; subst hj; simp [bCells]
  | 3, hj => simp [bCells] at hj; subst hj; simp [bCells]
  | 4, hj => simp [bCells] at hj; subst hj; simp [bCells]
  | 5, hj => simp [bCells] at hj; subst hj; simp [bCells]
  | 6, hj => simp [bCells] at hj; subst hj; simp [bCells]

/-- the law's variable behind k rounds -/
def vk (v : V) (A : Option Addr) (cb k : Nat) : V := ⟨A, cb, v.O, v.co, { v.c with banks := v.c.banks.take k }⟩
def vz : V := ⟨none, 0, none, 0, ⟨[], 0, 0, [], 0, 0, 0, 0, 0, 0, 0, 0, 0⟩⟩

/-- what holds while 'of' goes round -/
structure OfJ (w wr : World) (v : V) (k : Nat) : Prop where
  size : w.heap.size + 3 ≤ wr.heap.size
  below : Below w.heap.size w wr
  cbox : CBox wr w.heap.size v
  res : CBox wr (w.heap.size + 1) vz
  resF : Fr wr (w.heap.size + 1)
  own : ∃ A cb, wr.ownsRow (w.heap.size + 3) 54 7 (.slice A k cb) k (bRow (v.c.banks.take k)) ∧ CBox wr (w.heap.size + 2) (vk v A cb k) ∧ Fr wr (w.heap.size + 2)

/-- cells that a round's statement reads -/
def SOf (N b o k R : Nat) (sl : Value) (x : Bk) (W : World) : Prop :=
  W.cell? ⟨N, 0, none⟩ = some sl ∧ W.cell? ⟨b, o + k * 7, none⟩ = some (.int .i64 x.cars) ∧ W.cell? ⟨R, 0, none⟩ = some (.int .i64 x.r.idle) ∧ W.cell? ⟨R, 1, none⟩ = some (.int .i64 x.r.move) ∧ W.cell? ⟨R, 2, none⟩ = some (.int .i64 x.r.gain) ∧ W.cell? ⟨R, 3, none⟩ = some (.int .i64 x.r.pull) ∧ W.cell? ⟨R, 4, none⟩ = some (.int .i64 x.r.door) ∧ W.cell? ⟨R, 5, none⟩ = some (.int .i64 x.r.weight)
theorem SOf.kept {N b o k R : Nat} {sl : Value} {x : Bk} {W W' : World} (h : SOf N b o k R sl x W) (hN : W'.heap[N]? = W.heap[N]?) (hb : W'.heap[b]? = W.heap[b]?) (hR : W'.heap[R]? = W.heap[R]?) : SOf N b o k R sl x W' :=
  ⟨(World.cell?_of_block hN).trans h.1, (World.cell?_of_block hb).trans h.2.1, (World.cell?_of_block hR).trans h.2.2.1, (World.cell?_of_block hR).trans h.2.2.2.1, (World.cell?_of_block hR).trans h.2.2.2.2.1, (World.cell?_of_block hR).trans h.2.2.2.2.2.1, (World.cell?_of_block hR).trans h.2.2.2.2.2.2.1, (World.cell?_of_block hR).trans h.2.2.2.2.2.2.2⟩
theorem SOf.lt {N b o k R : Nat} {sl : Value} {x : Bk} {W : World} (h : SOf N b o k R sl x W) : N < W.heap.size ∧ b < W.heap.size ∧ R < W.heap.size := ⟨World.block_lt_of_cell? W _ h.1, World.block_lt_of_cell? W _ h.2.1, World.block_lt_of_cell? W _ h.2.2.1⟩
theorem SOf.alloc {N b o k R : Nat} {sl : Value} {x : Bk} {W : World} (h : SOf N b o k R sl x W) (ob : Obj) : SOf N b o k R sl x (W.alloc ob) :=
  have hb := says_box (w := W) (o := ob)
  h.kept (hb.block _ h.lt.1) (hb.block _ h.lt.2.1) (hb.block _ h.lt.2.2)
theorem SOf.grown {N b o k R : Nat} {sl : Value} {x : Bk} {W W' : World} {r : Option Nat} (h : SOf N b o k R sl x W) (hg : W.grownBy W' r) (h1 : some N ≠ r) (h2 : some b ≠ r) (h3 : some R ≠ r) : SOf N b o k R sl x W' :=
  h.kept (hg.block _ h.lt.1 h1) (hg.block _ h.lt.2.1 h2) (hg.block _ h.lt.2.2 h3)
theorem SOf.set {N b o k R : Nat} {sl : Value} {x : Bk} {W : World} (h : SOf N b o k R sl x W) (X : Nat) (u : Value) (h1 : N ≠ X) (h2 : b ≠ X) (h3 : R ≠ X) : SOf N b o k R sl x (W.setCell ⟨X, 0, none⟩ u) :=
  h.kept (Below.heap_setCell W _ u _ h1) (Below.heap_setCell W _ u _ h2) (Below.heap_setCell W _ u _ h3)

/-- how far the statement is that appends -/
def OfG (W1 : World) (N k H : Nat) (old : Value) (xs : List Value) (g cap : Nat) (w' : World) : Prop :=
  w'.ownsRow (N + 3) 54 7 (.slice (some ⟨g, 0, none⟩) (k + 1) cap) (k + 1) xs ∧ W1.grownBy w' old.ownBlock ∧ (old.ownBlock = some g ∨ g = H) ∧ g < w'.heap.size
def OfT (W0 : World) (N k : Nat) (old : Value) (xs : List Value) (new : Obj) (L : Array Bool) (x : Nat → Value) (w' : World) : Prop :=
  if L.getD 25 false = true then ∃ g cap w1, OfG (W0.alloc new) N k (W0.heap.size + 1) old xs g cap w1 ∧ w' = w1.setCell ⟨N + 2, 0, none⟩ (.slice (some ⟨g, 0, none⟩) (k + 1) cap)
  else if L.getD 23 false = true then ∃ g cap, x 23 = .slice (some ⟨g, 0, none⟩) (k + 1) cap ∧ OfG (W0.alloc new) N k (W0.heap.size + 1) old xs g cap w'
  else if L.getD 22 false = true then w' = W0.alloc new
  else w' = W0
section
variable {W0 : World} {N k : Nat} {old : Value} {xs : List Value} {new : Obj} {L : Array Bool} {x : Nat → Value} {w' : World}
theorem rep_no (n i : Nat) : ¬ (Array.replicate n false).getD i false = true := by
  rcases Nat.lt_or_ge i n with h | h <;> simp [h]
theorem OfT.start (n : Nat) : OfT W0 N k old xs new (Array.replicate n false) x W0 := by
  unfold OfT
  rw [if_neg (rep_no n 25), if_neg (rep_no n 23), if_neg (rep_no n 22)]
theorem OfT.same {i : Nat} {v : Value} (h22 : i ≠ 22) (h23 : i ≠ 23) (h25 : i ≠ 25) (h : OfT W0 N k old xs new L x w') : OfT W0 N k old xs new (L.setIfInBounds i true) (Inv.upd x i v) w' := by
  have e : Inv.upd x i v 23 = x 23 := by simp only [Inv.upd]; rw [if_neg (Ne.symm h23)]
  unfold OfT at *
  rw [Inv.getD_set_far h25, Inv.getD_set_far h23, Inv.getD_set_far h22, e]
  exact h
theorem no_of {b : Bool} (h : b = false) : ¬ b = true := by rw [h]; decide
theorem OfT.at0 (h : OfT W0 N k old xs new L x w') (h25 : L.getD 25 false = false) (h23 : L.getD 23 false = false) (h22 : L.getD 22 false = false) : w' = W0 := by
  unfold OfT at h
  rwa [if_neg (no_of h25), if_neg (no_of h23), if_neg (no_of h22)] at h
theorem OfT.at1 (h : OfT W0 N k old xs new L x w') (h25 : L.getD 25 false = false) (h23 : L.getD 23 false = false) (h22 : L.getD 22 false = true) : w' = W0.alloc new := by
  unfold OfT at h
  rwa [if_neg (no_of h25), if_neg (no_of h23), if_pos h22] at h
theorem OfT.at2 (h : OfT W0 N k old xs new L x w') (h25 : L.getD 25 false = false) (h23 : L.getD 23 false = true) : ∃ g cap, x 23 = .slice (some ⟨g, 0, none⟩) (k + 1) cap ∧ OfG (W0.alloc new) N k (W0.heap.size + 1) old xs g cap w' := by
  unfold OfT at h
  rwa [if_neg (no_of h25), if_pos h23] at h
theorem OfT.at3 (h : OfT W0 N k old xs new L x w') (h25 : L.getD 25 false = true) : ∃ g cap w1, OfG (W0.alloc new) N k (W0.heap.size + 1) old xs g cap w1 ∧ w' = w1.setCell ⟨N + 2, 0, none⟩ (.slice (some ⟨g, 0, none⟩) (k + 1) cap) := by
  unfold OfT at h
  rwa [if_pos h25] at h
theorem OfT.mk1 {v : Value} (hs : 22 < L.size) (h25 : L.getD 25 false = false) (h23 : L.getD 23 false = false) : OfT W0 N k old xs new (L.setIfInBounds 22 true) (Inv.upd x 22 v) (W0.alloc new) := by
  unfold OfT
  rw [Inv.getD_set_far (by decide), Inv.getD_set_far (by decide), Inv.getD_set_here hs, if_neg (no_of h25), if_neg (no_of h23), if_pos rfl]
theorem OfT.mk2 {g cap : Nat} (hs : 23 < L.size) (h25 : L.getD 25 false = false) (h : OfG (W0.alloc new) N k (W0.heap.size + 1) old xs g cap w') : OfT W0 N k old xs new (L.setIfInBounds 23 true) (Inv.upd x 23 (.slice (some ⟨g, 0, none⟩) (k + 1) cap)) w' := by
  unfold OfT
  rw [Inv.getD_set_far (by decide), Inv.getD_set_here hs, if_neg (no_of h25), if_pos rfl]
  exact ⟨g, cap, by simp [Inv.upd], h⟩
theorem OfT.mk3 {g cap : Nat} {v : Value} (hs : 25 < L.size) (h : OfG (W0.alloc new) N k (W0.heap.size + 1) old xs g cap w') : OfT W0 N k old xs new (L.setIfInBounds 25 true) (Inv.upd x 25 v) (w'.setCell ⟨N + 2, 0, none⟩ (.slice (some ⟨g, 0, none⟩) (k + 1) cap)) := by
  unfold OfT
  rw [Inv.getD_set_here hs, if_pos rfl]
  exact ⟨g, cap, w', h, rfl⟩
theorem OfT.cells {b o R : Nat} {sl : Value} {y : Bk} (hW : SOf N b o k R sl y W0) (hc : W0.cell? ⟨N + 2, 0, none⟩ = some old) (hf : W0.frozen? ⟨N + 2, 0, none⟩ = false) (hown : ∀ g, old.ownBlock = some g → N + 3 ≤ g ∧ g < R) (hb : b < N) (hR : N + 3 ≤ R)
    (h : OfT W0 N k old xs new L x w') (h25 : L.getD 25 false = false) : SOf N b o k R sl y w' ∧ w'.cell? ⟨N + 2, 0, none⟩ = some old ∧ w'.frozen? ⟨N + 2, 0, none⟩ = false := by
  have hlt : N + 2 < W0.heap.size := World.block_lt_of_cell? W0 _ hc
  have h1 : SOf N b o k R sl y (W0.alloc new) ∧ (W0.alloc new).cell? ⟨N + 2, 0, none⟩ = some old ∧ (W0.alloc new).frozen? ⟨N + 2, 0, none⟩ = false :=
    ⟨hW.alloc new, ((says_box (w := W0) (o := new)).cell (p := ⟨N + 2, 0, none⟩) hlt).trans hc, ((says_box (w := W0) (o := new)).frozen (p := ⟨N + 2, 0, none⟩) hlt).trans hf⟩
  cases h23 : L.getD 23 false
  · cases h22 : L.getD 22 false
    · rw [h.at0 h25 h23 h22]; exact ⟨hW, hc, hf⟩
    · rw [h.at1 h25 h23 h22]; exact h1
  · obtain ⟨g, cap, _, _, hg, _, _⟩ := h.at2 h25 h23
    have hlt1 : N + 2 < (W0.alloc new).heap.size := by simp; omega
    have hne : some (N + 2) ≠ old.ownBlock := fun e => by have := hown _ e.symm; omega
    exact ⟨h1.1.grown hg (fun e => by have := (hown _ e.symm).1; omega) (fun e => by have := (hown _ e.symm).1; omega) (fun e => by have := (hown _ e.symm).2; omega),
      (hg.cell_far ⟨N + 2, 0, none⟩ hlt1 hne).trans h1.2.1, (hg.frozen_far ⟨N + 2, 0, none⟩ hlt1 hne).trans h1.2.2⟩
end

def OfF (N b o k R nb cb : Nat) (sl : Value) (xc xi xm xg xp xd xw : Int) : Nat → Value → Prop
  | 0, v => v = .pointer (some ⟨N + 2, 0, none⟩)
  | 1, v => v = sl
  | 2, v => v = .pointer (some ⟨N, 0, none⟩)
  | 3, v => v = .slice (some ⟨b, o, none⟩) nb cb
  | 4, v => v = .int .i64 k
  | 5, v => v = .pointer (some ⟨b, o + k * 7, none⟩)
  | 6, v => v = .pointer (some ⟨b, o + k * 7, none⟩)
  | 7, v => v = .int .i64 xc
  | 8, v => v = .pointer (some ⟨R, 0, none⟩)
  | 9, v => v = .int .i64 xi
  | 10, v => v = .pointer (some ⟨R, 1, none⟩)
  | 11, v => v = .int .i64 xm
  | 12, v => v = .pointer (some ⟨R, 2, none⟩)
  | 13, v => v = .int .i64 xg
  | 14, v => v = .pointer (some ⟨R, 3, none⟩)
  | 15, v => v = .int .i64 xp
  | 16, v => v = .pointer (some ⟨R, 4, none⟩)
  | 17, v => v = .int .i64 xd
  | 18, v => v = .pointer (some ⟨R, 5, none⟩)
  | 19, v => v = .int .i64 xw
  | 20, v => v = .agg #[.int .i64 xi, .int .i64 xm, .int .i64 xg, .int .i64 xp, .int .i64 xd, .int .i64 xw]
  | 21, v => v = .agg #[.int .i64 xc, .int .i64 xi, .int .i64 xm, .int .i64 xg, .int .i64 xp, .int .i64 xd, .int .i64 xw]
  | 22, v => v = .slice (some ⟨R + 1, 0, none⟩) 1 1
  | 24, v => v = .pointer (some ⟨N + 2, 0, none⟩)
  | _, _ => True

/-- what 'of' answers -/
def OfSays (w : World) (v : V) (e : Ending) (w' : World) : Prop := ∃ A cb, e = .returned (V.val ⟨A, cb, v.O, v.co, v.c⟩) ∧ V.In w' ⟨A, cb, v.O, v.co, v.c⟩ ∧ Below w.heap.size w w'

set_option maxRecDepth 100000 in
set_option maxHeartbeats 3200000 in
theorem of_conf (v : V) (hn : v.c.banks.length ≤ 1000) (w : World) (hin : V.In w v) : Calls Try.prog 13 #[v.val] w (OfSays w v) := by
  obtain ⟨i0, hi, hz0, hz1, hz2⟩ := info_parts info_refB
  have HS := Lib.hid hin.bs
  have HI := Lib.hid hin
  have HJ0 : ∀ W : World, W = (((w.alloc (.cells v.arr 25)).alloc (.cells vz.arr 31)).alloc (.cells (vk v none 0 0).arr 31)) → OfJ w W v 0 := by
    intro W hW
    subst hW
    refine ⟨by simp, below_mono says_box (below_mono says_box says_box), ((CBox.new w v _).next says_box).next says_box, ?_, ?_, none, 0, ⟨rfl, .inl ⟨rfl, rfl⟩⟩, ?_, ?_⟩
    · have := (CBox.new (w.alloc (.cells v.arr 25)) vz 31).next (says_box (o := .cells (vk v none 0 0).arr 31))
      rwa [World.size_alloc] at this
    · have := (Fr.new (w.alloc (.cells v.arr 25)) vz.arr 31).kept ((says_box (o := .cells (vk v none 0 0).arr 31)).block (w.alloc (.cells v.arr 25)).heap.size (by simp))
      rwa [World.size_alloc] at this
    · have := CBox.new ((w.alloc (.cells v.arr 25)).alloc (.cells vz.arr 31)) (vk v none 0 0) 31
      rwa [World.size_alloc, World.size_alloc] at this
    · have := Fr.new ((w.alloc (.cells v.arr 25)).alloc (.cells vz.arr 31)) (vk v none 0 0).arr 31
      rwa [World.size_alloc, World.size_alloc] at this
  have HJ := Lib.hid HJ0
  clear HJ0 hin
  obtain ⟨A, cb, O, co, ⟨banks, floors, home, order, speed, width, dwell, good, dead, lag, turn, cost, full⟩⟩ := v
  obtain ⟨nb, hnb⟩ : ∃ n, banks.length = n := ⟨_, rfl⟩
  simp only [V.val, V.arr] at *
  rw [hnb] at hn ⊢
  have HN := Lib.hid hnb
  clear hnb
  go_enter Try.func13, Try.ntmps13
  go_wp2
  go_loopw [4] (fun i wr => ∃ k : Nat, k ≤ nb ∧ i = .int .i64 k ∧ OfJ w wr ⟨A, cb, O, co, ⟨banks, floors, home, order, speed, width, dwell, good, dead, lag, turn, cost, full⟩⟩ k) (fun i _ => nb - (intOf i).toNat)
  case atStart =>
    refine ⟨0, Nat.zero_le _, rfl, ?_⟩
    apply HJ.out
    rw [HN.out]
    rfl
  case round =>
    obtain ⟨k, hk, rfl, hj⟩ := hrel
    by_cases hlt : k < nb
    · obtain ⟨x, hx⟩ := at_bank banks k (by rw [HN.out]; exact hlt)
      obtain ⟨b, o, rfl, hbB, hc0⟩ := sees_bank HS.out hx
      obtain ⟨hsz, hbl, hcb, hrs, hrF, A', cb', hown, hxb, hxF⟩ := hj
      have hc := hc0.next hbl hbB
      obtain ⟨c0, c1, c2, c3, c4, c5, c6⟩ := hc
      have d0 := hcb.c0
      have hkl : (banks.take k).length = k := by rw [List.length_take]; have := HN.out; omega
      have x0 : wr.cell? ⟨w.heap.size + 2, 0, none⟩ = some (.slice A' k cb') := by have := hxb.c0; simp only [vk] at this; rwa [hkl] at this
      have xf := hxF 0
      have hbW : b ≠ w.heap.size := by omega
      have hgl := hown.lt
      simp only at d0
      rw [HN.out] at d0
      have hS0 : SOf w.heap.size b o k wr.heap.size (.slice (some ⟨b, o, none⟩) nb cb) x (wr.alloc (.cells #[.int .i64 x.r.idle, .int .i64 x.r.move, .int .i64 x.r.gain, .int .i64 x.r.pull, .int .i64 x.r.door, .int .i64 x.r.weight] 41)).drew := by
        have hlt1 : w.heap.size < wr.heap.size := by omega
        have hlt2 : b < wr.heap.size := by omega
        exact ⟨(World.cell?_alloc_past _ _ _ hlt1).trans d0, (World.cell?_alloc_past _ _ _ hlt2).trans c0, (Box.new wr x.r).c0, (Box.new wr x.r).c1, (Box.new wr x.r).c2, (Box.new wr x.r).c3, (Box.new wr x.r).c4, (Box.new wr x.r).c5⟩
      obtain ⟨xc, ⟨xi, xm, xg, xp, xd, xw⟩⟩ := x
      simp only at *
      obtain ⟨W0, hW0⟩ : ∃ W0, (wr.alloc (.cells #[.int .i64 xi, .int .i64 xm, .int .i64 xg, .int .i64 xp, .int .i64 xd, .int .i64 xw] 41)).drew = W0 := ⟨_, rfl⟩
      have hsz2 : w.heap.size + 2 < wr.heap.size := by omega
      have hbl0 : Below wr.heap.size wr W0 := by rw [← hW0]; exact says_box.drew
      have hz0s : W0.heap.size = wr.heap.size + 1 := by rw [← hW0]; show (wr.alloc _).heap.size = _; simp
      have HOW0 : Hid (W0.ownsRow (w.heap.size + 3) 54 7 (.slice A' k cb') k (bRow (banks.take k))) := Lib.hid (by rw [← hW0]; exact (hown.alloc _).drew)
      have hS0' : SOf w.heap.size b o k wr.heap.size (.slice (some ⟨b, o, none⟩) nb cb) ⟨xc, ⟨xi, xm, xg, xp, xd, xw⟩⟩ W0 := by rw [← hW0]; exact hS0
      have hx0' : W0.cell? ⟨w.heap.size + 2, 0, none⟩ = some (.slice A' k cb') := (hbl0.cell (p := ⟨w.heap.size + 2, 0, none⟩) hsz2).trans x0
      have hxf' : W0.frozen? ⟨w.heap.size + 2, 0, none⟩ = false := (hbl0.frozen (p := ⟨w.heap.size + 2, 0, none⟩) hsz2).trans xf
      have HCELL : Hid (∀ L x w', OfT W0 w.heap.size k (.slice A' k cb') (bRow (banks.take k) ++ bCells ⟨xc, ⟨xi, xm, xg, xp, xd, xw⟩⟩) (.cells #[.int .i64 xc, .int .i64 xi, .int .i64 xm, .int .i64 xg, .int .i64 xp, .int .i64 xd, .int .i64 xw] 54) L x w' → L.getD 25 false = false → SOf w.heap.size b o k wr.heap.size (.slice (some ⟨b, o, none⟩) nb cb) ⟨xc, ⟨xi, xm, xg, xp, xd, xw⟩⟩ w' ∧ w'.cell? ⟨w.heap.size + 2, 0, none⟩ = some (.slice A' k cb') ∧ w'.frozen? ⟨w.heap.size + 2, 0, none⟩ = false) :=
        Lib.hid fun L x w' h h25 => OfT.cells hS0' hx0' hxf' hgl hbB hsz h h25
      have HW0 := Lib.hid hW0
      have HZ0 := Lib.hid hz0s
      have HBL0 := Lib.hid hbl0
      have HBL := Lib.hid hbl
      have HCB := Lib.hid hcb
      have HRS := Lib.hid hrs
      have HRF := Lib.hid hrF
      have HXB := Lib.hid hxb
      have HXF := Lib.hid hxF
      have HX := Lib.hid hx
      have HGL := Lib.hid hgl
      have HKL := Lib.hid hkl
      have rk0 : (0 : Int) ≤ (k : Int) := by omega
      have rk1 : (k : Int) < (nb : Int) := by omega
      have HNEW : Hid (∀ (W : World) (t : TypeId), ∀ j u, (bCells ⟨xc, ⟨xi, xm, xg, xp, xd, xw⟩⟩)[j]? = some u → (W.alloc (.cells #[.int .i64 xc, .int .i64 xi, .int .i64 xm, .int .i64 xg, .int .i64 xp, .int .i64 xd, .int .i64 xw] t)).cell? ((⟨W.heap.size, 0, none⟩ : Addr).add j) = some u) := Lib.hid fun W t => bCells_new W _ t
      have HNE : Hid (∀ u ∈ bCells ⟨xc, ⟨xi, xm, xg, xp, xd, xw⟩⟩, u.oneCell' = true) := Lib.hid (fun u h => bRow_one [⟨xc, ⟨xi, xm, xg, xp, xd, xw⟩⟩] u (by simpa [bRow] using h))
      clear hown hbl hcb hrs hrF hxb hxF hx hgl hS0 hc0 hkl hS0' hx0' hxf' hbl0 hz0s hW0
      go_wp2
      refine Inv.wp_region_stage (OfF w.heap.size b o k wr.heap.size nb cb (.slice A' k cb') xc xi xm xg xp xd xw) (OfT W0 w.heap.size k (.slice A' k cb') (bRow (banks.take k) ++ bCells ⟨xc, ⟨xi, xm, xg, xp, xd, xw⟩⟩) (.cells #[.int .i64 xc, .int .i64 xi, .int .i64 xm, .int .i64 xg, .int .i64 xp, .int .i64 xd, .int .i64 xw] 54)) (by kernel_rfl) (by kernel_rfl) (by kernel_rfl) (fun x => by rw [HW0.out]; exact OfT.start _) ?_ ?_
      · intro i o' L x W K ho hLs hC hun hd hdone hT hK
        match i, ho with
        | 0, ho =>
          obtain rfl := Option.some.inj ho
          have h25 : L.getD 25 false = false := by
            cases h : L.getD 25 false
            · rfl
            · have := hC 25 _ rfl h ⟨0, .phase⟩ (by simp) rfl
              rw [hun] at this; cases this
          obtain ⟨hS, hx0, hxf⟩ := HCELL.out _ _ _ hT h25
          obtain ⟨s0, s1, s2, s3, s4, s5, s6, s7⟩ := hS
          simp only [Inv.fill, Act.put, List.setIfInBounds_toArray, List.set_cons_zero, List.set_cons_succ] at hK ⊢
          clear hd ho hdone
          rw [wpOp]
          refine (if_pos rfl).mpr (.inl ?_)
          go_simp
          exact hK _ _ rfl (OfT.same (by decide) (by decide) (by decide) hT)
        | 1, ho =>
          obtain rfl := Option.some.inj ho
          have h25 : L.getD 25 false = false := by
            cases h : L.getD 25 false
            · rfl
            · have := hC 25 _ rfl h ⟨1, .phase⟩ (by simp) rfl
              rw [hun] at this; cases this
          obtain ⟨hS, hx0, hxf⟩ := HCELL.out _ _ _ hT h25
          obtain ⟨s0, s1, s2, s3, s4, s5, s6, s7⟩ := hS
          have e0 : x 0 = .pointer (some ⟨w.heap.size + 2, 0, none⟩) := (hd ⟨0, .data⟩ (by simp) rfl).2
          simp only [Inv.fill, Act.put, List.setIfInBounds_toArray, List.set_cons_zero, List.set_cons_succ, e0] at hK ⊢
          clear hd ho hdone e0
          rw [wpOp]
          refine (if_pos rfl).mpr (.inl ?_)
          go_simp
          exact hK _ _ rfl (OfT.same (by decide) (by decide) (by decide) hT)
        | 2, ho =>
          obtain rfl := Option.some.inj ho
          have h25 : L.getD 25 false = false := by
            cases h : L.getD 25 false
            · rfl
            · have := hC 25 _ rfl h ⟨2, .phase⟩ (by simp) rfl
              rw [hun] at this; cases this
          obtain ⟨hS, hx0, hxf⟩ := HCELL.out _ _ _ hT h25
          obtain ⟨s0, s1, s2, s3, s4, s5, s6, s7⟩ := hS
          simp only [Inv.fill, Act.put, List.setIfInBounds_toArray, List.set_cons_zero, List.set_cons_succ] at hK ⊢
          clear hd ho hdone
          rw [wpOp]
          refine (if_pos rfl).mpr (.inl ?_)
          go_simp
          exact hK _ _ rfl (OfT.same (by decide) (by decide) (by decide) hT)
        | 3, ho =>
          obtain rfl := Option.some.inj ho
          have h25 : L.getD 25 false = false := by
            cases h : L.getD 25 false
            · rfl
            · have := hC 25 _ rfl h ⟨3, .phase⟩ (by simp) rfl
              rw [hun] at this; cases this
          obtain ⟨hS, hx0, hxf⟩ := HCELL.out _ _ _ hT h25
          obtain ⟨s0, s1, s2, s3, s4, s5, s6, s7⟩ := hS
          have e2 : x 2 = .pointer (some ⟨w.heap.size, 0, none⟩) := (hd ⟨2, .data⟩ (by simp) rfl).2
          simp only [Inv.fill, Act.put, List.setIfInBounds_toArray, List.set_cons_zero, List.set_cons_succ, e2] at hK ⊢
          clear hd ho hdone e2
          rw [wpOp]
          refine (if_pos rfl).mpr (.inl ?_)
          go_simp
          exact hK _ _ rfl (OfT.same (by decide) (by decide) (by decide) hT)
        | 4, ho =>
          obtain rfl := Option.some.inj ho
          have h25 : L.getD 25 false = false := by
            cases h : L.getD 25 false
            · rfl
            · have := hC 25 _ rfl h ⟨4, .phase⟩ (by simp) rfl
              rw [hun] at this; cases this
          obtain ⟨hS, hx0, hxf⟩ := HCELL.out _ _ _ hT h25
          obtain ⟨s0, s1, s2, s3, s4, s5, s6, s7⟩ := hS
          simp only [Inv.fill, Act.put, List.setIfInBounds_toArray, List.set_cons_zero, List.set_cons_succ] at hK ⊢
          clear hd ho hdone
          rw [wpOp]
          refine (if_pos rfl).mpr (.inl ?_)
          go_simp
          exact hK _ _ rfl (OfT.same (by decide) (by decide) (by decide) hT)
        | 5, ho =>
          obtain rfl := Option.some.inj ho
          have h25 : L.getD 25 false = false := by
            cases h : L.getD 25 false
            · rfl
            · have := hC 25 _ rfl h ⟨5, .phase⟩ (by simp) rfl
              rw [hun] at this; cases this
          obtain ⟨hS, hx0, hxf⟩ := HCELL.out _ _ _ hT h25
          obtain ⟨s0, s1, s2, s3, s4, s5, s6, s7⟩ := hS
          have e3 : x 3 = .slice (some ⟨b, o, none⟩) nb cb := (hd ⟨3, .data⟩ (by simp) rfl).2
          have e4 : x 4 = .int .i64 k := (hd ⟨4, .data⟩ (by simp) rfl).2
          simp only [Inv.fill, Act.put, List.setIfInBounds_toArray, List.set_cons_zero, List.set_cons_succ, e3, e4] at hK ⊢
          clear hd ho hdone e3 e4
          rw [wpOp]
          refine (if_pos rfl).mpr (.inl ?_)
          go_simp
          exact hK _ _ rfl (OfT.same (by decide) (by decide) (by decide) hT)
        | 6, ho =>
          obtain rfl := Option.some.inj ho
          have h25 : L.getD 25 false = false := by
            cases h : L.getD 25 false
            · rfl
            · have := hC 25 _ rfl h ⟨6, .phase⟩ (by simp) rfl
              rw [hun] at this; cases this
          obtain ⟨hS, hx0, hxf⟩ := HCELL.out _ _ _ hT h25
          obtain ⟨s0, s1, s2, s3, s4, s5, s6, s7⟩ := hS
          have e5 : x 5 = .pointer (some ⟨b, o + k * 7, none⟩) := (hd ⟨5, .data⟩ (by simp) rfl).2
          simp only [Inv.fill, Act.put, List.setIfInBounds_toArray, List.set_cons_zero, List.set_cons_succ, e5] at hK ⊢
          clear hd ho hdone e5
          rw [wpOp]
          refine (if_pos rfl).mpr (.inl ?_)
          go_simp
          exact hK _ _ rfl (OfT.same (by decide) (by decide) (by decide) hT)
        | 7, ho =>
          obtain rfl := Option.some.inj ho
          have h25 : L.getD 25 false = false := by
            cases h : L.getD 25 false
            · rfl
            · have := hC 25 _ rfl h ⟨7, .phase⟩ (by simp) rfl
              rw [hun] at this; cases this
          obtain ⟨hS, hx0, hxf⟩ := HCELL.out _ _ _ hT h25
          obtain ⟨s0, s1, s2, s3, s4, s5, s6, s7⟩ := hS
          have e6 : x 6 = .pointer (some ⟨b, o + k * 7, none⟩) := (hd ⟨6, .data⟩ (by simp) rfl).2
          simp only [Inv.fill, Act.put, List.setIfInBounds_toArray, List.set_cons_zero, List.set_cons_succ, e6] at hK ⊢
          clear hd ho hdone e6
          rw [wpOp]
          refine (if_pos rfl).mpr (.inl ?_)
          go_simp
          exact hK _ _ rfl (OfT.same (by decide) (by decide) (by decide) hT)
        | 8, ho =>
          obtain rfl := Option.some.inj ho
          have h25 : L.getD 25 false = false := by
            cases h : L.getD 25 false
            · rfl
            · have := hC 25 _ rfl h ⟨8, .phase⟩ (by simp) rfl
              rw [hun] at this; cases this
          obtain ⟨hS, hx0, hxf⟩ := HCELL.out _ _ _ hT h25
          obtain ⟨s0, s1, s2, s3, s4, s5, s6, s7⟩ := hS
          simp only [Inv.fill, Act.put, List.setIfInBounds_toArray, List.set_cons_zero, List.set_cons_succ] at hK ⊢
          clear hd ho hdone
          rw [wpOp]
          refine (if_pos rfl).mpr (.inl ?_)
          go_simp
          exact hK _ _ rfl (OfT.same (by decide) (by decide) (by decide) hT)
        | 9, ho =>
          obtain rfl := Option.some.inj ho
          have h25 : L.getD 25 false = false := by
            cases h : L.getD 25 false
            · rfl
            · have := hC 25 _ rfl h ⟨9, .phase⟩ (by simp) rfl
              rw [hun] at this; cases this
          obtain ⟨hS, hx0, hxf⟩ := HCELL.out _ _ _ hT h25
          obtain ⟨s0, s1, s2, s3, s4, s5, s6, s7⟩ := hS
          have e8 : x 8 = .pointer (some ⟨wr.heap.size, 0, none⟩) := (hd ⟨8, .data⟩ (by simp) rfl).2
          simp only [Inv.fill, Act.put, List.setIfInBounds_toArray, List.set_cons_zero, List.set_cons_succ, e8] at hK ⊢
          clear hd ho hdone e8
          rw [wpOp]
          refine (if_pos rfl).mpr (.inl ?_)
          go_simp
          exact hK _ _ rfl (OfT.same (by decide) (by decide) (by decide) hT)
        | 10, ho =>
          obtain rfl := Option.some.inj ho
          have h25 : L.getD 25 false = false := by
            cases h : L.getD 25 false
            · rfl
            · have := hC 25 _ rfl h ⟨10, .phase⟩ (by simp) rfl
              rw [hun] at this; cases this
          obtain ⟨hS, hx0, hxf⟩ := HCELL.out _ _ _ hT h25
          obtain ⟨s0, s1, s2, s3, s4, s5, s6, s7⟩ := hS
          simp only [Inv.fill, Act.put, List.setIfInBounds_toArray, List.set_cons_zero, List.set_cons_succ] at hK ⊢
          clear hd ho hdone
          rw [wpOp]
          refine (if_pos rfl).mpr (.inl ?_)
          go_simp
          exact hK _ _ rfl (OfT.same (by decide) (by decide) (by decide) hT)
        | 11, ho =>
          obtain rfl := Option.some.inj ho
          have h25 : L.getD 25 false = false := by
            cases h : L.getD 25 false
            · rfl
            · have := hC 25 _ rfl h ⟨11, .phase⟩ (by simp) rfl
              rw [hun] at this; cases this
          obtain ⟨hS, hx0, hxf⟩ := HCELL.out _ _ _ hT h25
          obtain ⟨s0, s1, s2, s3, s4, s5, s6, s7⟩ := hS
          have e10 : x 10 = .pointer (some ⟨wr.heap.size, 1, none⟩) := (hd ⟨10, .data⟩ (by simp) rfl).2
          simp only [Inv.fill, Act.put, List.setIfInBounds_toArray, List.set_cons_zero, List.set_cons_succ, e10] at hK ⊢
          clear hd ho hdone e10
          rw [wpOp]
          refine (if_pos rfl).mpr (.inl ?_)
          go_simp
          exact hK _ _ rfl (OfT.same (by decide) (by decide) (by decide) hT)
        | 12, ho =>
          obtain rfl := Option.some.inj ho
          have h25 : L.getD 25 false = false := by
            cases h : L.getD 25 false
            · rfl
            · have := hC 25 _ rfl h ⟨12, .phase⟩ (by simp) rfl
              rw [hun] at this; cases this
          obtain ⟨hS, hx0, hxf⟩ := HCELL.out _ _ _ hT h25
          obtain ⟨s0, s1, s2, s3, s4, s5, s6, s7⟩ := hS
          simp only [Inv.fill, Act.put, List.setIfInBounds_toArray, List.set_cons_zero, List.set_cons_succ] at hK ⊢
          clear hd ho hdone
          rw [wpOp]
          refine (if_pos rfl).mpr (.inl ?_)
          go_simp
          exact hK _ _ rfl (OfT.same (by decide) (by decide) (by decide) hT)
        | 13, ho =>
          obtain rfl := Option.some.inj ho
          have h25 : L.getD 25 false = false := by
            cases h : L.getD 25 false
            · rfl
            · have := hC 25 _ rfl h ⟨13, .phase⟩ (by simp) rfl
              rw [hun] at this; cases this
          obtain ⟨hS, hx0, hxf⟩ := HCELL.out _ _ _ hT h25
          obtain ⟨s0, s1, s2, s3, s4, s5, s6, s7⟩ := hS
          have e12 : x 12 = .pointer (some ⟨wr.heap.size, 2, none⟩) := (hd ⟨12, .data⟩ (by simp) rfl).2
          simp only [Inv.fill, Act.put, List.setIfInBounds_toArray, List.set_cons_zero, List.set_cons_succ, e12] at hK ⊢
          clear hd ho hdone e12
          rw [wpOp]
          refine (if_pos rfl).mpr (.inl ?_)
          go_simp
          exact hK _ _ rfl (OfT.same (by decide) (by decide) (by decide) hT)
        | 14, ho =>
          obtain rfl := Option.some.inj ho
          have h25 : L.getD 25 false = false := by
            cases h : L.getD 25 false
            · rfl
            · have := hC 25 _ rfl h ⟨14, .phase⟩ (by simp) rfl
              rw [hun] at this; cases this
          obtain ⟨hS, hx0, hxf⟩ := HCELL.out _ _ _ hT h25
          obtain ⟨s0, s1, s2, s3, s4, s5, s6, s7⟩ := hS
          simp only [Inv.fill, Act.put, List.setIfInBounds_toArray, List.set_cons_zero, List.set_cons_succ] at hK ⊢
          clear hd ho hdone
          rw [wpOp]
          refine (if_pos rfl).mpr (.inl ?_)
          go_simp
          exact hK _ _ rfl (OfT.same (by decide) (by decide) (by decide) hT)
        | 15, ho =>
          obtain rfl := Option.some.inj ho
          have h25 : L.getD 25 false = false := by
            cases h : L.getD 25 false
            · rfl
            · have := hC 25 _ rfl h ⟨15, .phase⟩ (by simp) rfl
              rw [hun] at this; cases this
          obtain ⟨hS, hx0, hxf⟩ := HCELL.out _ _ _ hT h25
          obtain ⟨s0, s1, s2, s3, s4, s5, s6, s7⟩ := hS
          have e14 : x 14 = .pointer (some ⟨wr.heap.size, 3, none⟩) := (hd ⟨14, .data⟩ (by simp) rfl).2
          simp only [Inv.fill, Act.put, List.setIfInBounds_toArray, List.set_cons_zero, List.set_cons_succ, e14] at hK ⊢
          clear hd ho hdone e14
          rw [wpOp]
          refine (if_pos rfl).mpr (.inl ?_)
          go_simp
          exact hK _ _ rfl (OfT.same (by decide) (by decide) (by decide) hT)
        | 16, ho =>
          obtain rfl := Option.some.inj ho
          have h25 : L.getD 25 false = false := by
            cases h : L.getD 25 false
            · rfl
            · have := hC 25 _ rfl h ⟨16, .phase⟩ (by simp) rfl
              rw [hun] at this; cases this
          obtain ⟨hS, hx0, hxf⟩ := HCELL.out _ _ _ hT h25
          obtain ⟨s0, s1, s2, s3, s4, s5, s6, s7⟩ := hS
          simp only [Inv.fill, Act.put, List.setIfInBounds_toArray, List.set_cons_zero, List.set_cons_succ] at hK ⊢
          clear hd ho hdone
          rw [wpOp]
          refine (if_pos rfl).mpr (.inl ?_)
          go_simp
          exact hK _ _ rfl (OfT.same (by decide) (by decide) (by decide) hT)
        | 17, ho =>
          obtain rfl := Option.some.inj ho
          have h25 : L.getD 25 false = false := by
            cases h : L.getD 25 false
            · rfl
            · have := hC 25 _ rfl h ⟨17, .phase⟩ (by simp) rfl
              rw [hun] at this; cases this
          obtain ⟨hS, hx0, hxf⟩ := HCELL.out _ _ _ hT h25
          obtain ⟨s0, s1, s2, s3, s4, s5, s6, s7⟩ := hS
          have e16 : x 16 = .pointer (some ⟨wr.heap.size, 4, none⟩) := (hd ⟨16, .data⟩ (by simp) rfl).2
          simp only [Inv.fill, Act.put, List.setIfInBounds_toArray, List.set_cons_zero, List.set_cons_succ, e16] at hK ⊢
          clear hd ho hdone e16
          rw [wpOp]
          refine (if_pos rfl).mpr (.inl ?_)
          go_simp
          exact hK _ _ rfl (OfT.same (by decide) (by decide) (by decide) hT)
        | 18, ho =>
          obtain rfl := Option.some.inj ho
          have h25 : L.getD 25 false = false := by
            cases h : L.getD 25 false
            · rfl
            · have := hC 25 _ rfl h ⟨18, .phase⟩ (by simp) rfl
              rw [hun] at this; cases this
          obtain ⟨hS, hx0, hxf⟩ := HCELL.out _ _ _ hT h25
          obtain ⟨s0, s1, s2, s3, s4, s5, s6, s7⟩ := hS
          simp only [Inv.fill, Act.put, List.setIfInBounds_toArray, List.set_cons_zero, List.set_cons_succ] at hK ⊢
          clear hd ho hdone
          rw [wpOp]
          refine (if_pos rfl).mpr (.inl ?_)
          go_simp
          exact hK _ _ rfl (OfT.same (by decide) (by decide) (by decide) hT)
        | 19, ho =>
          obtain rfl := Option.some.inj ho
          have h25 : L.getD 25 false = false := by
            cases h : L.getD 25 false
            · rfl
            · have := hC 25 _ rfl h ⟨19, .phase⟩ (by simp) rfl
              rw [hun] at this; cases this
          obtain ⟨hS, hx0, hxf⟩ := HCELL.out _ _ _ hT h25
          obtain ⟨s0, s1, s2, s3, s4, s5, s6, s7⟩ := hS
          have e18 : x 18 = .pointer (some ⟨wr.heap.size, 5, none⟩) := (hd ⟨18, .data⟩ (by simp) rfl).2
          simp only [Inv.fill, Act.put, List.setIfInBounds_toArray, List.set_cons_zero, List.set_cons_succ, e18] at hK ⊢
          clear hd ho hdone e18
          rw [wpOp]
          refine (if_pos rfl).mpr (.inl ?_)
          go_simp
          exact hK _ _ rfl (OfT.same (by decide) (by decide) (by decide) hT)
        | 20, ho =>
          obtain rfl := Option.some.inj ho
          have h25 : L.getD 25 false = false := by
            cases h : L.getD 25 false
            · rfl
            · have := hC 25 _ rfl h ⟨20, .phase⟩ (by simp) rfl
              rw [hun] at this; cases this
          obtain ⟨hS, hx0, hxf⟩ := HCELL.out _ _ _ hT h25
          obtain ⟨s0, s1, s2, s3, s4, s5, s6, s7⟩ := hS
          have e9 : x 9 = .int .i64 xi := (hd ⟨9, .data⟩ (by simp) rfl).2
          have e11 : x 11 = .int .i64 xm := (hd ⟨11, .data⟩ (by simp) rfl).2
          have e13 : x 13 = .int .i64 xg := (hd ⟨13, .data⟩ (by simp) rfl).2
          have e15 : x 15 = .int .i64 xp := (hd ⟨15, .data⟩ (by simp) rfl).2
          have e17 : x 17 = .int .i64 xd := (hd ⟨17, .data⟩ (by simp) rfl).2
          have e19 : x 19 = .int .i64 xw := (hd ⟨19, .data⟩ (by simp) rfl).2
          simp only [Inv.fill, Act.put, List.setIfInBounds_toArray, List.set_cons_zero, List.set_cons_succ, e9, e11, e13, e15, e17, e19] at hK ⊢
          clear hd ho hdone e9 e11 e13 e15 e17 e19
          rw [wpOp]
          refine (if_pos rfl).mpr (.inl ?_)
          go_simp
          exact hK _ _ rfl (OfT.same (by decide) (by decide) (by decide) hT)
        | 21, ho =>
          obtain rfl := Option.some.inj ho
          have h25 : L.getD 25 false = false := by
            cases h : L.getD 25 false
            · rfl
            · have := hC 25 _ rfl h ⟨21, .phase⟩ (by simp) rfl
              rw [hun] at this; cases this
          obtain ⟨hS, hx0, hxf⟩ := HCELL.out _ _ _ hT h25
          obtain ⟨s0, s1, s2, s3, s4, s5, s6, s7⟩ := hS
          have e7 : x 7 = .int .i64 xc := (hd ⟨7, .data⟩ (by simp) rfl).2
          have e20 : x 20 = .agg #[.int .i64 xi, .int .i64 xm, .int .i64 xg, .int .i64 xp, .int .i64 xd, .int .i64 xw] := (hd ⟨20, .data⟩ (by simp) rfl).2
          simp only [Inv.fill, Act.put, List.setIfInBounds_toArray, List.set_cons_zero, List.set_cons_succ, e7, e20] at hK ⊢
          clear hd ho hdone e7 e20
          rw [wpOp]
          refine (if_pos rfl).mpr (.inl ?_)
          go_simp
          exact hK _ _ rfl (OfT.same (by decide) (by decide) (by decide) hT)
        | 22, ho =>
          obtain rfl := Option.some.inj ho
          have h25 : L.getD 25 false = false := by
            cases h : L.getD 25 false
            · rfl
            · have := hC 25 _ rfl h ⟨22, .phase⟩ (by simp) rfl
              rw [hun] at this; cases this
          obtain ⟨hS, hx0, hxf⟩ := HCELL.out _ _ _ hT h25
          obtain ⟨s0, s1, s2, s3, s4, s5, s6, s7⟩ := hS
          have e21 : x 21 = .agg #[.int .i64 xc, .int .i64 xi, .int .i64 xm, .int .i64 xg, .int .i64 xp, .int .i64 xd, .int .i64 xw] := (hd ⟨21, .data⟩ (by simp) rfl).2
          have h23 : L.getD 23 false = false := by
            cases h : L.getD 23 false
            · rfl
            · have := hC 23 _ rfl h ⟨22, .data⟩ (by simp) rfl
              rw [hun] at this; cases this
          obtain rfl := OfT.at0 hT h25 h23 hun
          simp only [Inv.fill, Act.put, List.setIfInBounds_toArray, List.set_cons_zero, List.set_cons_succ, e21] at hK ⊢
          clear hd ho hdone e21
          rw [wpOp]
          refine (if_pos rfl).mpr (.inl ?_)
          go_simp
          exact hK _ _ (by rw [HZ0.out]; rfl) (OfT.mk1 (by rw [hLs]; decide) h25 h23)
        | 23, ho =>
          obtain rfl := Option.some.inj ho
          have h25 : L.getD 25 false = false := by
            cases h : L.getD 25 false
            · rfl
            · have := hC 25 _ rfl h ⟨23, .data⟩ (by simp) rfl
              rw [hun] at this; cases this
          obtain ⟨hS, hx0, hxf⟩ := HCELL.out _ _ _ hT h25
          obtain ⟨s0, s1, s2, s3, s4, s5, s6, s7⟩ := hS
          have e1 : x 1 = .slice A' k cb' := (hd ⟨1, .data⟩ (by simp) rfl).2
          have e22 : x 22 = .slice (some ⟨wr.heap.size + 1, 0, none⟩) 1 1 := (hd ⟨22, .data⟩ (by simp) rfl).2
          have h22 : L.getD 22 false = true := (hd ⟨22, .data⟩ (by simp) rfl).1
          obtain rfl := OfT.at1 hT h25 hun h22
          simp only [Inv.fill, Act.put, List.setIfInBounds_toArray, List.set_cons_zero, List.set_cons_succ, e1, e22] at hK ⊢
          clear hd ho hdone e1 e22
          rw [wpOp]
          refine (if_pos rfl).mpr (.inl ?_)
          refine wp_append_lies _ _ _ 29 rfl (w.heap.size + 3) 54 i0 _ 7 56 Try.underlying29 hi hz0 hz1 hz2 rfl (by decide) (.slice A' k cb') k (bRow (banks.take k)) rfl (HOW0.out.alloc _) ⟨wr.heap.size + 1, 0, none⟩ 1 1 (bCells ⟨xc, ⟨xi, xm, xg, xp, xd, xw⟩⟩) rfl rfl (by rw [← HZ0.out]; exact HNEW.out _ _) HNE.out (by decide) (by unfold maxLen; omega) (by omega) (by have := HZ0.out; simp; omega) _ rfl ?_
          intro g cap w1 hown1 hgrow hat hlt1
          exact hK _ _ trivial (OfT.mk2 (by rw [hLs]; decide) h25 ⟨hown1, hgrow, by simpa using hat, hlt1⟩)
        | 24, ho =>
          obtain rfl := Option.some.inj ho
          have h25 : L.getD 25 false = false := by
            cases h : L.getD 25 false
            · rfl
            · have := hC 25 _ rfl h ⟨24, .data⟩ (by simp) rfl
              rw [hun] at this; cases this
          obtain ⟨hS, hx0, hxf⟩ := HCELL.out _ _ _ hT h25
          obtain ⟨s0, s1, s2, s3, s4, s5, s6, s7⟩ := hS
          simp only [Inv.fill, Act.put, List.setIfInBounds_toArray, List.set_cons_zero, List.set_cons_succ] at hK ⊢
          clear hd ho hdone
          rw [wpOp]
          refine (if_pos rfl).mpr (.inl ?_)
          go_simp
          exact hK _ _ rfl (OfT.same (by decide) (by decide) (by decide) hT)
        | 25, ho =>
          obtain rfl := Option.some.inj ho
          have h25 := hun
          obtain ⟨hS, hx0, hxf⟩ := HCELL.out _ _ _ hT h25
          obtain ⟨s0, s1, s2, s3, s4, s5, s6, s7⟩ := hS
          have e24 : x 24 = .pointer (some ⟨w.heap.size + 2, 0, none⟩) := (hd ⟨24, .data⟩ (by simp) rfl).2
          obtain ⟨g, cap, e23, hG⟩ := OfT.at2 hT h25 (hd ⟨23, .data⟩ (by simp) rfl).1
          simp only [Inv.fill, Act.put, List.setIfInBounds_toArray, List.set_cons_zero, List.set_cons_succ, e24, e23] at hK ⊢
          clear hd ho hdone e24 e23
          rw [wpOp]
          refine (if_pos rfl).mpr (.inl ?_)
          go_simp
          exact hK undef _ trivial (OfT.mk3 (by rw [hLs]; decide) hG)
        | n + 26, ho => simp at ho
      · intro x L W' hall hT hx
        obtain ⟨g, cap, w1, ⟨hown1, hgrow, hat, hlt1⟩, rfl⟩ := hT.at3 (hall 25 (by decide))
        simp only [Inv.fill, Act.put, List.setIfInBounds_toArray, List.set_cons_zero, List.set_cons_succ]
        clear hx hall hT
        have HG := Lib.hid hgrow
        have HO1 := Lib.hid hown1
        have HAT := Lib.hid hat
        clear hgrow hown1 hat
        go_wp2
        go_roundw
        case rel =>
          refine ⟨k + 1, by omega, by go_num, ?_⟩
          have KB : ∀ X, X < wr.heap.size → some X ≠ (Value.slice A' k cb').ownBlock → w1.heap[X]? = wr.heap[X]? := fun X hX hne =>
            (HG.out.block X (by have := HZ0.out; simp; omega) hne).trans ((says_box (w := W0)).block X (by have := HZ0.out; omega) |>.trans (HBL0.out.block X hX))
          have KS : ∀ X, X ≠ w.heap.size + 2 → ∀ u, (w1.setCell ⟨w.heap.size + 2, 0, none⟩ u).heap[X]? = w1.heap[X]? := fun X hX u => Below.heap_setCell w1 _ u X hX
          have hgl := HGL.out
          have n0 : ∀ X, X < w.heap.size + 3 → some X ≠ (Value.slice A' k cb').ownBlock := fun X hX e => by have := (hgl _ e.symm).1; omega
          have hsz1 : wr.heap.size ≤ w1.heap.size := Nat.le_trans (Nat.le_trans HBL0.out.size (says_box (w := W0)).size) HG.out.size
          have hbase : w.heap.size + 3 ≤ g := (HO1.out.lt g rfl).1
          have hbw : Below w.heap.size w w1 := (HBL.out.trans ((HBL0.out.trans (says_box.mono HBL0.out.size)).mono (by have := HBL.out.size; omega))).grown HG.out (by have := HBL.out.size; have := HBL0.out.size; simp; omega) (fun j hj => by have := (hgl j hj).1; omega)
          refine ⟨by simpa [World.setCell] using (Nat.le_trans hsz hsz1), hbw.setCell (by show w.heap.size ≤ w.heap.size + 2; omega) _, HCB.out.kept ((KS _ (by omega) _).trans (KB _ (by omega) (n0 _ (by omega)))), HRS.out.kept ((KS _ (by omega) _).trans (KB _ (by omega) (n0 _ (by omega)))), HRF.out.kept ((KS _ (by omega) _).trans (KB _ (by omega) (n0 _ (by omega)))), some ⟨g, 0, none⟩, cap, ?_, ?_, ?_⟩
          · have e : bRow (banks.take (k + 1)) = bRow (banks.take k) ++ bCells ⟨xc, ⟨xi, xm, xg, xp, xd, xw⟩⟩ := by
              rw [List.take_add_one, HX.out, bRow_append]
              simp [bRow]
            show World.ownsRow _ _ _ _ _ _ (bRow (banks.take (k + 1)))
            rw [e]
            exact own_kept7 HO1.out (fun j hj => KS j (by have : j = g := (by simpa [Value.ownBlock] using hj.symm); omega) _)
          · have hb2 := KB (w.heap.size + 2) hsz2 (n0 _ (by omega))
            have hx1 := HXB.out.kept hb2
            have hl1 : (banks.take (k + 1)).length = k + 1 := by rw [List.length_take]; have := HN.out; omega
            have sf : ∀ o u, 0 ≠ o → (w1.setCell ⟨w.heap.size + 2, 0, none⟩ u).cell? ⟨w.heap.size + 2, o, none⟩ = w1.cell? ⟨w.heap.size + 2, o, none⟩ := fun o u ho => set_far w1 _ 0 o u ho
            refine ⟨?_, (sf _ _ (by decide)).trans hx1.c1, (sf _ _ (by decide)).trans hx1.c2, (sf _ _ (by decide)).trans hx1.c3, (sf _ _ (by decide)).trans hx1.c4, (sf _ _ (by decide)).trans hx1.c5, (sf _ _ (by decide)).trans hx1.c6, (sf _ _ (by decide)).trans hx1.c7, (sf _ _ (by decide)).trans hx1.c8, (sf _ _ (by decide)).trans hx1.c9, (sf _ _ (by decide)).trans hx1.c10, (sf _ _ (by decide)).trans hx1.c11, (sf _ _ (by decide)).trans hx1.c12⟩
            show World.cell? _ _ = some (.slice (some ⟨g, 0, none⟩) (banks.take (k + 1)).length cap)
            rw [hl1]
            exact World.cell?_setCell_same _ _ _ hx1.c0
          · intro o'
            show World.frozen? _ _ = false
            rw [set_free]
            exact (HXF.out.kept (KB (w.heap.size + 2) hsz2 (n0 _ (by omega)))) o'
        case measure => simp [intOf]; omega
    · obtain rfl : k = nb := by omega
      obtain ⟨hsz, hbl, hcb, hrs, hrF, A', cb', hown, hxb, hxF⟩ := hj
      have hT : banks.take k = banks := List.take_of_length_le (by rw [HN.out]; exact Nat.le_refl _)
      have d0 := hcb.c0
      simp only at d0
      rw [HN.out] at d0
      obtain ⟨x0, x1, x2, x3, x4, x5, x6, x7, x8, x9, x10, x11, x12⟩ := hxb
      have hrs0 := hrs
      obtain ⟨r0, r1, r2, r3, r4, r5, r6, r7, r8, r9, r10, r11, r12⟩ := hrs
      simp only [vk, vz, List.length_nil] at x0 x1 x2 x3 x4 x5 x6 x7 x8 x9 x10 x11 x12 r0 r1 r2 r3 r4 r5 r6 r7 r8 r9 r10 r11 r12
      rw [hT, HN.out] at x0
      rw [hT] at hown
      have rf0 := hrF 0
      have rf1 := hrF 1
      have rf2 := hrF 2
      have rf3 := hrF 3
      have rf4 := hrF 4
      have rf5 := hrF 5
      have rf6 := hrF 6
      have rf7 := hrF 7
      have rf8 := hrF 8
      have rf9 := hrF 9
      have rf10 := hrF 10
      have rf11 := hrF 11
      have rf12 := hrF 12
      have HOWN := Lib.hid hown
      have HBL := Lib.hid hbl
      clear hown hbl hcb hrF hxF hT
      have HRES := Lib.hid hrs0
      clear hrs0
      go_wp2
      generalize hW' : (World.setCell _ ⟨w.heap.size + 1, 12, none⟩ _) = W'
      have hW2 : setAll wr (w.heap.size + 1) ⟨A', cb', O, co, ⟨banks, floors, home, order, speed, width, dwell, good, dead, lag, turn, cost, full⟩⟩ = W' := by
        rw [← hW']; unfold setAll; simp only [HN.out]
      clear hW'
      have hk := setAll_far wr (w.heap.size + 1) ⟨A', cb', O, co, ⟨banks, floors, home, order, speed, width, dwell, good, dead, lag, turn, cost, full⟩⟩
      have hcb := setAll_box ⟨A', cb', O, co, ⟨banks, floors, home, order, speed, width, dwell, good, dead, lag, turn, cost, full⟩⟩ HRES.out
      rw [hW2] at hk hcb
      obtain ⟨y0, y1, y2, y3, y4, y5, y6, y7, y8, y9, y10, y11, y12⟩ := hcb
      simp only at y0 y1 y2 y3 y4 y5 y6 y7 y8 y9 y10 y11 y12
      have hbw : Below w.heap.size w W' := HBL.out.trans (by rw [← hW2]; exact setAll_below wr (w.heap.size + 1) _ (by omega))
      have hsz' : wr.heap.size ≤ W'.heap.size := by rw [← hW2]; exact (setAll_below wr (w.heap.size + 1) _ (Nat.le_refl _)).size
      refine bodyPost_ret (v := .agg #[.slice A' banks.length cb', .int .i64 floors, .int .i64 home, .slice O order.length co, .int .i64 speed, .int .i64 width, .int .i64 dwell, .int .i64 good, .int .i64 dead, .int .i64 lag, .int .i64 turn, .int .i64 cost, .int .i64 full]) (by simp [results, Try.results13, go_sem, y0, y1, y2, y3, y4, y5, y6, y7, y8, y9, y10, y11, y12]) rfl ⟨A', cb', rfl, ⟨?_, ?_, ?_, ?_⟩, hbw⟩
      · have hs := sees_own7 (own_kept7 HOWN.out (fun j hj => hk j (by have := (HOWN.out.lt j hj).1; omega)))
        exact hs
      · exact ((HI.out.os).below hbw (Nat.le_refl _)).more hbw.size
      · exact HI.out.bl
      · exact HI.out.ol

end Go.Proofs.Ytkicijgempccfaa.Con
