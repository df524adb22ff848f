/- While ConfOrders runs: two groups whose orders grow. -/
import Derived.Test.YtkicijgempccfaaConM
import Derived.Test.YtkicijgempccfaaInv3
namespace Go.Proofs.Ytkicijgempccfaa.Con
open Go.RowKit Go.Proofs.Ytkicijgempccfaa.RatP Go.Proofs.Ytkicijgempccfaa.SatP Go.Proofs.Ytkicijgempccfaa.ConP Go.Proofs.Ytkicijgempccfaa.Rat Go.Proofs.Ytkicijgempccfaa.Sees Go.Proofs.Ytkicijgempccfaa.Inv
set_option linter.unusedVariables false

theorem info_int : (Try.prog.info? 3).map (fun i => (i.zero, i.size, i.bytes)) = some (some (.int .i64 0), 1, 8) := by kernel_rfl
def cO (c : C) (l : List Int) : C := { c with order := l }
def vO (v : V) (A : Option Addr) (co : Nat) (l : List Int) : V := ⟨v.A, v.cb, A, co, cO v.c l⟩
theorem mayO (c : C) (l : List Int) (h : once l (cars c.banks) ↔ once c.order (cars c.banks)) : mayC (cO c l) = mayC c := by
  have key : ∀ k, dm (cO c l) k = dm c k := by
    intro k
    match k with
    | 4 => simp only [dm, cO]; exact decide_eq_decide.2 h
    | 0 => rfl
    | 1 => rfl
    | 2 => rfl
    | 3 => rfl
    | 5 => rfl
    | 6 => rfl
    | 7 => rfl
    | 8 => rfl
    | 9 => rfl
    | 10 => rfl
    | 11 => rfl
    | 12 => rfl
    | 13 => rfl
    | n + 14 => rfl
  unfold mayC
  congr 1
  exact funext key
/-- a group in block X whose order is a row of the call's own -/
structure Rw (W : World) (base X : Nat) (v : V) (A : Option Addr) (co : Nat) (l : List Int) : Prop where
  own : W.ownsRow base 3 1 (.slice A l.length co) l.length (nums .i64 l)
  box : CBox W X (vO v A co l)
  fr : Fr W X
theorem Rw.kept {W W' : World} {base X : Nat} {v : V} {A : Option Addr} {co : Nat} {l : List Int} (h : Rw W base X v A co l) (hX : W'.heap[X]? = W.heap[X]?) (ho : ∀ g, (Value.slice A l.length co).ownBlock = some g → W'.heap[g]? = W.heap[g]?) : Rw W' base X v A co l :=
  ⟨own_kept7 h.own ho, h.box.kept hX, h.fr.kept hX⟩
theorem Rw.next {W W' : World} {base X : Nat} {v : V} {A : Option Addr} {co : Nat} {l : List Int} (h : Rw W base X v A co l) (hb : Below W.heap.size W W') : Rw W' base X v A co l :=
  h.kept (hb.block X h.box.lt) (fun g hg => hb.block g (h.own.lt g hg).2)
theorem Rw.inn {w W : World} {base X N : Nat} {v : V} {A : Option Addr} {co : Nat} {l : List Int} (h : Rw W base X v A co l) (k : LJ w W N v) (hl : l.length ≤ 1000) : V.In W (vO v A co l) :=
  ⟨k.inn.bs, Sees.own h.own, k.inn.bl, by show l.length ≤ maxLen; unfold maxLen; omega⟩

section
variable {W0 w1 : World} {new : Obj} {base X : Nat} {v : V} {A : Option Addr} {co : Nat} {l : List Int} {x : Int} {g cap H : Nat}
theorem ap_block (hG : ApG (W0.alloc new) base 3 1 l.length H (.slice A l.length co) (nums .i64 l ++ [.int .i64 x]) g cap w1) (Y : Nat) (hY : Y < W0.heap.size) (hne : some Y ≠ (Value.slice A l.length co).ownBlock) : w1.heap[Y]? = W0.heap[Y]? :=
  (hG.2.1.block Y (by simp; omega) hne).trans ((Con.says_box (w := W0) (o := new)).block Y hY)
theorem Rw.pushed (h : Rw W0 base X v A co l) (hX : X < base) (hb : base ≤ W0.heap.size) (hG : ApG (W0.alloc new) base 3 1 l.length H (.slice A l.length co) (nums .i64 l ++ [.int .i64 x]) g cap w1) :
    Rw (w1.setCell ⟨X, 3, none⟩ (.slice (some ⟨g, 0, none⟩) (l.length + 1) cap)) base X v (some ⟨g, 0, none⟩) cap (l ++ [x]) := by
  have hll : (l ++ [x]).length = l.length + 1 := by simp
  have hge : base ≤ g := (hG.1.lt g rfl).1
  have hne : some X ≠ (Value.slice A l.length co).ownBlock := fun e => by have := (h.own.lt X e.symm).1; omega
  have hk := ap_block hG X h.box.lt hne
  have hx1 := h.box.kept hk
  have sf : ∀ o u, 3 ≠ o → (w1.setCell ⟨X, 3, none⟩ u).cell? ⟨X, o, none⟩ = w1.cell? ⟨X, o, none⟩ := fun o u ho => set_far w1 _ 3 o u ho
  refine ⟨?_, ?_, ?_⟩
  · rw [hll, nums_append]
    exact own_kept7 hG.1 (fun j hj => Below.heap_setCell w1 _ _ j (by have : j = g := (by simpa [Value.ownBlock] using hj.symm); show j ≠ X; omega))
  · refine ⟨(sf _ _ (by decide)).trans hx1.c0, (sf _ _ (by decide)).trans hx1.c1, (sf _ _ (by decide)).trans hx1.c2, ?_, (sf _ _ (by decide)).trans hx1.c4, (sf _ _ (by decide)).trans hx1.c5, (sf _ _ (by decide)).trans hx1.c6, (sf _ _ (by decide)).trans hx1.c7, (sf _ _ (by decide)).trans hx1.c8, (sf _ _ (by decide)).trans hx1.c9, (sf _ _ (by decide)).trans hx1.c10, (sf _ _ (by decide)).trans hx1.c11, (sf _ _ (by decide)).trans hx1.c12⟩
    show World.cell? _ _ = some (.slice (some ⟨g, 0, none⟩) (l ++ [x]).length cap)
    rw [hll]
    exact World.cell?_setCell_same _ _ _ hx1.c3
  · intro o
    show World.frozen? _ _ = false
    rw [set_free]
    exact (h.fr.kept hk) o
theorem Rw.beside {Y : Nat} {A' : Option Addr} {co' : Nat} {l' : List Int} (h : Rw W0 base Y v A' co' l') (hr : Rw W0 base X v A co l) (hX : X < base) (hYX : Y ≠ X) (hYb : Y < base) (hap : Apart (.slice A l.length co) (.slice A' l'.length co')) (hG : ApG (W0.alloc new) base 3 1 l.length H (.slice A l.length co) (nums .i64 l ++ [.int .i64 x]) g cap w1) (u : Value) :
    Rw (w1.setCell ⟨X, 3, none⟩ u) base Y v A' co' l' := by
  refine h.kept ((Below.heap_setCell w1 _ u Y hYX).trans (ap_block hG Y h.box.lt (fun e => by have := (hr.own.lt Y e.symm).1; omega))) (fun j hj => ?_)
  have hjl := h.own.lt j hj
  exact (Below.heap_setCell w1 _ u j (by show j ≠ X; omega)).trans (ap_block hG j hjl.2 (fun e => hap j e.symm hj))
theorem lj_pushed {w : World} {N : Nat} (hin : V.In w v) (h : LJ w W0 N v) (hr : Rw W0 base X v A co l) (hN : N < X) (hw : w.heap.size ≤ X) (hX : X < base) (hb : base ≤ W0.heap.size) (hG : ApG (W0.alloc new) base 3 1 l.length H (.slice A l.length co) (nums .i64 l ++ [.int .i64 x]) g cap w1) (u : Value) :
    LJ w (w1.setCell ⟨X, 3, none⟩ u) N v := by
  have hbel : Below w.heap.size w (w1.setCell ⟨X, 3, none⟩ u) := ((h.below.trans (Con.says_box.mono h.below.size)).grown hG.2.1 (by have := h.below.size; simp; omega) (fun k hk => by have := (hr.own.lt k hk).1; omega)).setCell hw u
  have kb : Below X W0 (w1.setCell ⟨X, 3, none⟩ u) := (((Below.refl X W0).trans (Con.says_box.mono (by omega))).grown hG.2.1 (by simp; omega) (fun k hk => by have := (hr.own.lt k hk).1; omega)).setCell (Nat.le_refl X) u
  exact ⟨hbel, h.box.below kb hN, hin.next hbel⟩

/-- while ConfOrders runs -/
structure OJ (w W : World) (N X : Nat) (v : V) (ld le : List Int) : Prop where
  lj : LJ w W N v
  hN : N < X
  hw : w.heap.size ≤ X
  sz : X + 2 ≤ W.heap.size
  rows : ∃ A c A' c', Rw W (X + 2) X v A c ld ∧ Rw W (X + 2) (X + 1) v A' c' le ∧ Apart (.slice A ld.length c) (.slice A' le.length c')
theorem OJ.next {w W W' : World} {N X : Nat} {v : V} {ld le : List Int} (h : OJ w W N X v ld le) (hb : Below W.heap.size W W') : OJ w W' N X v ld le := by
  obtain ⟨A, c, A', c', h1, h2, h3⟩ := h.rows
  exact ⟨h.lj.next hb, h.hN, h.hw, Nat.le_trans h.sz hb.size, A, c, A', c', h1.next hb, h2.next hb, h3⟩
end
theorem OJ.pushD {w W0 w1 : World} {N X : Nat} {v : V} {ld le : List Int} {new : Obj} {A A' : Option Addr} {c c' : Nat} {x : Int} {g cap : Nat} (hin : V.In w v) (h : LJ w W0 N v) (hN : N < X) (hw : w.heap.size ≤ X) (sz : X + 2 ≤ W0.heap.size)
    (h1 : Rw W0 (X + 2) X v A c ld) (h2 : Rw W0 (X + 2) (X + 1) v A' c' le) (h3 : Apart (.slice A ld.length c) (.slice A' le.length c'))
    (hG : ApG (W0.alloc new) (X + 2) 3 1 ld.length (W0.heap.size + 1) (.slice A ld.length c) (nums .i64 ld ++ [.int .i64 x]) g cap w1) :
    OJ w (w1.setCell ⟨X, 3, none⟩ (.slice (some ⟨g, 0, none⟩) (ld.length + 1) cap)) N X v (ld ++ [x]) le := by
  have hlt := hG.2.2.2
  refine ⟨lj_pushed hin h h1 hN hw (by omega) sz hG _, hN, hw, ?_, some ⟨g, 0, none⟩, cap, A', c', h1.pushed (by omega) sz hG, h2.beside h1 (by omega) (by omega) (by omega) h3 hG _, ?_⟩
  · have := hG.2.1.size
    have e : (W0.alloc new).heap.size = W0.heap.size + 1 := by simp
    simp only [World.setCell, e] at *
    first | omega | (simp; omega)
  · intro g' hg' h'
    have eg : g = g' := by simpa [Value.ownBlock] using hg'
    subst eg
    rcases hG.2.2.1 with e | e
    · exact h3 g e h'
    · have := (h2.own.lt g h').2
      omega
theorem OJ.pushE {w W0 w1 : World} {N X : Nat} {v : V} {ld le : List Int} {new : Obj} {A A' : Option Addr} {c c' : Nat} {x : Int} {g cap : Nat} (hin : V.In w v) (h : LJ w W0 N v) (hN : N < X) (hw : w.heap.size ≤ X) (sz : X + 2 ≤ W0.heap.size)
    (h1 : Rw W0 (X + 2) X v A c ld) (h2 : Rw W0 (X + 2) (X + 1) v A' c' le) (h3 : Apart (.slice A ld.length c) (.slice A' le.length c'))
    (hG : ApG (W0.alloc new) (X + 2) 3 1 le.length (W0.heap.size + 1) (.slice A' le.length c') (nums .i64 le ++ [.int .i64 x]) g cap w1) :
    OJ w (w1.setCell ⟨X + 1, 3, none⟩ (.slice (some ⟨g, 0, none⟩) (le.length + 1) cap)) N X v ld (le ++ [x]) := by
  have hlt := hG.2.2.2
  refine ⟨lj_pushed hin h h2 (by omega) (by omega) (by omega) sz hG _, hN, hw, ?_, A, c, some ⟨g, 0, none⟩, cap, h1.beside h2 (by omega) (by omega) (by omega) h3.symm hG _, h2.pushed (by omega) sz hG, ?_⟩
  · have := hG.2.1.size
    have e : (W0.alloc new).heap.size = W0.heap.size + 1 := by simp
    simp only [World.setCell, e] at *
    first | omega | (simp; omega)
  · intro g' hg' h'
    have eg : g = g' := by simpa [Value.ownBlock] using h'
    subst eg
    rcases hG.2.2.1 with e | e
    · exact h3 g hg' e
    · have := (h1.own.lt g hg').2
      omega

end Go.Proofs.Ytkicijgempccfaa.Con
