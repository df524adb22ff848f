/- As wp_region_build, and the block's type is told. -/
import Derived.Test.YthpbcbbiampamaaGreatDoorHeld
import Derived.Test.YthpbcbbiampamaaGreatDoorTy
namespace Go.Proofs.YthpbcbbiampamaaGreatDoor.Held
open Go Go.RowKit Go.Proofs.YthpbcbbiampamaaGreatDoor.Inv Go.Proofs.YthpbcbbiampamaaGreatDoor.Box Go.Proofs.YthpbcbbiampamaaGreatDoor.Jrn
set_option linter.unusedVariables false
variable {P : Program} {Q : Exit → Act → World → Prop}

theorem any_buildT {a : Act} {W : World} {l : List Oper} (n : Nat) (S : World → Prop) (cs : Array Value) (t : TypeId) (k : Nat) (o : Oper) (d : Tmp) (hS : Closed S) (h0 : S W)
    (hB : headB l n (n + 1) a.tmps.size = true) (hL : looks1B l n (n + 1) n = true) (ho : l[n]? = some o) (hd : o.dst = some d) (hg : o.guard = none)
    (h : ∃ aE, (∀ w1, S w1 → wpQuiet P (l.take n).toArray (fun w' => ∃ i : Ext S w1, w' = i.W) (fun a' => a' = aE) (l.take n) a) ∧
      (∀ w' : World, (execOp aE.eval o).run P w' = .ok (.value (.slice (some ⟨w'.heap.size, 0, none⟩) k k)) (w'.alloc (.cells cs t))) ∧
      ∀ B w', S w' → Below W.heap.size W w' → W.heap.size ≤ B → BxT w' B cs t → wpList P l.toArray Q (l.drop (n + 1)) (aE.put (some d) (.slice (some ⟨B, 0, none⟩) k k)) w') :
    wpAny P .any l.toArray Q l.toArray.size (Array.replicate l.toArray.size false) a { W with drawn := W.drawn + 1 } := by
  obtain ⟨aE, h1, h3, h2⟩ := h
  have hB0 := hB
  simp only [headB, Bool.and_eq_true, decide_eq_true_eq] at hB0
  have hsel := hB0.1.1.1.1.1.1.2
  refine any_head2 aE S n (n + 1) (fun _ v w' => ∃ B, v = .slice (some ⟨B, 0, none⟩) k k ∧ W.heap.size ≤ B ∧ BxT w' B cs t) hS
    (fun k v w w' ⟨B, e, hB, hb⟩ hbl => ⟨B, e, hB, hb.next hbl⟩) h0 hB (fun k p w' a' K hk hk2 hp hs hb hag hK => ?_) ⟨h1, fun x w' hs hb hx => ?_⟩
  · have hkn : k = n := by omega
    subst hkn
    rw [ho] at hp
    injection hp with hp
    subst hp
    unfold wpOp
    have ho' : l.toArray[k]? = some o := by simpa using ho
    simp only [ho']
    have hw : Region.wanted o (yielded l.toArray a'.tmps) = true := by unfold Region.wanted; rw [hg]
    rw [hw, if_pos rfl]
    left
    unfold Oper.wp
    rw [(exec_agree (fun cs b => Region.noSelect_spec hsel k o cs b ho') (hag hL)).1, h3]
    exact hK _ _ below_box ⟨w'.heap.size, rfl, hb.size, BxT.new w' cs t⟩
  · have hlt := (List.getElem?_eq_some_iff.1 ho).1
    have e : (l.take (n + 1)).drop n = [o] := by
      rw [List.drop_take, Nat.add_sub_cancel_left]
      rw [List.drop_eq_getElem_cons hlt]
      have := (List.getElem?_eq_some_iff.1 ho).2
      simp [this]
    obtain ⟨B, hx1, hx2, hx3⟩ := hx n (Nat.le_refl _) (by omega)
    rw [e]
    simp only [fill, hd, hx1]
    exact h2 B w' hs hb hx2 hx3
theorem wp_region_buildT {id : Nat} {a : Act} {W : World} {l : List Oper} (n : Nat) (S : World → Prop) (cs : Array Value) (t : TypeId) (k : Nat) (o : Oper) (d : Tmp) (hS : Closed S) (h0 : S W)
    (hm : P.follows .mixedOrders = true) (hB : headB l n (n + 1) a.tmps.size = true) (hL : looks1B l n (n + 1) n = true) (ho : l[n]? = some o) (hd : o.dst = some d) (hg : o.guard = none)
    (h : ∃ aE, (∀ w1, S w1 → wpQuiet P (l.take n).toArray (fun w' => ∃ i : Ext S w1, w' = i.W) (fun a' => a' = aE) (l.take n) a) ∧
      (∀ w' : World, (execOp aE.eval o).run P w' = .ok (.value (.slice (some ⟨w'.heap.size, 0, none⟩) k k)) (w'.alloc (.cells cs t))) ∧
      ∀ B w', S w' → Below W.heap.size W w' → W.heap.size ≤ B → BxT w' B cs t → wpList P l.toArray Q (l.drop (n + 1)) (aE.put (some d) (.slice (some ⟨B, 0, none⟩) k k)) w') :
    (Code.region id l.toArray true).wp P Q a W :=
  wp_region_any hm (any_buildT n S cs t k o d hS h0 hB hL ho hd hg h)


end Go.Proofs.YthpbcbbiampamaaGreatDoor.Held
