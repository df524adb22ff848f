/- The reference's words of a line; a tick's events in memory. -/
import Derived.Test.YthpbcbbiampamaaGreatDoorScrC
import Derived.Test.YthpbcbbiampamaaGreatDoorSees
namespace Go.Proofs.YthpbcbbiampamaaGreatDoor.Scr
open Go.RowKit Go.Proofs.YthpbcbbiampamaaGreatDoor.ScrP Go.Proofs.YthpbcbbiampamaaGreatDoor.Box Go.Proofs.YthpbcbbiampamaaGreatDoor.Held Go.Proofs.YthpbcbbiampamaaGreatDoor.Sees
set_option linter.unusedVariables false
set_option maxRecDepth 100000

theorem info_string : (Tryz.prog.info? 9).map (fun i => (i.zero, i.size, i.bytes)) = some (some (.string ByteArray.empty), 1, 16) := by kernel_rfl
def strs (l : List By) : List Value := l.map fun p => .string (S p)
theorem strs_len (l : List By) : (strs l).length = l.length := by simp [strs]
theorem strs_snoc (l : List By) (x : By) : strs (l ++ [x]) = strs l ++ [.string (S x)] := by simp [strs]
theorem strs_app (l r : List By) : strs (l ++ r) = strs l ++ strs r := by simp [strs]
theorem strs_one (l : List By) : ∀ u ∈ strs l, u.oneCell' = true := by
  intro u hu
  obtain ⟨x, _, rfl⟩ := List.mem_map.1 hu
  rfl
theorem strs_at {l : List By} {j : Nat} {x : By} (h : l[j]? = some x) : (strs l)[j]? = some (.string (S x)) := by simp [strs, h]
/-- what a row of the call's own shows, whatever its elements' size -/
theorem own_formN {w : World} {base size : Nat} {e : TypeId} {v : Value} {n : Nat} {xs : List Value} (h : w.ownsRow base e size v n xs) (hs : 0 < size) :
    ∃ A c, v = .slice A n c ∧ n ≤ c ∧ Sees w w.heap.size A xs ∧ ∀ g, v.ownBlock = some g → base ≤ g ∧ g < w.heap.size := by
  have hl := h.lt
  rcases h.2 with ⟨hv, h0⟩ | ⟨g, cap, cur, hv, hb, hg, hn, _⟩
  · subst hv; subst h0
    have : xs = [] := List.eq_nil_of_length_eq_zero (by have := h.1; simpa using this)
    exact ⟨none, 0, rfl, Nat.le_refl _, .inl this, hl⟩
  · subst hv
    refine ⟨_, cap, rfl, hn, .inr ⟨g, 0, rfl, (Array.getElem?_eq_some_iff.1 hg).1, fun j u hu => ?_⟩, hl⟩
    have := h.cells (g := g) rfl j u hu
    rwa [Addr.add_lit] at this
/-- what a call answers that tells a row in new memory -/
def Rw (w : World) (t : TypeId) (size n : Nat) (xs : List Value) (e : Ending) (w' : World) : Prop := ∃ v, e = .returned v ∧ w'.ownsRow w.heap.size t size v n xs ∧ Below w.heap.size w w'

theorem hdw_len (l : By) : ∀ (p : List By × By), (l.foldl ScrP.step p).1.length ≤ p.1.length + l.length ∧ ((l.foldl ScrP.step p).2).length ≤ p.2.length + l.length := by
  induction l with
  | nil => intro p; exact ⟨Nat.le_refl _, Nat.le_refl _⟩
  | cons c r ih =>
    intro p
    rw [List.foldl_cons, List.length_cons]
    have h := ih (ScrP.step p c)
    have h1 : (ScrP.step p c).1.length ≤ p.1.length + 1 ∧ (ScrP.step p c).2.length ≤ p.2.length + 1 := by
      unfold ScrP.step
      split
      · exact ⟨by simp, Nat.zero_le _⟩
      · exact ⟨Nat.le_succ _, by simp⟩
    exact ⟨by omega, by omega⟩
theorem wk_len (l : By) (j : Nat) : (wk l j).1.length ≤ l.length ∧ (wk l j).2.length ≤ l.length := by
  have := hdw_len (l.take j) ([], [])
  have h2 : (l.take j).length ≤ l.length := by rw [List.length_take]; omega
  unfold wk
  simp only [List.length_nil] at this
  omega

set_option maxHeartbeats 3200000 in
theorem rSplit_any (l : By) (w : World) (hl : l.length ≤ 1000000) : Calls Tryz.prog 29 #[.string (S l)] w (Rw w 9 1 (sp l).length (strs (sp l))) := by
  obtain ⟨i1, hj, hy0, hy1, hy2⟩ := info_parts info_string
  have hsz : (S l).size = l.length := s_size l
  have KI := Lib.hid (fun (i : Nat) (d : UInt8) (h : l[i]? = some d) W => run_idx W l i d h)
  have KM := Lib.hid (fun (i : Nat) (d : UInt8) (h : l[i]? = some d) W => show (Instr.slice 9 (.string (S l)) (some (.int .i64 (i : Int))) (some (.int .i64 ((i : Int) + 1))) none).run Tryz.prog W = .ok (.string (S [d])) W by
    have e0 : (i : Int) + 1 = ((i + 1 : Nat) : Int) := rfl
    rw [e0]
    have hi := (List.getElem?_eq_some_iff.1 h).1
    rw [run_mid W l i (i + 1) (by omega) (by omega)]
    congr 2
    rw [List.drop_eq_getElem_cons hi, show i + 1 - i = 1 by omega]
    obtain ⟨_, h2⟩ := List.getElem?_eq_some_iff.1 h
    rw [h2]; rfl)
  have KW := Lib.hid (fun (j : Nat) (d : UInt8) (h : l[j]? = some d) => wk_succ h)
  have KL := Lib.hid (wk_len l)
  have KA := Lib.hid (wk_all l)
  generalize hN : l.length = N at *
  have HN := Lib.hid hN
  clear hN
  generalize hs : S l = s at *
  clear hs
  go_enter Tryz.func29, Tryz.ntmps29
  go_wp2
  go_loopw [3, 4, 5] (fun o x i wr => ∃ (j : Nat), i = .int .i64 j ∧ j ≤ N ∧ x = .string (S (wk l j).2) ∧ wr.ownsRow w.heap.size 9 1 o (wk l j).1.length (strs (wk l j).1) ∧ Below w.heap.size w wr)
    (fun _ _ i _ => N - (intOf i).toNat)
  case atStart => exact ⟨0, rfl, Nat.zero_le _, rfl, World.ownsRow_nil _ _ _ _, Below.refl _ _⟩
  case round =>
    obtain ⟨j, rfl, hjN, rfl, hown, hbel⟩ := hrel
    have hwsz := hbel.size
    have hkl := KL.out j
    by_cases hlt : j < N
    · obtain ⟨d, hd⟩ : ∃ d, l[j]? = some d := ⟨l[j]'(by have := HN.out; omega), List.getElem?_eq_getElem _⟩
      have kj := KI.out j d hd
      have km := KM.out j d hd
      have hnx := Lib.hid (KW.out j d hd)
      have i1' : (j : Int) < (N : Int) := by omega
      have u7 : IntKind.i64.wrap ((j : Int) + 1) = ((j + 1 : Nat) : Int) := by rw [IntWalk.i64_in _ (by have := HN.out; omega)]; omega
      clear hd
      generalize hp1 : wk l (j + 1) = p1 at *
      have HP1 := Lib.hid hp1
      clear hp1
      generalize wk l j = p at *
      obtain ⟨o, x⟩ := p
      simp only at hown hkl
      by_cases h32 : d = 32
      · subst h32
        have e32 : (((32 : UInt8).toNat : Nat) : Int) = 32 := rfl
        rw [e32] at kj
        have hnx2 : Hid (p1 = (o ++ [x], [])) := Lib.hid (by rw [hnx.out]; unfold ScrP.step; rw [if_pos rfl])
        clear hnx km e32
        generalize hxs : S x = xs at *
        have HXS := Lib.hid hxs
        clear hxs
        go_wp2_with (at_builtin; refine wpList_append_own_at _ rfl (.tmp 16) (.tmp 18) 54 rfl w.heap.size 9 i1 (.string ByteArray.empty) 1 16 Tryz.underlying54 hj hy0 hy1 hy2 rfl (by omega) _ o.length _ rfl (hown.alloc _) ⟨wr.heap.size, 0, none⟩ 1 1 [.string xs] rfl rfl (new_cell _ _ _) (by intro u hu; simp at hu; subst hu; rfl) (by unfold maxLen; omega) (by omega) (by simp; omega) ?_; intro v1 w1 hown1 hg1 _ hat1)
        go_roundw
        case rel =>
          have h2 := hnx2.out
          refine ⟨j + 1, rfl, by omega, by rw [HP1.out, h2]; rfl, ?_, ?_⟩
          · rw [HP1.out, h2]
            simp only
            rw [List.length_append, strs_snoc, HXS.out]
            exact hown1
          · exact (hbel.alloc hwsz _).grown hg1 (by simp; omega) (fun g hg => (hown.lt g hg).1)
        case measure => simp [intOf]; omega
      · have hc2 : ¬ (d.toNat : Int) = 32 := fun h => h32 (UInt8.toNat_inj.1 (by show d.toNat = 32; omega))
        have hnx2 : Hid (p1 = (o, x ++ [d])) := Lib.hid (by rw [hnx.out]; unfold ScrP.step; rw [if_neg h32])
        have ka : ∀ W, (Op.stringOp .add (S x) (S [d])).run Tryz.prog W = .ok (.string (S (x ++ [d]))) W := fun W => run_add W _ _ (by simp; omega)
        clear hnx h32
        generalize hx2 : S (x ++ [d]) = xs2 at *
        have HX2 := Lib.hid hx2
        clear hx2
        generalize S x = xs at *
        generalize S [d] = ds at *
        generalize (d.toNat : Int) = y at *
        go_wp2
        go_roundw
        case rel =>
          have h2 := hnx2.out
          refine ⟨j + 1, rfl, by omega, ?_, ?_, hbel⟩
          · rw [HP1.out, h2, ← HX2.out]
          · rw [HP1.out, h2]
            exact hown
        case measure => simp [intOf]; omega
    · have i1' : ¬ (j : Int) < (N : Int) := by omega
      obtain rfl : j = N := by omega
      have hka := KA.out
      generalize wk l j = p at *
      obtain ⟨o, x⟩ := p
      simp only at hown hkl hka
      have HKA := Lib.hid hka
      clear hka
      generalize hxs : S x = xs at *
      have HXS := Lib.hid hxs
      clear hxs
      go_wp2_with (at_builtin; refine wpList_append_own_at _ rfl (.tmp 27) (.tmp 29) 54 rfl w.heap.size 9 i1 (.string ByteArray.empty) 1 16 Tryz.underlying54 hj hy0 hy1 hy2 rfl (by omega) _ o.length _ rfl (hown.alloc _) ⟨wr.heap.size, 0, none⟩ 1 1 [.string xs] rfl rfl (new_cell _ _ _) (by intro u hu; simp at hu; subst hu; rfl) (by unfold maxLen; omega) (by omega) (by simp; omega) ?_; intro v1 w1 hown1 hg1 _ hat1)
      go_ret
      refine ⟨v1, rfl, ?_, (hbel.alloc hwsz _).grown hg1 (by simp; omega) (fun g hg => (hown.lt g hg).1)⟩
      rw [← HKA.out, List.length_append, strs_snoc, HXS.out]
      exact hown1
end Go.Proofs.YthpbcbbiampamaaGreatDoor.Scr
