/- ScriptPuts, walked. -/
import Derived.Test.YtjkpmppjnklajaaGreatDoorScrQ
namespace Go.Proofs.YtjkpmppjnklajaaGreatDoor.Scr
open Go.RowKit Go.Maps Go.Proofs.YtjkpmppjnklajaaGreatDoor.ScrP Go.Proofs.YtjkpmppjnklajaaGreatDoor.Box Go.Proofs.YtjkpmppjnklajaaGreatDoor.Held Go.Proofs.YtjkpmppjnklajaaGreatDoor.Sees Go.Proofs.YtjkpmppjnklajaaGreatDoor.Jrn
set_option linter.unusedVariables false
set_option linter.unusedSimpArgs false
set_option maxRecDepth 100000

def PutsF (t : T) (v0 : Value) (s : ByteArray) : Nat → Value → World → Prop
  | 0, vv, _ => vv = v0
  | 1, vv, _ => vv = .string s
  | 2, vv, _ => vv = v0
  | 3, vv, w' => TV vv w' t
  | 4, vv, _ => vv = .string s
  | _, _, _ => True
set_option maxHeartbeats 6400000 in
theorem _root_.Go.Proofs.YtjkpmppjnklajaaGreatDoor.Walk.scriptPuts_walk (w : World) (hE : Env w) (x : Tk) (hx : x.In w) : Calls Tryz.prog 3 #[x.val] w (Says w (.bool true)) := by
  obtain ⟨t, A, c⟩ := x
  obtain ⟨ht, hs⟩ := hx
  obtain ⟨n, hn⟩ : ∃ n, t.es.length = n := ⟨_, rfl⟩
  unfold Tk.val
  simp only at ht hs ⊢
  rw [hn]
  have HN := Lib.hid hn
  have hj0 : Hid (JS w [(w.heap.size, tvc t.m t.g t.cap t.bl A n c)] _) := Lib.hid (J.one w (tvc t.m t.g t.cap t.bl A n c) 25)
  have HA : Hid (∀ W, JS w [(w.heap.size, tvc t.m t.g t.cap t.bl A n c)] W → Calls Tryz.prog 7 #[] W (Says W (.bool true))) := Lib.hid fun W h => awake_any W (hE.next (J.below h))
  have HP : Hid (n ≤ 60 → ∀ W, Below w.heap.size w W → Calls Tryz.prog 8 #[tv t A n c] W (Says W (.string (S (put t))))) := Lib.hid fun h60 W h => Put_any t A n c W ht hn (by omega) ((hs.below h (Nat.le_refl _)).more h.size) (hE.next h)
  have HO : Hid (n ≤ 60 → ∀ W, Below w.heap.size w W → Calls Tryz.prog 10 #[tv t A n c] W (OfP W t)) := Lib.hid fun h60 W h => of_any t A n c W hn (by omega) ((hs.below h (Nat.le_refl _)).more h.size)
  have HR : Hid (n ≤ 60 → ∀ A' c' W, Sees W W.heap.size A' (evc t.es) → Calls Tryz.prog 9 #[tv t A' t.es.length c'] W (Says W (.string (S (put t))))) := Lib.hid fun h60 A' c' W h => rPut_any t A' t.es.length c' W ht rfl (by omega) h
  have htv : tv t A n c = .agg #[.bool t.m, .bool t.g, .int .i64 t.cap, .int .u64 t.bl, .slice A n c] := rfl
  have htc : tvc t.m t.g t.cap t.bl A n c = #[.bool t.m, .bool t.g, .int .i64 t.cap, .int .u64 t.bl, .slice A n c] := rfl
  rw [htv] at HP HO ⊢
  rw [htc] at hj0 HA
  clear hE hs htv htc
  generalize S (put t) = s at *
  generalize t.m = m at *
  generalize t.g = g at *
  generalize t.cap = cp at *
  generalize t.bl = bl at *
  by_cases h60 : n ≤ 60
  · have HP' := Lib.hid (HP.out h60)
    have HO' := Lib.hid (HO.out h60)
    have HR' := Lib.hid (HR.out h60)
    have i1 : ¬ (60 : Int) < (n : Int) := by omega
    clear HP HO HR hn
    go_enter Tryz.func3, Tryz.ntmps3
    go_wp2_with (go_at_call 7; refine (HA.out _ hj0.out).mono ?_; rintro e w1 ⟨rfl, h1⟩; have hj1 : Hid (JS w [(w.heap.size, #[.bool m, .bool g, .int .i64 cp, .int .u64 bl, .slice A n c])] w1) := Lib.hid (J.next hj0.out h1); obtain ⟨c0, c1, c2, c3, c4⟩ := (hj1.out.bx 0 rfl).c5)
    clear hj0 c0 c1 c2 c3 c4
    have HX : Hid (∀ W, Below w1.heap.size w1 W → JS w [(w.heap.size, #[.bool m, .bool g, .int .i64 cp, .int .u64 bl, .slice A n c])] W) := Lib.hid fun W h => J.next hj1.out h
    refine Held.wp_region_invt 5 (PutsF t (.agg #[.bool m, .bool g, .int .i64 cp, .int .u64 bl, .slice A n c]) s) (by kernel_rfl) (by kernel_rfl) ?_ ?_ ?_
    · intro i v W W' h hb
      unfold PutsF at h ⊢
      split at h <;> first | exact h | exact TV.next h hb
    · intro i o x W K hi ho hB hd hK
      have hjx := Lib.hid (HX.out W hB)
      match i, ho with
      | 0, ho =>
        obtain rfl := Option.some.inj ho
        simp only [Inv.fill, Act.put, List.setIfInBounds_toArray, List.set_cons_zero, List.set_cons_succ, List.take_succ_cons, List.take_zero] at hK ⊢
        clear hd ho
        rw [wpOp]
        refine (if_pos rfl).mpr (.inl ?_)
        obtain ⟨c0, c1, c2, c3, c4⟩ := (hjx.out.bx 0 rfl).c5
        go_simp
        exact hK _ _ (Below.refl _ _) rfl
      | 1, ho =>
        obtain rfl := Option.some.inj ho
        have e0 : x 0 = .agg #[.bool m, .bool g, .int .i64 cp, .int .u64 bl, .slice A n c] := hd ⟨0, .data⟩ (by simp) rfl
        simp only [Inv.fill, Act.put, List.setIfInBounds_toArray, List.set_cons_zero, List.set_cons_succ, List.take_succ_cons, List.take_zero, e0] at hK ⊢
        clear hd ho e0
        rw [wpOp]
        refine (if_pos rfl).mpr (.inl ?_)
        have hc := HP'.out W (J.below hjx.out)
        go_simp
        refine hc.mono ?_
        rintro e w2 ⟨rfl, h2⟩
        exact hK _ _ h2 rfl
      | 2, ho =>
        obtain rfl := Option.some.inj ho
        simp only [Inv.fill, Act.put, List.setIfInBounds_toArray, List.set_cons_zero, List.set_cons_succ, List.take_succ_cons, List.take_zero] at hK ⊢
        clear hd ho
        rw [wpOp]
        refine (if_pos rfl).mpr (.inl ?_)
        obtain ⟨c0, c1, c2, c3, c4⟩ := (hjx.out.bx 0 rfl).c5
        go_simp
        exact hK _ _ (Below.refl _ _) rfl
      | 3, ho =>
        obtain rfl := Option.some.inj ho
        have e2 : x 2 = .agg #[.bool m, .bool g, .int .i64 cp, .int .u64 bl, .slice A n c] := hd ⟨2, .data⟩ (by simp) rfl
        simp only [Inv.fill, Act.put, List.setIfInBounds_toArray, List.set_cons_zero, List.set_cons_succ, List.take_succ_cons, List.take_zero, e2] at hK ⊢
        clear hd ho e2
        rw [wpOp]
        refine (if_pos rfl).mpr (.inl ?_)
        have hc := HO'.out W (J.below hjx.out)
        go_simp
        refine hc.mono ?_
        rintro e w2 ⟨A', c', rfl, h2⟩
        exact hK _ _ h2.out.1 ⟨A', c', rfl, h2.out.2.1⟩
      | 4, ho =>
        obtain rfl := Option.some.inj ho
        obtain ⟨A', c', e3, hs3⟩ := (hd ⟨3, .data⟩ (by simp) rfl : TV (x 3) W t)
        simp only [Inv.fill, Act.put, List.setIfInBounds_toArray, List.set_cons_zero, List.set_cons_succ, List.take_succ_cons, List.take_zero, e3] at hK ⊢
        clear hd ho e3
        rw [wpOp]
        refine (if_pos rfl).mpr (.inl ?_)
        have hc := HR'.out A' c' W hs3
        go_simp
        refine hc.mono ?_
        rintro e w2 ⟨rfl, h2⟩
        exact hK _ _ h2 rfl
      | n + 5, ho => exact absurd hi (by omega)
    · intro x W hB hx
      have e1 : x 1 = .string s := hx 1 (by decide)
      have e4 : x 4 = .string s := hx 4 (by decide)
      have hjx := Lib.hid (HX.out W hB)
      simp only [Inv.fill, Act.put, List.setIfInBounds_toArray, List.set_cons_zero, List.set_cons_succ, List.take_succ_cons, List.take_zero, List.drop_succ_cons, List.drop_zero, e1, e4]
      clear hx e1 e4
      change wpList _ _ _ _ _ _
      go_wp2
      go_ret
      exact ⟨rfl, J.below hjx.out⟩
  · have i1 : (60 : Int) < (n : Int) := by omega
    clear HP HO HR hn
    go_enter Tryz.func3, Tryz.ntmps3
    go_wp2_with (go_at_call 7; refine (HA.out _ hj0.out).mono ?_; rintro e w1 ⟨rfl, h1⟩; have hj1 : Hid (JS w [(w.heap.size, #[.bool m, .bool g, .int .i64 cp, .int .u64 bl, .slice A n c])] w1) := Lib.hid (J.next hj0.out h1); obtain ⟨c0, c1, c2, c3, c4⟩ := (hj1.out.bx 0 rfl).c5)
    go_ret
    exact ⟨rfl, J.below hj1.out⟩
end Go.Proofs.YtjkpmppjnklajaaGreatDoor.Scr
