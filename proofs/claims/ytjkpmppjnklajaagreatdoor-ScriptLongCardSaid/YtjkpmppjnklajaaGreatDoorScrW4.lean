/- ScriptLong, walked. -/
import Derived.Test.YtjkpmppjnklajaaGreatDoorScrQ
import Derived.Test.YtjkpmppjnklajaaGreatDoorScrV
import Derived.Deep.OwnRows
import Derived.Laws.IdiomStrings
namespace Go.Proofs.YtjkpmppjnklajaaGreatDoor.Scr
open Go.RowKit Go.Maps Go.Proofs.YtjkpmppjnklajaaGreatDoor.ScrP Go.Proofs.YtjkpmppjnklajaaGreatDoor.Box Go.Proofs.YtjkpmppjnklajaaGreatDoor.Held Go.Proofs.YtjkpmppjnklajaaGreatDoor.Sees Go.Proofs.YtjkpmppjnklajaaGreatDoor.Jrn
set_option linter.unusedVariables false
set_option linter.unusedSimpArgs false
set_option maxRecDepth 100000

theorem info_u8' : (Tryz.prog.info? 5).map (fun i => (i.zero, i.size, i.bytes)) = some (some (.int .u8 0), 1, 1) := by kernel_rfl
def zs (k : Nat) : By := List.replicate k 0
theorem conv_zs (W : World) (k : Nat) : (convert 35 9 (.slice (some ⟨W.heap.size, 0, none⟩) k k)).run Tryz.prog (W.alloc (.cells (madeCells #[.int .u8 0] k) 5)) = .ok (.string (S (zs k))) (W.alloc (.cells (madeCells #[.int .u8 0] k) 5)) := by
  have h := run_convert_bytes_back (P := Tryz.prog) (W.alloc (.cells (madeCells #[.int .u8 0] k) 5)) 35 9 5 ⟨W.heap.size, 0, none⟩ k (zs k) Tryz.underlying35 Tryz.underlying5 Tryz.underlying9 (fun j hj => by
    have hj' : j < k := by simpa [zs] using hj
    rw [Addr.add_lit, Nat.zero_add, World.cell?_alloc_new]
    have e : (madeCells #[.int .u8 0] k)[j]? = (madeCells #[.int .u8 0] k).toList[j]? := by simp
    rw [e, toList_madeCells_one]
    simp [zs, hj'])
  have hz : (zs k).length = k := by simp [zs]
  rw [hz] at h
  exact h
/-- a line that is not taken -/
theorem parse_no (l : By) (er : Int) (h : pr l = (t0, er)) (hl : l.length ≤ 100000) (w : World) (hE : Env w) : Calls Tryz.prog 11 #[.string (S l)] w fun e w' => ∃ A c, e = .returned (.tuple #[.agg #[.bool false, .bool false, .int .i64 0, .int .u64 0, .slice A 0 c], .int .i64 er]) ∧ Hid (Below w.heap.size w w') := by
  have := Parse_any l hl w hE
  unfold ParsePost at this
  rw [h] at this
  exact this.mono fun e w' ⟨A, c, h1, h2⟩ => ⟨A, c, h1, Lib.hid h2.out.1⟩

set_option maxHeartbeats 6400000 in
theorem _root_.Go.Proofs.YtjkpmppjnklajaaGreatDoor.Walk.scriptLong_walk (w : World) (hE : Env w) (x : Tk) (z : Int) (hx : x.In w) (hz : (Lit.int .u16 z).wf = true) : Calls Tryz.prog 6 #[x.val, .int .u16 z] w (Says w (.bool true)) := by
  obtain ⟨t, A, c⟩ := x
  obtain ⟨ht, hs⟩ := hx
  obtain ⟨n, hn⟩ : ∃ n, t.es.length = n := ⟨_, rfl⟩
  obtain ⟨u, rfl, hu⟩ : ∃ u : Nat, z = (u : Int) ∧ u < 65536 := by
    have e1 : IntKind.u16.min = 0 := rfl
    have e2 : IntKind.u16.max = 65535 := rfl
    simp only [Lit.wf, Bool.and_eq_true, decide_eq_true_eq] at hz
    exact ⟨z.toNat, by omega, by omega⟩
  clear hz
  unfold Tk.val
  simp only at ht hs ⊢
  rw [hn]
  have hj0 : Hid (JS w [(w.heap.size, tvc t.m t.g t.cap t.bl A n c)] _) := Lib.hid (J.one w (tvc t.m t.g t.cap t.bl A n c) 25)
  have HA : Hid (∀ {W}, JS w [(w.heap.size, tvc t.m t.g t.cap t.bl A n c)] W → Calls Tryz.prog 7 #[] W (Says W (.bool true))) := Lib.hid fun h => awake_any _ (hE.next (J.below h))
  have HP : Hid (n ≤ 40 → ∀ W, JS w [(w.heap.size, tvc t.m t.g t.cap t.bl A n c)] W → Calls Tryz.prog 8 #[tv t A n c] W (Says W (.string (S (put t))))) := Lib.hid fun h40 W h => Put_any t A n c W ht hn (by omega) ((hs.below (J.below h) (Nat.le_refl _)).more (J.below h).size) (hE.next (J.below h))
  have HN : Hid (∀ (l : By) (er : Int), pr l = (t0, er) → l.length ≤ 100000 → ∀ W, JS w [(w.heap.size, tvc t.m t.g t.cap t.bl A n c)] W → Calls Tryz.prog 11 #[.string (S l)] W fun e w' => ∃ A c, e = .returned (.tuple #[.agg #[.bool false, .bool false, .int .i64 0, .int .u64 0, .slice A 0 c], .int .i64 er]) ∧ Hid (Below W.heap.size W w')) := Lib.hid fun l er h1 h2 W h => parse_no l er h1 h2 W (hE.next (J.below h))
  have htv : tv t A n c = .agg #[.bool t.m, .bool t.g, .int .i64 t.cap, .int .u64 t.bl, .slice A n c] := rfl
  have htc : tvc t.m t.g t.cap t.bl A n c = #[.bool t.m, .bool t.g, .int .i64 t.cap, .int .u64 t.bl, .slice A n c] := rfl
  rw [htv] at HP ⊢
  rw [htc] at hj0 HA HP HN
  clear hE hs htv htc
  by_cases h40 : n ≤ 40
  · have HP' := Lib.hid (HP.out h40)
    have i1 : ¬ (40 : Int) < (n : Int) := by omega
    obtain ⟨k, hk⟩ : ∃ k, 4097 + u % 500 = k := ⟨_, rfl⟩
    have hk2 : 4097 ≤ k ∧ k ≤ 4596 := by omega
    have hkz : (zs k).length = k := by simp [zs]
    have hpl : (put t).length ≤ 60 + 60 * t.es.length := put_len ht t.es ht.es
    have N1 := Lib.hid (HN.out (put t ++ zs k) 13 (pr_long (by rw [List.length_append]; omega)) (by rw [List.length_append]; omega))
    have N2 := Lib.hid (HN.out (put t ++ [32]) 11 (pr_tail ht (by omega)) (by simp; omega))
    have N3 := Lib.hid (HN.out ([32] ++ put t) 11 (pr_front ht (by omega)) (by simp; omega))
    have N4 := Lib.hid (HN.out (zs k) 13 (pr_long (by omega)) (by omega))
    have k1 : ∀ W, (Op.stringOp .add (S (put t)) (S (zs k))).run Tryz.prog W = .ok (.string (S (put t ++ zs k))) W := fun W => run_add W _ _ (by omega)
    have k2 : ∀ W, (Op.stringOp .add (S (put t)) ⟨#[32]⟩).run Tryz.prog W = .ok (.string (S (put t ++ [32]))) W := fun W => run_add W _ [32] (by simp; omega)
    have k3 : ∀ W, (Op.stringOp .add ⟨#[32]⟩ (S (put t))).run Tryz.prog W = .ok (.string (S ([32] ++ put t))) W := fun W => run_add W [32] _ (by simp; omega)
    have hmk : ∀ W, (Instr.makeSlice 35 (.int .i64 (4097 + (u : Int) % 500)) (.int .i64 (4097 + (u : Int) % 500))).run Tryz.prog W = .ok (.slice (some ⟨W.heap.size, 0, none⟩) k k) (W.alloc (.cells (madeCells #[.int .u8 0] k) 5)) := fun W => by
      have q : 4097 + (u : Int) % 500 = (k : Int) := by omega
      rw [q]
      exact run_make_row' 35 5 (.int .u8 0) 1 Tryz.underlying35 info_u8' rfl .i64 .i64 k (by omega) (by omega) W
    have hcv := fun W => conv_zs W k
    clear HP HN hkz hpl hn h40 ht
    generalize S (put t ++ zs k) = s1 at *
    generalize S (put t ++ [32]) = s2 at *
    generalize S ([32] ++ put t) = s3 at *
    generalize S (zs k) = s4 at *
    generalize S (put t) = s at *
    go_enter Tryz.func6, Tryz.ntmps6
    go_wp2_with (first
      | (go_at_call 7; refine (HA.out hj0.out).mono ?_; rintro e w1 ⟨rfl, h1⟩; have hj1 : Hid (JS w [(w.heap.size, #[.bool t.m, .bool t.g, .int .i64 t.cap, .int .u64 t.bl, .slice A n c])] w1) := Lib.hid (J.next hj0.out h1); obtain ⟨c0, c1, c2, c3, c4⟩ := (hj1.out.bx 0 rfl).c5)
      | (go_at_call 8; refine (HP'.out _ hj1.out).mono ?_; rintro e w2 ⟨rfl, h2⟩; have hj2 := Lib.hid (J.alloc (J.next hj1.out h2) (.cells (madeCells #[.int .u8 0] k) 5)))
      | (go_at_call 11; refine (N1.out _ hj2.out).mono ?_; clear N1; rintro e w3 ⟨A3, m3, rfl, h3⟩; have hj3 := Lib.hid (J.alloc (J.next hj2.out h3.out) (.cells #[.bool false, .bool false, .int .i64 0, .int .u64 0, .slice A3 0 m3] 25)))
      | (go_at_call 11; refine (N2.out _ hj3.out).mono ?_; clear N2; rintro e w4 ⟨A4, m4, rfl, h4⟩; have hj4 := Lib.hid (J.alloc (J.next hj3.out h4.out) (.cells #[.bool false, .bool false, .int .i64 0, .int .u64 0, .slice A4 0 m4] 25)))
      | (go_at_call 11; refine (N3.out _ hj4.out).mono ?_; clear N3; rintro e w5 ⟨A5, m5, rfl, h5⟩; have hj5 := Lib.hid (J.alloc (J.next hj4.out h5.out) (.cells #[.bool false, .bool false, .int .i64 0, .int .u64 0, .slice A5 0 m5] 25)))
      | (go_at_call 11; refine (N4.out _ hj5.out).mono ?_; clear N4; rintro e w6 ⟨A6, m6, rfl, h6⟩; have hj6 := Lib.hid (J.alloc (J.next hj5.out h6.out) (.cells #[.bool false, .bool false, .int .i64 0, .int .u64 0, .slice A6 0 m6] 25))))
    go_ret
    exact ⟨rfl, J.below hj6.out⟩
  · have i1 : (40 : Int) < (n : Int) := by omega
    clear HP HN hn ht
    go_enter Tryz.func6, Tryz.ntmps6
    go_wp2_with (go_at_call 7; refine (HA.out hj0.out).mono ?_; rintro e w1 ⟨rfl, h1⟩; have hj1 : Hid (JS w [(w.heap.size, #[.bool t.m, .bool t.g, .int .i64 t.cap, .int .u64 t.bl, .slice A n c])] w1) := Lib.hid (J.next hj0.out h1); obtain ⟨c0, c1, c2, c3, c4⟩ := (hj1.out.bx 0 rfl).c5)
    go_ret
    exact ⟨rfl, J.below hj1.out⟩
end Go.Proofs.YtjkpmppjnklajaaGreatDoor.Scr
