/- ScriptParses, walked. -/
import Derived.Test.YthpbcbbiampamaaGreatDoorScrX
import Derived.Test.YthpbcbbiampamaaGreatDoorScrT
import Derived.Test.YthpbcbbiampamaaGreatDoorScrU
import Derived.Test.YthpbcbbiampamaaGreatDoorScrQ
import Derived.Test.YthpbcbbiampamaaGreatDoorFree
namespace Go.Proofs.YthpbcbbiampamaaGreatDoor.Scr
open Go.RowKit Go.Maps Go.Proofs.YthpbcbbiampamaaGreatDoor.ScrP Go.Proofs.YthpbcbbiampamaaGreatDoor.Box Go.Proofs.YthpbcbbiampamaaGreatDoor.Held Go.Proofs.YthpbcbbiampamaaGreatDoor.Sees Go.Proofs.YthpbcbbiampamaaGreatDoor.Jrn
set_option linter.unusedVariables false
set_option linter.unusedSimpArgs false
set_option maxRecDepth 100000

/-- what both Parses answer, of a line -/
def PT (m g : Bool) (cp : Int) (bl n : Nat) (es : List E) (er : Int) (W : World) (e : Ending) (w' : World) : Prop :=
  ∃ A c, e = .returned (.tuple #[.agg #[.bool m, .bool g, .int .i64 cp, .int .u64 (bl : Nat), .slice A n c], .int .i64 er]) ∧ Hid (Below W.heap.size W w' ∧ Sees w' w'.heap.size A (evc es))
theorem pt_of {l : By} {m g : Bool} {cp : Int} {bl n : Nat} {es : List E} {er : Int} (hpr : pr l = (⟨m, g, cp, bl, es⟩, er)) (hn : es.length = n) {W : World} {f : FuncId} {args : Array Value} (h : Calls Tryz.prog f args W (ParsePost l W)) : Calls Tryz.prog f args W (PT m g cp bl n es er W) := by
  unfold ParsePost at h
  rw [hpr] at h
  subst hn
  exact h.mono fun e w' ⟨A, c, h1, h2⟩ => ⟨A, c, h1, Lib.hid ⟨h2.out.1, h2.out.2.1⟩⟩
theorem put_pos (t : T) : 0 < (put t).length := by
  unfold put ws hd4
  rw [List.cons_append, Go.Lib.join_cons, List.length_append]
  have : 0 < (gv t.m wMains).length := by cases t.m <;> decide
  omega
/-- while the two are held against each other -/
def PR2 (w : World) (X Y : Nat) (c d : Array Value) (A B : Option Addr) (es : List E) (W : World) : Prop := J w W [(Y, d), (X, c)] ∧ Sees W W.heap.size A (evc es) ∧ Sees W W.heap.size B (evc es)
theorem PR2.next {w W W' : World} {X Y : Nat} {c d : Array Value} {A B : Option Addr} {es : List E} (h : PR2 w X Y c d A B es W) (hb : Below W.heap.size W W') : PR2 w X Y c d A B es W' := ⟨h.1.next hb, h.2.1.on hb, h.2.2.on hb⟩
def PF2 (t : T) (er : Int) (v0 v1 : Value) (i : Nat) (v : Value) (W : World) : Prop :=
  match i with
  | 0 => v = .int .i64 er
  | 1 => v = .int .i64 er
  | 2 => v = .bool false
  | 3 => v = .bool false
  | 4 => v = v0
  | 5 => TV v W t
  | 6 => v = v1
  | 7 => v = .bool true
  | 8 => v = .bool false
  | 9 => v = .bool false
  | _ => True
theorem PF2.next {t : T} {er : Int} {v0 v1 : Value} {i : Nat} {v : Value} {W W' : World} (h : PF2 t er v0 v1 i v W) (hb : Below W.heap.size W W') : PF2 t er v0 v1 i v W' := by
  unfold PF2 at h ⊢
  split at h <;> first | exact h | exact TV.next h hb

set_option maxHeartbeats 12800000 in
theorem _root_.Go.Proofs.YthpbcbbiampamaaGreatDoor.Walk.scriptParses_walk (w : World) (hE : Env w) (x : Tk) (a1 : Option Addr) (len1 cap1 : Nat) (z1 : List Int) (a2 : Option Addr) (len2 cap2 : Nat) (z2 : List Int) (a3 : ByteArray) (hx : x.In w)
    (hl1 : z1.length = len1) (hc1 : len1 ≤ cap1) (hx1 : cap1 ≤ maxLen) (hs1 : Sees w w.heap.size a1 (nums .u16 z1)) (hw1 : ∀ n ∈ z1, (Lit.int .u16 n).wf = true)
    (hl2 : z2.length = len2) (hc2 : len2 ≤ cap2) (hx2 : cap2 ≤ maxLen) (hs2 : Sees w w.heap.size a2 (nums .u8 z2)) (hw2 : ∀ n ∈ z2, (Lit.int .u8 n).wf = true) (w3 : a3.size ≤ maxLen) :
    Calls Tryz.prog 4 #[x.val, .slice a1 len1 cap1, .slice a2 len2 cap2, .string a3] w (Says w (.bool true)) := by
  obtain ⟨t, A, c⟩ := x
  obtain ⟨ht, hs⟩ := hx
  obtain ⟨n0, hn0⟩ : ∃ n, t.es.length = n := ⟨_, rfl⟩
  unfold Tk.val
  simp only at ht hs ⊢
  rw [hn0]
  have hj0 : Hid (JS w [(w.heap.size, tvc t.m t.g t.cap t.bl A n0 c)] _) := Lib.hid (J.one w (tvc t.m t.g t.cap t.bl A n0 c) 25)
  have HA : Hid (∀ W, JS w [(w.heap.size, tvc t.m t.g t.cap t.bl A n0 c)] W → Calls Tryz.prog 7 #[] W (Says W (.bool true))) := Lib.hid fun W h => awake_any W (hE.next (J.below h))
  have HP : Hid (n0 ≤ 60 → ∀ W, Below w.heap.size w W → Calls Tryz.prog 8 #[tv t A n0 c] W (Says W (.string (S (put t))))) := Lib.hid fun h60 W h => Put_any t A n0 c W ht hn0 (by omega) ((hs.below h (Nat.le_refl _)).more h.size) (hE.next h)
  have HPL : Hid (n0 ≤ 60 → (put t).length ≤ 6000) := Lib.hid fun h => by have h2 : (put t).length ≤ 60 + 60 * t.es.length := put_len ht t.es ht.es; omega
  have HPP : Hid (0 < (put t).length) := Lib.hid (put_pos t)
  have HPA : Hid (∀ (l : By) W, l.length ≤ 6000 → Below w.heap.size w W → Calls Tryz.prog 11 #[.string (S l)] W (ParsePost l W)) := Lib.hid fun l W hl h => Parse_any l (by omega) W (hE.next h)
  have htv : tv t A n0 c = .agg #[.bool t.m, .bool t.g, .int .i64 t.cap, .int .u64 t.bl, .slice A n0 c] := rfl
  have htc : tvc t.m t.g t.cap t.bl A n0 c = #[.bool t.m, .bool t.g, .int .i64 t.cap, .int .u64 t.bl, .slice A n0 c] := rfl
  rw [htv] at HP ⊢
  rw [htc] at hj0 HA
  have HS1 := Lib.hid hs1
  have HS2 := Lib.hid hs2
  have HL1 := Lib.hid hl1
  have HL2 := Lib.hid hl2
  have HW1 := Lib.hid hw1
  have HW2 := Lib.hid hw2
  obtain ⟨lin, hlin⟩ : ∃ l : By, S l = a3 := ⟨_, s_of a3⟩
  have hsz3 : a3.size = lin.length := by rw [← hlin, s_size]
  have HLN := Lib.hid hlin
  have HZ3 := Lib.hid hsz3
  generalize put t = l0 at *
  clear hE hs htv htc ht hn0 hs1 hs2 hl1 hl2 hw1 hw2 w3 hc1 hx1 hc2 hx2 hlin hsz3
  generalize t.m = m0 at *
  generalize t.g = g0 at *
  generalize t.cap = cp0 at *
  generalize t.bl = bl0 at *
  clear t
  by_cases b1 : 60 < n0
  · have i1 : (60 : Int) < (n0 : Int) := by omega
    clear HP HPL HPP HPA HS1 HS2 HL1 HL2 HW1 HW2 HLN HZ3
    go_enter Tryz.func4, Tryz.ntmps4
    go_wp2_with (go_at_call 7; refine (HA.out _ hj0.out).mono ?_; rintro e w1 ⟨rfl, h1⟩; have hj1 : Hid (JS w [(w.heap.size, #[.bool m0, .bool g0, .int .i64 cp0, .int .u64 bl0, .slice A n0 c])] w1) := Lib.hid (J.next hj0.out h1); obtain ⟨c0, c1, c2, c3, c4⟩ := (hj1.out.bx 0 rfl).c5)
    go_ret
    exact ⟨rfl, J.below hj1.out⟩
  by_cases b2 : 9 < len1
  · have i1 : ¬ (60 : Int) < (n0 : Int) := by omega
    have i2 : (9 : Int) < (len1 : Int) := by omega
    clear HP HPL HPP HPA HS1 HS2 HL1 HL2 HW1 HW2 HLN HZ3
    go_enter Tryz.func4, Tryz.ntmps4
    go_wp2_with (go_at_call 7; refine (HA.out _ hj0.out).mono ?_; rintro e w1 ⟨rfl, h1⟩; have hj1 : Hid (JS w [(w.heap.size, #[.bool m0, .bool g0, .int .i64 cp0, .int .u64 bl0, .slice A n0 c])] w1) := Lib.hid (J.next hj0.out h1); obtain ⟨c0, c1, c2, c3, c4⟩ := (hj1.out.bx 0 rfl).c5)
    go_ret
    exact ⟨rfl, J.below hj1.out⟩
  by_cases b3 : len2 < len1
  · have i1 : ¬ (60 : Int) < (n0 : Int) := by omega
    have i2 : ¬ (9 : Int) < (len1 : Int) := by omega
    have i3 : (len2 : Int) < (len1 : Int) := by omega
    clear HP HPL HPP HPA HS1 HS2 HL1 HL2 HW1 HW2 HLN HZ3
    go_enter Tryz.func4, Tryz.ntmps4
    go_wp2_with (go_at_call 7; refine (HA.out _ hj0.out).mono ?_; rintro e w1 ⟨rfl, h1⟩; have hj1 : Hid (JS w [(w.heap.size, #[.bool m0, .bool g0, .int .i64 cp0, .int .u64 bl0, .slice A n0 c])] w1) := Lib.hid (J.next hj0.out h1); obtain ⟨c0, c1, c2, c3, c4⟩ := (hj1.out.bx 0 rfl).c5)
    go_ret
    exact ⟨rfl, J.below hj1.out⟩
  by_cases b4 : 6000 < lin.length
  · have i1 : ¬ (60 : Int) < (n0 : Int) := by omega
    have i2 : ¬ (9 : Int) < (len1 : Int) := by omega
    have i3 : ¬ (len2 : Int) < (len1 : Int) := by omega
    have i4 : (6000 : Int) < (a3.size : Int) := by rw [HZ3.out]; omega
    clear HP HPL HPP HPA HS1 HS2 HL1 HL2 HW1 HW2 HLN HZ3
    go_enter Tryz.func4, Tryz.ntmps4
    go_wp2_with (go_at_call 7; refine (HA.out _ hj0.out).mono ?_; rintro e w1 ⟨rfl, h1⟩; have hj1 : Hid (JS w [(w.heap.size, #[.bool m0, .bool g0, .int .i64 cp0, .int .u64 bl0, .slice A n0 c])] w1) := Lib.hid (J.next hj0.out h1); obtain ⟨c0, c1, c2, c3, c4⟩ := (hj1.out.bx 0 rfl).c5)
    go_ret
    exact ⟨rfl, J.below hj1.out⟩
  have i1 : ¬ (60 : Int) < (n0 : Int) := by omega
  have i2 : ¬ (9 : Int) < (len1 : Int) := by omega
  have i3 : ¬ (len2 : Int) < (len1 : Int) := by omega
  have i4 : ¬ (6000 : Int) < (a3.size : Int) := by rw [HZ3.out]; omega
  have HP1 := Lib.hid (HP.out (by omega))
  have hl0 := HPL.out (by omega)
  have hlp := HPP.out
  have HLIN : Hid (lin.length ≤ 6000) := Lib.hid (by omega)
  obtain ⟨L, hL⟩ : ∃ L, l0.length = L := ⟨_, rfl⟩
  have HLL := Lib.hid hL
  have HLP : Hid (0 < L) := Lib.hid (by omega)
  have hL6 : L ≤ 6000 := by omega
  clear HP HPL HPP hl0 hlp hL
  go_enter Tryz.func4, Tryz.ntmps4
  go_wp2_with (first
    | (go_at_call 7; refine (HA.out _ hj0.out).mono ?_; rintro e w1 ⟨rfl, h1⟩; have hj1 : Hid (JS w [(w.heap.size, #[.bool m0, .bool g0, .int .i64 cp0, .int .u64 bl0, .slice A n0 c])] w1) := Lib.hid (J.next hj0.out h1); obtain ⟨c0, c1, c2, c3, c4⟩ := (hj1.out.bx 0 rfl).c5)
    | (go_at_call 8; refine (HP1.out _ (J.below hj1.out)).mono ?_; rintro e w2 ⟨rfl, h2⟩; obtain ⟨cpb, w3, hcv, hC3, hb3⟩ := conv_to l0 w2; rw [HLL.out] at hcv; have HB2 : Hid (Below w.heap.size w w2) := Lib.hid (J.below (J.next hj1.out h2)); have HC3 := Lib.hid hC3; have HB3 : Hid (Below w.heap.size w w3) := Lib.hid (HB2.out.trans (hb3.mono HB2.out.size)); clear hC3 hb3))
  clear c0 c1 c2 c3 c4 hcv hj0 hj1 HA HP1
  go_loopw [11] (fun i wr => ∃ (k : Nat) (l : By), i = .int .i64 k ∧ k ≤ len1 ∧ Hid (l.length = L) ∧ Hid (Cv wr w2.heap.size l) ∧ Hid (Below w.heap.size w wr)) (fun i _ => len1 - (intOf i).toNat)
  case atStart => exact ⟨0, l0, rfl, Nat.zero_le _, HLL, HC3, HB3⟩
  case round =>
    clear HC3 HB3
    obtain ⟨k, l, rfl, hk, hlL, HC, HB⟩ := hrel
    have HG2 : Hid (w.heap.size ≤ w2.heap.size) := Lib.hid HB2.out.size
    by_cases hgo : k < len1 ∧ 0 < L
    · obtain ⟨hk1, hL0⟩ := hgo
      have i5 : (k : Int) < (len1 : Int) := by omega
      have i6 : (0 : Int) < (L : Int) := by omega
      have i7 : (k : Int) < (len2 : Int) := by omega
      obtain ⟨uz, hu⟩ : ∃ u, z1[k]? = some u := ⟨_, List.getElem?_eq_getElem (by rw [HL1.out]; omega)⟩
      obtain ⟨vz, hv⟩ : ∃ v, z2[k]? = some v := ⟨_, List.getElem?_eq_getElem (by rw [HL2.out]; omega)⟩
      have wu := HW1.out uz (List.mem_of_getElem? hu)
      have wv := HW2.out vz (List.mem_of_getElem? hv)
      have r1 : IntKind.u16.min = 0 := rfl
      have r2 : IntKind.u16.max = 65535 := rfl
      have r3 : IntKind.u8.min = 0 := rfl
      have r4 : IntKind.u8.max = 255 := rfl
      simp only [Lit.wf, Bool.and_eq_true, decide_eq_true_eq] at wu wv
      rw [r1, r2] at wu
      rw [r3, r4] at wv
      obtain ⟨u, rfl⟩ : ∃ u : Nat, uz = u := ⟨uz.toNat, by omega⟩
      obtain ⟨v, rfl⟩ : ∃ v : Nat, vz = v := ⟨vz.toNat, by omega⟩
      obtain ⟨ba, oa, rfl, hba, ca⟩ := HS1.out.at_ (k := k) (u := .int .u16 (u : Int)) (by simp [nums, hu])
      obtain ⟨bx, ox, rfl, hbx, cx⟩ := HS2.out.at_ (k := k) (u := .int .u8 (v : Int)) (by simp [nums, hv])
      have ca2 := (HB.out.cell (p := ⟨ba, oa + k, none⟩) hba).trans ca
      have cx2 := (HB.out.cell (p := ⟨bx, ox + k, none⟩) hbx).trans cx
      have hbaW : ba < wr.heap.size := Nat.lt_of_lt_of_le hba HB.out.size
      have hbxW : bx < wr.heap.size := Nat.lt_of_lt_of_le hbx HB.out.size
      obtain ⟨j, hj⟩ : ∃ j, u % L = j := ⟨_, rfl⟩
      have hjL : j < L := by rw [← hj]; exact Nat.mod_lt _ hL0
      have eqw : wrap64 (u : Int) = u := by unfold wrap64; omega
      have emt : (u : Int).tmod (L : Int) = (j : Int) := by
        rw [Int.tmod_eq_emod_of_nonneg (Int.natCast_nonneg u), ← hj]; simp
      have eL : ((L : Int) == 0) = false := by simp; omega
      have eL2 : ¬ (L : Int) = 0 := by omega
      have i8 : (j : Int) < (L : Int) := by omega
      have i9 : (0 : Int) ≤ (j : Int) := by omega
      have hvc : (v : Int) = ((UInt8.ofNat v).toNat : Int) := by
        rw [UInt8.toNat_ofNat']; omega
      have ejw : IntKind.i64.wrap (j : Int) = (j : Int) := IntWalk.i64_in _ (by omega)
      have ejw2 : wrap64 (j : Int) = (j : Int) := by unfold wrap64; omega
      have e3 : IntKind.i64.wrap ((k : Int) + 1) = ((k + 1 : Nat) : Int) := by rw [IntWalk.i64_in _ (by omega)]; rfl
      have hjS : Hid (JS wr [] wr) := Lib.hid (J.start wr)
      have HK1 := Lib.hid hk1
      have HVC := Lib.hid hvc
      clear hu hv wu wv r1 r2 r3 r4 ca cx hj hL0 HPA hvc
      go_wp2_with fail
      refine wp_region_tail 14 _ JS.closed hjS.out (by kernel_rfl) (by kernel_rfl) ?_
      simp only [List.take_succ_cons, List.take_zero, List.drop_succ_cons, List.drop_zero]
      apply Exists.intro
      refine ⟨fun w10 h10 => ?_, fun W1 hJ1 hb1 => ?_⟩
      · haveI := Ext.some h10
        have q0 := ext_old h10 (a := ⟨ba, oa + k, none⟩) hbaW ca2
        have q1 := ext_old h10 (a := ⟨bx, ox + k, none⟩) hbxW cx2
        repeat go_big_quiet_step (fail)
        exact wpQuiet_nil rfl
      · have HC1 := Lib.hid (HC.out.next (J.below hJ1))
        have HB1 := Lib.hid (HB.out.trans ((J.below hJ1).mono HB.out.size))
        have hjl : j < l.length := by rw [hlL.out]; exact hjL
        have cj := HC1.out.cell (List.getElem?_eq_getElem hjl)
        have fj := HC1.out.fr hjl
        have HC2 := Lib.hid (HC1.out.set (j := j) (UInt8.ofNat v) (v : Int) HVC.out)
        have HB2' := Lib.hid (HB1.out.setCell (show w.heap.size ≤ (⟨w2.heap.size, j, none⟩ : Addr).block from HG2.out) (.int .u8 (v : Int)))
        clear hJ1 hb1 ca2 cx2
        change wpList _ _ _ _ _ _
        go_wp2_with fail
        go_roundw
        case rel => exact ⟨k + 1, l.set j (UInt8.ofNat v), rfl, by have := HK1.out; omega, Lib.hid (by rw [List.length_set]; exact hlL.out), HC2, HB2'⟩
        case measure => have := HK1.out; simp [intOf]; omega
    · have ways : ((k : Int) < (len1 : Int) ∧ ¬ (0 : Int) < (L : Int)) ∨ ¬ (k : Int) < (len1 : Int) := by omega
      have hcb := conv_back HC.out cpb
      rw [hlL.out] at hcb
      have HQ6 : Hid (l.length ≤ 6000) := Lib.hid (by rw [hlL.out]; exact hL6)
      clear hgo HW1 HW2 HL1 HL2 HS1 HS2 HC hlL
      rcases ways with ⟨i5, i6⟩ | i5
      · exfalso; have := HLP.out; omega
      · go_wp2_with fail
        go_loopw [12, 13, 14, 15, 16, 17] (fun s i _ _ _ _ wq => ∃ (r : Nat) (q : By), s = .string (S q) ∧ i = .int .i64 r ∧ r ≤ 2 ∧ Hid (q.length ≤ 6000) ∧ Hid (Below w.heap.size w wq)) (fun _ i _ _ _ _ _ => 2 - (intOf i).toNat)
        case atStart => exact ⟨0, l, rfl, rfl, by omega, HQ6, HB⟩
        case round =>
          clear hcb HQ6 HB
          obtain ⟨r, q, rfl, rfl, hr, hq, HBr⟩ := hrel
          rename World => wq
          by_cases hr2 : r < 2
          · have i8 : (r : Int) < 2 := by omega
            have e8 : IntKind.i64.wrap ((r : Int) + 1) = ((r + 1 : Nat) : Int) := by rw [IntWalk.i64_in _ (by omega)]; rfl
            obtain ⟨⟨⟨m, g, cp, bl, es⟩, er⟩, hpr⟩ : ∃ x, pr q = x := ⟨_, rfl⟩
            obtain ⟨n, hn⟩ : ∃ n, es.length = n := ⟨_, rfl⟩
            have hnl : n ≤ 100000 := by
              have := pr_len q (by have := hq.out; omega)
              rw [hpr] at this
              rw [← hn]; exact this
            have H1 := Lib.hid fun W (h : Below w.heap.size w W) => pt_of hpr hn (HPA.out q W hq.out h)
            have H2 := Lib.hid fun W => pt_of hpr hn (rParse_any q (by have := hq.out; omega) W)
            have HOf : Hid (∀ A c W, Sees W W.heap.size A (evc es) → Calls Tryz.prog 10 #[.agg #[.bool m, .bool g, .int .i64 cp, .int .u64 (bl : Nat), .slice A n c]] W (OfP W ⟨m, g, cp, bl, es⟩)) := Lib.hid fun A c W h => of_wide ⟨m, g, cp, bl, es⟩ A n c W hn hnl h
            have HSm : Hid (∀ A c B d W, Sees W W.heap.size A (evc es) → Sees W W.heap.size B (evc es) → Calls Tryz.prog 13 #[.agg #[.bool m, .bool g, .int .i64 cp, .int .u64 (bl : Nat), .slice A n c], .agg #[.bool m, .bool g, .int .i64 cp, .int .u64 (bl : Nat), .slice B n d]] W (Says W (.bool true))) := Lib.hid fun A c B d W h h' => Same_any ⟨m, g, cp, bl, es⟩ A B n c d W hn hnl h h'
            have HN := Lib.hid hn
            have HR2 := Lib.hid hr2
            clear hpr hn hnl HPA
            generalize S q = sq at *
            go_wp2_with (first
              | (go_at_call 11; refine (H1.out _ HBr.out).mono ?_; rintro e w5 ⟨A5, c5, rfl, h5⟩; have hj5 := Lib.hid (((J.start wq).next h5.out.1).push #[.bool m, .bool g, .int .i64 cp, .int .u64 (bl : Nat), .slice A5 n c5] 25); have HS5 : Hid (Sees (w5.alloc (.cells #[.bool m, .bool g, .int .i64 cp, .int .u64 (bl : Nat), .slice A5 n c5] 25)) (w5.alloc (.cells #[.bool m, .bool g, .int .i64 cp, .int .u64 (bl : Nat), .slice A5 n c5] 25)).heap.size A5 (evc es)) := Lib.hid (h5.out.2.on below_box); clear H1 h5)
              | (go_at_call 12; refine (H2.out _).mono ?_; rintro e w6 ⟨A6, c6, rfl, h6⟩; have hj6 := Lib.hid ((hj5.out.next h6.out.1).push #[.bool m, .bool g, .int .i64 cp, .int .u64 (bl : Nat), .slice A6 n c6] 31); have HS5b : Hid (Sees (w6.alloc (.cells #[.bool m, .bool g, .int .i64 cp, .int .u64 (bl : Nat), .slice A6 n c6] 31)) (w6.alloc (.cells #[.bool m, .bool g, .int .i64 cp, .int .u64 (bl : Nat), .slice A6 n c6] 31)).heap.size A5 (evc es)) := Lib.hid ((HS5.out.on h6.out.1).on below_box); have HS6 : Hid (Sees (w6.alloc (.cells #[.bool m, .bool g, .int .i64 cp, .int .u64 (bl : Nat), .slice A6 n c6] 31)) (w6.alloc (.cells #[.bool m, .bool g, .int .i64 cp, .int .u64 (bl : Nat), .slice A6 n c6] 31)).heap.size A6 (evc es)) := Lib.hid (h6.out.2.on below_box); clear H2 h6))
            have hR0 : PR2 wq w5.heap.size w6.heap.size #[.bool m, .bool g, .int .i64 cp, .int .u64 (bl : Nat), .slice A5 n c5] #[.bool m, .bool g, .int .i64 cp, .int .u64 (bl : Nat), .slice A6 n c6] A5 A6 es _ := PR2.next ⟨hj6.out, HS5b.out, HS6.out⟩ (Below.refl _ _).drew
            refine Inv.wp_region_free (PR2 wq w5.heap.size w6.heap.size #[.bool m, .bool g, .int .i64 cp, .int .u64 (bl : Nat), .slice A5 n c5] #[.bool m, .bool g, .int .i64 cp, .int .u64 (bl : Nat), .slice A6 n c6] A5 A6 es) (PF2 ⟨m, g, cp, bl, es⟩ er (.agg #[.bool m, .bool g, .int .i64 cp, .int .u64 (bl : Nat), .slice A5 n c5]) (.agg #[.bool m, .bool g, .int .i64 cp, .int .u64 (bl : Nat), .slice A6 n c6])) hR0 (by kernel_rfl) (by kernel_rfl) (by kernel_rfl) ?_ ?_
            · intro i o x W K ho hR hd hK
              match i, ho with
              | 0, ho =>
                obtain rfl := Option.some.inj ho
                simp only [Inv.fill, Act.put, List.setIfInBounds_toArray, List.set_cons_zero, List.set_cons_succ, List.take_succ_cons, List.take_zero] at hK ⊢
                clear hd ho 
                rw [wpOp]
                refine (if_pos rfl).mpr (.inl ?_)
                go_simp
                exact hK _ _ hR (fun _ _ h => h) rfl
              | 1, ho =>
                obtain rfl := Option.some.inj ho
                simp only [Inv.fill, Act.put, List.setIfInBounds_toArray, List.set_cons_zero, List.set_cons_succ, List.take_succ_cons, List.take_zero] at hK ⊢
                clear hd ho 
                rw [wpOp]
                refine (if_pos rfl).mpr (.inl ?_)
                go_simp
                exact hK _ _ hR (fun _ _ h => h) rfl
              | 2, ho =>
                obtain rfl := Option.some.inj ho
                have e0 : x 0 = .int .i64 er := hd ⟨0, .data⟩ (by simp) rfl
                have e1 : x 1 = .int .i64 er := hd ⟨1, .data⟩ (by simp) rfl
                simp only [Inv.fill, Act.put, List.setIfInBounds_toArray, List.set_cons_zero, List.set_cons_succ, List.take_succ_cons, List.take_zero, e0, e1] at hK ⊢
                clear hd ho e0 e1
                rw [wpOp]
                refine (if_pos rfl).mpr (.inl ?_)
                go_simp
                exact hK _ _ hR (fun _ _ h => h) rfl
              | 3, ho =>
                obtain rfl := Option.some.inj ho
                have e2 : x 2 = .bool false := hd ⟨2, .data⟩ (by simp) rfl
                simp only [Inv.fill, Act.put, List.setIfInBounds_toArray, List.set_cons_zero, List.set_cons_succ, List.take_succ_cons, List.take_zero, e2] at hK ⊢
                clear hd ho e2
                rw [wpOp]
                refine (if_pos rfl).mpr (.inl ?_)
                go_simp
                exact hK _ _ hR (fun _ _ h => h) rfl
              | 4, ho =>
                obtain rfl := Option.some.inj ho
                have e3 : x 3 = .bool false := hd ⟨3, .guard⟩ (by simp) rfl
                simp only [Inv.fill, Act.put, List.setIfInBounds_toArray, List.set_cons_zero, List.set_cons_succ, List.take_succ_cons, List.take_zero, e3] at hK ⊢
                clear hd ho e3
                rw [wpOp]
                refine (if_pos rfl).mpr (.inl ?_)
                obtain ⟨y0, y1, y2, y3, y4⟩ := (hR.1.bx 1 rfl).c5
                go_simp
                exact hK _ _ hR (fun _ _ h => h) rfl
              | 5, ho =>
                obtain rfl := Option.some.inj ho
                have e4 : x 4 = .agg #[.bool m, .bool g, .int .i64 cp, .int .u64 (bl : Nat), .slice A5 n c5] := hd ⟨4, .data⟩ (by simp) rfl
                have e3 : x 3 = .bool false := hd ⟨3, .guard⟩ (by simp) rfl
                simp only [Inv.fill, Act.put, List.setIfInBounds_toArray, List.set_cons_zero, List.set_cons_succ, List.take_succ_cons, List.take_zero, e4, e3] at hK ⊢
                clear hd ho e4 e3
                rw [wpOp]
                refine (if_pos rfl).mpr (.inl ?_)
                have hc := HOf.out A5 c5 W hR.2.1
                go_simp
                refine hc.mono ?_
                rintro e w9 ⟨A9, c9, rfl, h9⟩
                exact hK _ _ (hR.next h9.out.1) (fun _ _ h => h.next h9.out.1) ⟨A9, c9, rfl, h9.out.2.1⟩
              | 6, ho =>
                obtain rfl := Option.some.inj ho
                have e3 : x 3 = .bool false := hd ⟨3, .guard⟩ (by simp) rfl
                simp only [Inv.fill, Act.put, List.setIfInBounds_toArray, List.set_cons_zero, List.set_cons_succ, List.take_succ_cons, List.take_zero, e3] at hK ⊢
                clear hd ho e3
                rw [wpOp]
                refine (if_pos rfl).mpr (.inl ?_)
                obtain ⟨y0, y1, y2, y3, y4⟩ := (hR.1.bx 0 rfl).c5
                go_simp
                exact hK _ _ hR (fun _ _ h => h) rfl
              | 7, ho =>
                obtain rfl := Option.some.inj ho
                have h5 := hd ⟨5, .data⟩ (by simp) rfl
                have hc : Calls Tryz.prog 13 #[x 5, .agg #[.bool m, .bool g, .int .i64 cp, .int .u64 (bl : Nat), .slice A6 n c6]] W (Says W (.bool true)) := by
                  have h5' : TV (x 5) W ⟨m, g, cp, bl, es⟩ := h5
                  clear hK hd h5
                  obtain ⟨A9, c9, e5, hs9⟩ := h5'
                  have e6 : tv ⟨m, g, cp, bl, es⟩ A9 es.length c9 = .agg #[.bool m, .bool g, .int .i64 cp, .int .u64 (bl : Nat), .slice A9 n c9] := by rw [← HN.out]; rfl
                  rw [e5, e6]
                  exact HSm.out A9 c9 A6 c6 W hs9 hR.2.2
                clear h5
                have e6 : x 6 = .agg #[.bool m, .bool g, .int .i64 cp, .int .u64 (bl : Nat), .slice A6 n c6] := hd ⟨6, .data⟩ (by simp) rfl
                have e3 : x 3 = .bool false := hd ⟨3, .guard⟩ (by simp) rfl
                simp only [Inv.fill, Act.put, List.setIfInBounds_toArray, List.set_cons_zero, List.set_cons_succ, List.take_succ_cons, List.take_zero, e6, e3] at hK ⊢
                clear hd ho e6 e3
                rw [wpOp]
                refine (if_pos rfl).mpr (.inl ?_)
                go_simp
                refine hc.mono ?_
                rintro e w9 ⟨rfl, h9⟩
                exact hK _ _ (hR.next h9) (fun _ _ h => h.next h9) rfl
              | 8, ho =>
                obtain rfl := Option.some.inj ho
                have e7 : x 7 = .bool true := hd ⟨7, .data⟩ (by simp) rfl
                have e3 : x 3 = .bool false := hd ⟨3, .guard⟩ (by simp) rfl
                simp only [Inv.fill, Act.put, List.setIfInBounds_toArray, List.set_cons_zero, List.set_cons_succ, List.take_succ_cons, List.take_zero, e7, e3] at hK ⊢
                clear hd ho e7 e3
                rw [wpOp]
                refine (if_pos rfl).mpr (.inl ?_)
                go_simp
                exact hK _ _ hR (fun _ _ h => h) rfl
              | 9, ho =>
                obtain rfl := Option.some.inj ho
                have e3 : x 3 = .bool false := hd ⟨3, .data⟩ (by simp) rfl
                have e8 : x 8 = .bool false := hd ⟨8, .data⟩ (by simp) rfl
                simp only [Inv.fill, Act.put, List.setIfInBounds_toArray, List.set_cons_zero, List.set_cons_succ, List.take_succ_cons, List.take_zero, e3, e8] at hK ⊢
                clear hd ho e3 e8
                rw [wpOp]
                refine (if_pos rfl).mpr (.inl ?_)
                go_simp
                exact hK _ _ hR (fun _ _ h => h) rfl
            · intro x W hR hF
              have e0 : x 0 = .int .i64 er := hF 0 (by decide)
              have e1 : x 1 = .int .i64 er := hF 1 (by decide)
              have e9 : x 9 = .bool false := hF 9 (by decide)
              have HBW : Hid (Below w.heap.size w W) := Lib.hid (HBr.out.trans (hR.1.below.mono HBr.out.size))
              simp only [Inv.fill, Act.put, List.setIfInBounds_toArray, List.set_cons_zero, List.set_cons_succ, e0, e1, e9]
              clear hF e0 e1 e9 hR hR0
              go_wp2_with fail
              go_roundw
              case rel => exact ⟨r + 1, lin, by rw [HLN.out], rfl, by have := HR2.out; omega, HLIN, HBW⟩
              case measure => have := HR2.out; simp [intOf]; omega
          · have i8 : ¬ (r : Int) < 2 := by omega
            go_wp2_with fail
            go_ret
            exact ⟨rfl, HBr.out⟩
end Go.Proofs.YthpbcbbiampamaaGreatDoor.Scr
