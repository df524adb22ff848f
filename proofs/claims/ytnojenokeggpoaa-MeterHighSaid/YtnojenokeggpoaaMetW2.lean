/- The walk of MeterHigh. -/
import Derived.Test.YtnojenokeggpoaaMetC
import Derived.Test.YtnojenokeggpoaaOpenN
import Derived.Test.YtnojenokeggpoaaTwoRows
import Derived.Test.YtnojenokeggpoaaHeld
import Derived.OpenShut
import Derived.LoopN
namespace Go.Proofs.Ytnojenokeggpoaa.Walk
open Go.RowKit Go.ChangeShapes Go.Proofs.Ytnojenokeggpoaa.SatP Go.Proofs.Ytnojenokeggpoaa.MetP Go.Proofs.Ytnojenokeggpoaa.Mtr Go.Proofs.Ytnojenokeggpoaa.Box Go.Proofs.Ytnojenokeggpoaa.Held Go.Proofs.Ytnojenokeggpoaa.Sees Go.Proofs.Ytnojenokeggpoaa.Open
set_option linter.unusedVariables false

theorem info_int : (Try.prog.info? 3).map (fun i => (i.zero, i.size, i.bytes)) = some (some (.int .i64 0), 1, 8) := by kernel_rfl
/-- a row of the call's own grows: its blocks below stay -/
theorem j_row {w W W' : World} {bs : List (Nat × Array Value)} {base : Nat} {o : Option Nat} (h : J w W bs) (hg : W.grownBy W' o) (ho : ∀ g, o = some g → base ≤ g) (hw : w.heap.size ≤ base) (hb : ∀ x ∈ bs, x.1 < base) : J w W' bs :=
  ⟨h.below.grown hg h.below.size (fun g e => Nat.le_trans hw (ho g e)), fun x hx => (h.at_ x hx).kept (hg.block x.1 (h.at_ x hx).lt (fun e => by have := ho _ e.symm; have := hb x hx; omega))⟩
/-- a row of the call's own stays where another block is turned -/
theorem row_tick {w W : World} {X base : Nat} {cs : Array Value} {e : TypeId} {v : Value} {n : Nat} {xs : List Value} (h : w.ownsRow base e 1 v n xs) (ht : T w W X cs) (hX : X < base) : W.ownsRow base e 1 v n xs := by
  refine h.kept ht.by_ ?_
  cases hv : v.ownBlock with
  | none => exact .inl rfl
  | some g => exact .inr fun e => by have := (h.lt g hv).1; injection e with e; omega

/-- what the second loop reads -/
structure Seen (w W : World) (X : Nat) (H : Int) (i : Nat) (A : Option Addr) (ts : List Int) : Prop where
  c1 : W.cell? ⟨X, 1, none⟩ = some (.int .i64 H)
  c2 : W.cell? ⟨X, 2, none⟩ = some (.int .i64 (i : Int))
  see : Sees W W.heap.size A (nums .i64 ts)
  below : Below w.heap.size w W
def SS (w : World) (X : Nat) (H : Int) (i : Nat) (A : Option Addr) (ts : List Int) (W : World) : Prop := Seen w W X H i A ts
theorem SS.closed {w : World} {X : Nat} {H : Int} {i : Nat} {A : Option Addr} {ts : List Int} : Closed (SS w X H i A ts) := fun W W' h hb =>
  ⟨(hb.cell (p := ⟨X, 1, none⟩) (World.block_lt_of_cell? W _ h.c1)).trans h.c1, (hb.cell (p := ⟨X, 2, none⟩) (World.block_lt_of_cell? W _ h.c2)).trans h.c2, (h.see.below hb (Nat.le_refl _)).more hb.size, h.below.trans (hb.mono h.below.size)⟩
theorem Seen.at_ {w W : World} {X : Nat} {H : Int} {i : Nat} {b o : Nat} {ts : List Int} (h : Seen w W X H i (some ⟨b, o, none⟩) ts) {k : Nat} {u : Value} (hk : (nums .i64 ts)[k]? = some u) : W.cell? ⟨b, o + k, none⟩ = some u := by
  obtain ⟨b', o', e, _, h1⟩ := h.see.at_ hk
  injection e with e
  injection e with e1 e2
  subst e1 e2
  exact h1

set_option maxRecDepth 100000 in
set_option maxHeartbeats 6400000 in
theorem meterHigh_walk (w : World) (a0 : Option Addr) (len0 cap0 : Nat) (z0 : List RowN)
    (hl0 : z0.length = len0) (hc0 : len0 ≤ cap0) (hx0 : cap0 ≤ maxLen) (hs0 : Sees w w.heap.size a0 (z0.map RowN.val)) (hm0 : ∀ r ∈ z0, r.Ok .i64 w w.heap.size) :
    Calls Try.prog 5 #[.slice a0 len0 cap0] w fun e w' => e = .returned (.bool true) ∧ Below w.heap.size w w' := by
  unfold maxLen at hx0
  have HL0 := Lib.hid hl0
  have HS0 := Lib.hid hs0
  have HM0 := Lib.hid hm0
  clear hl0 hs0 hm0
  obtain ⟨i0, hi0, hq0, hq1, hq2⟩ := info_parts info_int
  have HA : Hid (∀ W, Calls Try.prog 6 #[] W (Says W (.bool true))) := Lib.hid fun W => awake_any W
  by_cases hbig : 100 < len0
  · go_enter Try.func5, Try.ntmps5
    go_wp2_with (go_at_call 6; refine (HA.out _).mono ?_; rintro e w1 ⟨rfl, h1⟩)
    go_ret
    exact ⟨rfl, h1⟩
  · have g1 : ¬ (100 : Int) < (len0 : Int) := by omega
    go_enter Try.func5, Try.ntmps5
    go_wp2_with (first
      | (go_at_call 6; (with_reducible refine (HA.out _).mono ?_); clear HA; rintro e w1 ⟨rfl, h1⟩)
      | (go_at_call 7; refine (New_any _).mono ?_; rintro e w2 ⟨rfl, rfl⟩))
    have hj0 := Lib.hid (((J.start w).next h1).push #[.int .i64 0, .int .i64 0, .int .i64 0] 39)
    have hX : w.heap.size ≤ w1.heap.size := h1.size
    go_loopw [5, 6] (fun v a wr => ∃ (i : Nat) (l : Int) (ts : List Int), a = .int .i64 i ∧ i ≤ len0 ∧ ts.length = i ∧ (∀ x ∈ ts, 0 ≤ x) ∧ wr.ownsRow (w1.heap.size + 1) 3 1 v i (nums .i64 ts) ∧ w1.heap.size + 1 ≤ wr.heap.size ∧ Hid (J w wr [(w1.heap.size, #[.int .i64 l, .int .i64 (hi ts), .int .i64 i])])) (fun _ a _ => len0 - (intOf a).toNat)
    case atStart => exact ⟨0, 0, [], rfl, by omega, rfl, (fun x hx => by cases hx), World.ownsRow_nil _ _ _ _, by simp, hj0⟩
    case round =>
      obtain ⟨i, l, ts, rfl, hi1, hts, hpos, hown, hsz, hj⟩ := hrel
      by_cases hlt : i < len0
      · obtain ⟨r, hr⟩ : ∃ r, z0[i]? = some r := ⟨z0[i]'(by rw [HL0.out]; exact hlt), by simp [HL0.out, hlt]⟩
        obtain ⟨b1, p1, rfl, hb1, hcell1⟩ := HS0.out.at_ (k := i) (u := r.val) (by simp [hr])
        have hrow := (HM0.out r (List.mem_of_getElem? hr)).see.below hj.out.below (Nat.le_refl _)
        have m1 := (hj.out.below.cell (p := ⟨b1, p1 + i, none⟩) hb1).trans hcell1
        obtain ⟨A, c, zs⟩ := r
        unfold RowN.val at m1
        simp only at m1 hrow
        obtain ⟨n, hn⟩ : ∃ n, zs.length = n := ⟨_, rfl⟩
        rw [hn] at m1
        have i2 : (0 : Int) ≤ (i : Int) := by omega
        have i1 : (i : Int) < (len0 : Int) := by omega
        clear hr hcell1
        by_cases hlong : 60 < n
        · have g2 : (60 : Int) < (n : Int) := by omega
          clear hn
          go_wp2
          go_ret
          exact ⟨rfl, hj.out.below⟩
        · have g2 : ¬ (60 : Int) < (n : Int) := by omega
          have HTK := Lib.hid (tick_any zs A n c w1.heap.size l (hi ts) i wr hn (by omega) (hrow.more hj.out.below.size) (hj.out.bx 0 rfl) (by omega))
          unfold cells at HTK
          have hd0 := dv_nonneg zs
          clear hrow hn
          generalize dv zs = d at *
          have HMX := Lib.hid (hi_snoc ts d)
          rw [← HMX.out] at HTK
          have e3 : IntKind.i64.wrap ((i : Int) + 1) = (i : Int) + 1 := IntWalk.i64_in _ (by omega)
          have HP := Lib.hid hpos
          have HT := Lib.hid hts
          clear hpos hts HMX
          go_wp2_with (first
            | (go_at_call 9; refine HTK.out.mono ?_; clear HTK; rintro e w3 ⟨rfl, h3⟩; have hj3 := Lib.hid (j_tick hj.out hX (fun x hx => by cases hx) h3); have hown3 := row_tick hown h3 (Nat.lt_succ_self _); have hs3 := Nat.le_trans hsz h3.by_.size; clear h3)
            | (at_builtin
               refine wpList_append_own_at _ rfl (.tmp 28) (.tmp 35) 26 rfl (w1.heap.size + 1) 3 i0 (.int .i64 0) 1 8 Try.underlying26 hi0 hq0 hq1 hq2 rfl (by omega) u5 i _ rfl (hown3.alloc _) ⟨w3.heap.size, 0, none⟩ 1 1 [.int .i64 d] rfl rfl (new_cell _ _ _) (one_cell _ _) (by unfold maxLen; omega) (by omega) (by simp; omega) ?_
               intro v4 w4 hown4 hg4 _ hat4
               have hj4 := Lib.hid (j_row (hj3.out.alloc _) hg4 (fun g hg => (hown3.lt g hg).1) (by omega) (fun x hx => by rw [List.mem_singleton.1 hx]; exact Nat.lt_succ_self _))))
          go_roundw
          case rel =>
            refine ⟨i + 1, d, ts ++ [d], by go_num, by omega, by rw [List.length_append, HT.out]; rfl, fun x hx => ?_, by rw [nums_append]; exact hown4, by have := hg4.size; simp at this; omega, hj4⟩
            rcases List.mem_append.1 hx with hx | hx
            · exact HP.out x hx
            · rw [List.mem_singleton.1 hx]; exact hd0
          case measure => simp [intOf]; omega
      · obtain rfl : i = len0 := by omega
        obtain ⟨A, C, rfl, hC, hsA, hltA⟩ := own_form hown
        obtain ⟨c0, c1, c2⟩ := (hj.out.bx 0 rfl).c3
        have hle := hi_le ts
        have hmem := hi_mem ts hpos
        have h0 : ts = [] → hi ts = 0 := by rintro rfl; rfl
        have HPOS := Lib.hid hpos
        have HTS := Lib.hid hts
        have HLE := Lib.hid hle
        have HME := Lib.hid hmem
        clear hpos hts hle hmem hown hltA
        obtain ⟨H, hH⟩ : ∃ H, hi ts = H := ⟨_, rfl⟩
        rw [hH] at c1 HLE HME h0
        clear hH
        have HHI : Hid (∀ W, W.cell? ⟨w1.heap.size, 1, none⟩ = some (.int .i64 H) → Calls Try.prog 11 #[.pointer (some ⟨w1.heap.size, 0, none⟩)] W fun e w' => e = .returned (.int .i64 H) ∧ W = w') := Lib.hid fun W h => high_any _ H W h
        obtain ⟨b0, hb0, hfin⟩ : ∃ b0 : Bool, b0 = ((i : Int) == 0) ∧ (b0 || ts.any (· == H)) = true := by
          refine ⟨_, rfl, ?_⟩
          by_cases hn : ts = []
          · have : i = 0 := by rw [← HTS.out, hn]; rfl
            rw [this]; rfl
          · have := HME.out hn
            rw [List.any_eq_true.2 ⟨H, this, by simp⟩, Bool.or_true]
        have hz : b0 = true → (H == 0) = true := by
          rintro rfl
          have : i = 0 := by have := hb0.symm; simp at this; omega
          have : ts = [] := List.eq_nil_of_length_eq_zero (by rw [HTS.out]; exact this)
          rw [h0 this]; rfl
        have hb1 : ((i : Int) == 0) = b0 := hb0.symm
        obtain ⟨B0, hB0⟩ : ∃ B0, b0 = B0 := ⟨_, rfl⟩
        rw [hB0] at hfin
        have HB0 := Lib.hid hB0
        clear hB0
        have HF := Lib.hid hfin
        have HJ := Lib.hid hj.out.below
        have HSE := Lib.hid hsA
        have HIT : Hid (∀ W, W.cell? ⟨w1.heap.size, 2, none⟩ = some (.int .i64 (i : Int)) → Calls Try.prog 12 #[.pointer (some ⟨w1.heap.size, 0, none⟩)] W fun e w' => e = .returned (.int .i64 (i : Int)) ∧ W = w') := Lib.hid fun W h => ticks_any _ _ W h
        have HSEEN : Hid (Seen w wr w1.heap.size H i A ts) := Lib.hid ⟨c1, c2, hsA, hj.out.below⟩
        clear hfin h0 hsA hb0 hj hj0
        have ei : ((i : Int) == (i : Int)) = true := by simp
        rcases b0
        case' true => have hz2 := hz rfl
        all_goals
          clear hz
          go_wp2_with (go_at_call 11; refine (HHI.out _ c1).mono ?_; rintro e w' ⟨rfl, rfl⟩)
          go_loopw [7, 8] (fun s a W => ∃ k : Nat, k ≤ i ∧ a = .int .i64 k ∧ s = .bool (B0 || (ts.take k).any (· == H)) ∧ Hid (Seen w W w1.heap.size H i A ts)) (fun _ a _ => i - (intOf a).toNat)
          case atStart => exact ⟨0, Nat.zero_le _, rfl, by rw [← HB0.out]; simp, HSEEN⟩
          case round =>
            obtain ⟨k, hk, rfl, rfl, hS⟩ := hrel
            clear c0 c1 c2
            by_cases hlt : k < i
            · obtain ⟨b, o, rfl, hbB, hcell⟩ := hS.out.see.at_ (nums_at .i64 ts k (by rw [HTS.out]; exact hlt))
              have HT := Lib.hid (Plain.take_snoc ts k (by rw [HTS.out]; exact hlt) 0)
              have hx := HLE.out _ (Plain.get_mem ts k (by rw [HTS.out]; exact hlt) 0)
              have hx0 := HPOS.out _ (Plain.get_mem ts k (by rw [HTS.out]; exact hlt) 0)
              have HX := Lib.hid (nums_at .i64 ts k (by rw [HTS.out]; exact hlt))
              generalize ts[k]?.getD 0 = x at *
              have k1 : decide (H < x) = false := by simp; omega
              have k2 : decide (x < 0) = false := by simp; omega
              have k3 : (0 : Int) ≤ (k : Int) := by omega
              have k4 : (k : Int) < (i : Int) := by omega
              obtain ⟨q, hq⟩ : ∃ q, (x == H) = q := ⟨_, rfl⟩
              obtain ⟨p, hp⟩ : ∃ p, (B0 || (ts.take k).any (· == H)) = p := ⟨_, rfl⟩
              have hnew : (B0 || (ts.take (k + 1)).any (· == H)) = (p || q) := by rw [HT.out, List.any_append, ← Bool.or_assoc, hp]; simp [hq]
              have HN := Lib.hid hnew
              rw [hp]
              clear hnew hp hx hx0 HT
              cases p
              all_goals
                go_wp2
                refine wp_region_all _ (SS.closed (w := w) (X := w1.heap.size) (H := H) (i := i) (A := some ⟨b, o, none⟩) (ts := ts)) hS.out (by kernel_rfl) (by kernel_rfl) ?_
                apply Exists.intro
                refine ⟨fun w7 h7 => ?_, fun W7 hJ7 hb7 => ?_⟩
                · haveI := Ext.some (S := SS w w1.heap.size H i (some ⟨b, o, none⟩) ts) h7
                  have q0 : ∀ n : Ext (SS w w1.heap.size H i (some ⟨b, o, none⟩) ts) w7, n.W.cell? ⟨b, o + k, none⟩ = some (.int .i64 x) := fun n => Seen.at_ n.h HX.out
                  have cH := Lib.hid (Ext.calls h7 SS.closed (fun W hW => says_of_same (high_any w1.heap.size H W (Seen.c1 hW))))
                  repeat go_big_quiet_step (first | (go_at_call 11; with_reducible exact cH.out _))
                  exact wpQuiet_nil rfl
                · go_wp2
                  refine wp_region_tail 10 _ (SS.closed (w := w) (X := w1.heap.size) (H := H) (i := i) (A := some ⟨b, o, none⟩) (ts := ts)) hJ7 (by kernel_rfl) (by kernel_rfl) ?_
                  simp only [List.take_succ_cons, List.take_zero, List.drop_succ_cons, List.drop_zero]
                  apply Exists.intro
                  refine ⟨fun w8 h8 => ?_, fun W8 hJ8 hb8 => ?_⟩
                  · haveI := Ext.some (S := SS w w1.heap.size H i (some ⟨b, o, none⟩) ts) h8
                    have q0 : ∀ n : Ext (SS w w1.heap.size H i (some ⟨b, o, none⟩) ts) w8, n.W.cell? ⟨b, o + k, none⟩ = some (.int .i64 x) := fun n => Seen.at_ n.h HX.out
                    have cH := Lib.hid (Ext.calls h8 SS.closed (fun W hW => says_of_same (high_any w1.heap.size H W (Seen.c1 hW))))
                    repeat go_big_quiet_step (first | (go_at_call 11; with_reducible exact cH.out _))
                    exact wpQuiet_nil rfl
                  · change wpList _ _ _ _ _ _
                    go_wp2
                    go_roundw
                    case rel => exact ⟨k + 1, by omega, by go_num, by rw [HN.out]; simp, Lib.hid hJ8⟩
                    case measure => simp [intOf]; omega
            · obtain rfl : k = i := by omega
              rw [List.take_of_length_le (by rw [HTS.out]; exact Nat.le_refl _), HF.out]
              go_wp2_with (go_at_call 12; refine (HIT.out _ hS.out.c2).mono ?_; rintro e w' ⟨rfl, rfl⟩)
              go_ret
              exact ⟨rfl, hS.out.below⟩

end Go.Proofs.Ytnojenokeggpoaa.Walk
