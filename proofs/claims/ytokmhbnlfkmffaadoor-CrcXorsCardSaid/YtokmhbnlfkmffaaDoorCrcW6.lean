/- The walk of CrcXors. -/
import Derived.Test.YtokmhbnlfkmffaaDoorCrcW1
import Derived.Test.YtokmhbnlfkmffaaDoorInv
import Derived.Laws.OwnMore
import Derived.Deep.AppendLies
import Derived.Deep.RegionHeld
import Derived.Deep.OwnRows
namespace Go.Proofs.YtokmhbnlfkmffaaDoor.Walk
open Go.RowKit Go.ChangeShapes Go.Proofs.YtokmhbnlfkmffaaDoor.Plain Go.Proofs.YtokmhbnlfkmffaaDoor.Sees Go.Proofs.YtokmhbnlfkmffaaDoor.Oct Go.Proofs.YtokmhbnlfkmffaaDoor.Crc
set_option linter.unusedVariables false
attribute [local go_sem ↓] Go.wp_at_zero Go.wp_at_succ

theorem bAlloc {w W : World} (h : Below w.heap.size w W) (o : Obj) : Below w.heap.size w (W.alloc o) := h.alloc h.size o
theorem bDrew {w W : World} (h : Below w.heap.size w W) : Below w.heap.size w W.drew := h.drew
theorem xor3_u8 (a b c : Int) (ha : 0 ≤ a ∧ a ≤ 255) (hb : 0 ≤ b ∧ b ≤ 255) (hc : 0 ≤ c ∧ c ≤ 255) : ∃ d e : Nat, bits .xor .u8 a b = (d : Int) ∧ bits .xor .u8 (d : Int) c = (e : Int) ∧ e ≤ 255 ∧ e = a.toNat ^^^ b.toNat ^^^ c.toNat := by
  obtain ⟨x, rfl⟩ := Int.eq_ofNat_of_zero_le ha.1
  obtain ⟨y, rfl⟩ := Int.eq_ofNat_of_zero_le hb.1
  obtain ⟨z, rfl⟩ := Int.eq_ofNat_of_zero_le hc.1
  have h1 : x ^^^ y < 2 ^ 8 := Nat.xor_lt_two_pow (by omega) (by omega)
  have h2 : x ^^^ y ^^^ z < 2 ^ 8 := Nat.xor_lt_two_pow h1 (by omega)
  exact ⟨x ^^^ y, x ^^^ y ^^^ z, u8_xor_nat x y (by omega) (by omega), u8_xor_nat _ z (by omega) (by omega), by omega, by simp⟩

theorem Of_c1 (W : World) (g : Nat) (A : Option Addr) (n c : Nat) (bs : List Int) (q : Nat) (hc : W.cell? ⟨g, 0, none⟩ = some (.slice A n c)) (ht : Tab W) (hl : bs.length = n) (hn : n ≤ 1000000) (hnc : n ≤ c) (hs : Sees W W.heap.size A (nums .u8 bs)) (hb : ∀ b ∈ bs, 0 ≤ b ∧ b ≤ 255) (hq : crc bs = q) :
    Calls Tryd.prog 11 #[.slice (some ⟨g, 0, none⟩) 1 1] W fun e w' => e = .returned (.int .u32 (q : Int)) ∧ W = w' := by
  subst hl
  subst hq
  exact Of_one g ⟨A, c, bs⟩ _ ht hn (World.block_lt_of_cell? W _ hc) hc ⟨hnc, hs, hb⟩

/-- a block that holds one slice -/
def Built (v : Value) (W : World) (u : Value) : Prop := ∃ h, v = .slice (some ⟨h, 0, none⟩) 1 1 ∧ W.cell? ⟨h, 0, none⟩ = some u
/-- What holds of each operation's value in the last region. -/
def XF (k g c0 c1 c2 c3 y len0 len1 len2 cap0 cap1 cap2 : Nat) (a0 a1 a2 : Option Addr) (i : Nat) (v : Value) (W : World) : Prop :=
  match i with
  | 0 => v = .slice (some ⟨g, 0, none⟩) k k
  | 1 => Built v W (.slice (some ⟨g, 0, none⟩) k k)
  | 2 => v = .int .u32 c3
  | 3 => v = .slice a0 len0 cap0
  | 4 => v = .int .i64 k
  | 5 => v = .slice a0 k cap0
  | 6 => Built v W (.slice a0 k cap0)
  | 7 => v = .int .u32 c0
  | 8 => v = .slice a1 len1 cap1
  | 9 => v = .int .i64 k
  | 10 => v = .slice a1 k cap1
  | 11 => Built v W (.slice a1 k cap1)
  | 12 => v = .int .u32 c1
  | 13 => v = .int .u32 y
  | 14 => v = .slice a2 len2 cap2
  | 15 => v = .int .i64 k
  | 16 => v = .slice a2 k cap2
  | 17 => Built v W (.slice a2 k cap2)
  | 18 => v = .int .u32 c2
  | 19 => v = .int .u32 c3
  | 20 => v = .bool true
  | 21 => v = .bool true
  | _ => True
theorem Built.kept {v u : Value} {W W' : World} (h : Built v W u) (hb : Below W.heap.size W W') : Built v W' u := by
  obtain ⟨h, rfl, hc⟩ := h
  exact ⟨h, rfl, (hb.cell (p := ⟨h, 0, none⟩) (World.block_lt_of_cell? W _ hc)).trans hc⟩

set_option maxRecDepth 100000 in
set_option maxHeartbeats 3200000 in
theorem crcXors_walk (w : World) (ht : Tab w) (a0 : Option Addr) (len0 cap0 : Nat) (z0 : List Int) (a1 : Option Addr) (len1 cap1 : Nat) (z1 : List Int) (a2 : Option Addr) (len2 cap2 : Nat) (z2 : List Int)
    (hl0 : z0.length = len0) (hc0 : len0 ≤ cap0) (hx0 : cap0 ≤ maxLen) (hs0 : Sees w w.heap.size a0 (nums .u8 z0)) (hw0 : ∀ n ∈ z0, (Lit.int .u8 n).wf = true)
    (hl1 : z1.length = len1) (hc1 : len1 ≤ cap1) (hx1 : cap1 ≤ maxLen) (hs1 : Sees w w.heap.size a1 (nums .u8 z1)) (hw1 : ∀ n ∈ z1, (Lit.int .u8 n).wf = true)
    (hl2 : z2.length = len2) (hc2 : len2 ≤ cap2) (hx2 : cap2 ≤ maxLen) (hs2 : Sees w w.heap.size a2 (nums .u8 z2)) (hw2 : ∀ n ∈ z2, (Lit.int .u8 n).wf = true) :
    Calls Tryd.prog 6 #[.slice a0 len0 cap0, .slice a1 len1 cap1, .slice a2 len2 cap2] w fun e w' => e = .returned (.bool true) ∧ Below w.heap.size w w' := by
  unfold maxLen at hx0 hx1 hx2
  have hz0 : ∀ x ∈ z0, 0 ≤ x ∧ x ≤ 255 := fun x hx => bounds_u8 (hw0 x hx)
  have hz1 : ∀ x ∈ z1, 0 ≤ x ∧ x ≤ 255 := fun x hx => bounds_u8 (hw1 x hx)
  have hz2 : ∀ x ∈ z2, 0 ≤ x ∧ x ≤ 255 := fun x hx => bounds_u8 (hw2 x hx)
  clear hw0 hw1 hw2
  obtain ⟨i0, hi, hq0, hq1, hq2⟩ := info_parts info_u8
  have m1 : ∀ W, (Builtin.min_ #[3, 3] 3 #[.int .i64 (len0 : Int), .int .i64 (len1 : Int)]).run Tryd.prog W = .ok (.int .i64 ((min len0 len1 : Nat) : Int)) W := fun W => by
    rw [run_min_int2]
    congr 2
    split <;> omega
  have m2 : ∀ W, (Builtin.min_ #[3, 3] 3 #[.int .i64 ((min len0 len1 : Nat) : Int), .int .i64 (len2 : Int)]).run Tryd.prog W = .ok (.int .i64 ((min (min len0 len1) len2 : Nat) : Int)) W := fun W => by
    rw [run_min_int2]
    congr 2
    split <;> omega
  have b0 : min (min len0 len1) len2 ≤ len0 := by omega
  have b1 : min (min len0 len1) len2 ≤ len1 := by omega
  have b2 : min (min len0 len1) len2 ≤ len2 := by omega
  generalize min (min len0 len1) len2 = n at *
  generalize min len0 len1 = n1 at *
  have HT := Lib.hid ht
  clear ht
  by_cases hbig : 600 < n
  · have hbig' : (600 : Int) < (n : Int) := by omega
    clear hl0 hl1 hl2 hz0 hz1 hz2
    go_enter Tryd.func6, Tryd.ntmps6
    go_wp2_with (go_at_call 9; refine (awake_any _ HT.out).mono ?_; rintro e w1 ⟨rfl, hd1⟩)
    go_ret
    exact ⟨rfl, hd1⟩
  · have h1 : n ≤ 600 := by omega
    clear hbig
    have l0 : (z0.take n).length = n := by rw [List.length_take]; omega
    have l1 : (z1.take n).length = n := by rw [List.length_take]; omega
    have l2 : (z2.take n).length = n := by rw [List.length_take]; omega
    have hz0 : ∀ x ∈ z0.take n, 0 ≤ x ∧ x ≤ 255 := fun x h => hz0 x (List.mem_of_mem_take h)
    have hz1 : ∀ x ∈ z1.take n, 0 ≤ x ∧ x ≤ 255 := fun x h => hz1 x (List.mem_of_mem_take h)
    have hz2 : ∀ x ∈ z2.take n, 0 ≤ x ∧ x ≤ 255 := fun x h => hz2 x (List.mem_of_mem_take h)
    have hs0 := sees_front hs0 n
    have hs1 := sees_front hs1 n
    have hs2 := sees_front hs2 n
    generalize z0.take n = x0 at *
    generalize z1.take n = x1 at *
    generalize z2.take n = x2 at *
    have L0 := Lib.hid l0
    have L1 := Lib.hid l1
    have L2 := Lib.hid l2
    have Z0 := Lib.hid hz0
    have Z1 := Lib.hid hz1
    have Z2 := Lib.hid hz2
    clear hl0 hl1 hl2 hz0 hz1 hz2 l0 l1 l2
    rename_i hz0' hz1' hz2'
    clear hz0' hz1' hz2'
    have hmk : ∀ W, (Instr.makeSlice 22 (.int .i64 (n : Int)) (.int .i64 (n : Int))).run Tryd.prog W = .ok (.slice (some ⟨W.heap.size, 0, none⟩) n n) (W.alloc (.cells (madeCells #[.int .u8 0] n) 5)) := fun W =>
      run_make_row' 22 5 (.int .u8 0) 1 Tryd.underlying22 info_u8 rfl .i64 .i64 n (by omega) (by omega) W
    have hmc : (madeCells #[.int .u8 0] n).toList = nums .u8 (List.replicate n 0) := by
      rw [toList_madeCells_one]
      simp [nums]
    have HMC := Lib.hid hmc
    clear hmc
    go_enter Tryd.func6, Tryd.ntmps6
    go_wp2_with (go_at_call 9; refine (awake_any _ HT.out).mono ?_; rintro e w1 ⟨rfl, hd1⟩)
    clear hmk m1 m2
    have hown0 : (w1.alloc (.cells (madeCells #[.int .u8 0] n) 5)).ownsRow w1.heap.size 5 1 (.slice (some ⟨w1.heap.size, 0, none⟩) n n) n (nums .u8 (List.replicate n 0)) := by
      rw [← HMC.out]
      exact World.ownsRow_lit w1 _ n (Nat.le_refl _) (by unfold maxLen; omega) (by rw [size_madeCells, Nat.mul_one])
    have hbel0 : Below w1.heap.size w1 (w1.alloc (.cells (madeCells #[.int .u8 0] n) 5)) := (Below.refl _ _).alloc (Nat.le_refl _) _
    generalize hG : w1.heap.size = g at *
    have hg1 : w.heap.size ≤ g := by rw [← hG]; exact hd1.size
    have HG := Lib.hid hG
    clear hG
    go_loopw [10] (fun i wr => ∃ (k : Nat) (xs : List Int), k ≤ n ∧ i = .int .i64 k ∧ xs.length = n ∧ wr.ownsRow g 5 1 (.slice (some ⟨g, 0, none⟩) n n) n (nums .u8 xs) ∧ (∀ x ∈ xs, 0 ≤ x ∧ x ≤ 255) ∧
        (∀ j, j < k → (xs[j]?.getD 0).toNat = (x0[j]?.getD 0).toNat ^^^ (x1[j]?.getD 0).toNat ^^^ (x2[j]?.getD 0).toNat) ∧ Below g w1 wr) (fun i _ => n - (intOf i).toNat)
    case atStart => exact ⟨0, _, Nat.zero_le _, rfl, by simp, hown0, (fun x hx => by rw [List.eq_of_mem_replicate hx]; omega), (fun j hj => by omega), hbel0⟩
    case round =>
      obtain ⟨k, xs, hk, rfl, hxl, hown, hxb, hxx, hbel⟩ := hrel
      have HXL := Lib.hid hxl
      have HXB := Lib.hid hxb
      have HXX := Lib.hid hxx
      clear hxl hxb hxx
      have hbw : Below w.heap.size w wr := hd1.trans (hbel.mono hg1)
      have hsz := hbel.size
      by_cases hlt : k < n
      · obtain ⟨p0, o0, hp0, hp0b, hcc0⟩ := hs0.at_ (nums_at .u8 x0 k (by rw [L0.out]; exact hlt))
        obtain ⟨p1, o1, hp1, hp1b, hcc1⟩ := hs1.at_ (nums_at .u8 x1 k (by rw [L1.out]; exact hlt))
        obtain ⟨p2, o2, hp2, hp2b, hcc2⟩ := hs2.at_ (nums_at .u8 x2 k (by rw [L2.out]; exact hlt))
        subst hp0 hp1 hp2
        have hcc0 := (bcell hbw p0 (o0 + k) hp0b).trans hcc0
        have hcc1 := (bcell hbw p1 (o1 + k) hp1b).trans hcc1
        have hcc2 := (bcell hbw p2 (o2 + k) hp2b).trans hcc2
        have hy0 := Z0.out _ (get_mem x0 k (by rw [L0.out]; exact hlt) 0)
        have hy1 := Z1.out _ (get_mem x1 k (by rw [L1.out]; exact hlt) 0)
        have hy2 := Z2.out _ (get_mem x2 k (by rw [L2.out]; exact hlt) 0)
        have hc1 := hown.cellAt k (by omega)
        rw [nums_at .u8 xs k (by rw [HXL.out]; exact hlt)] at hc1
        have hf1 := hown.frozenAt k
        obtain ⟨d, e, E1, E2, he, hee⟩ := xor3_u8 _ _ _ hy0 hy1 hy2
        have HEE := Lib.hid hee
        clear hee
        generalize hv0 : x0[k]?.getD 0 = v0 at *
        generalize hv1 : x1[k]?.getD 0 = v1 at *
        generalize hv2 : x2[k]?.getD 0 = v2 at *
        generalize xs[k]?.getD 0 = v3 at *
        have HV0 := Lib.hid hv0
        have HV1 := Lib.hid hv1
        have HV2 := Lib.hid hv2
        clear hv0 hv1 hv2
        have r1 : (0 : Int) ≤ (k : Int) := by omega
        have r2 : (k : Int) < (n : Int) := by omega
        have r3 : (k : Int) < (len0 : Int) := by omega
        have r4 : (k : Int) < (len1 : Int) := by omega
        have r5 : (k : Int) < (len2 : Int) := by omega
        have kf : ∀ (p o : Nat) (u v : Value), p < w.heap.size → wr.cell? ⟨p, o, none⟩ = some u → (wr.setCell ⟨g, k, none⟩ v).drew.cell? ⟨p, o, none⟩ = some u := fun p o u v hp hc =>
          (World.cell?_setCell_other wr ⟨g, k, none⟩ ⟨p, o, none⟩ v (by intro e; injection e with e; omega)).trans hc
        have K0 := fun v => kf _ _ _ v hp0b hcc0
        have K1 := fun v => kf _ _ _ v hp1b hcc1
        have K2 := fun v => kf _ _ _ v hp2b hcc2
        have KK0 := Lib.hid K0
        have KK1 := Lib.hid K1
        have KK2 := Lib.hid K2
        clear kf K0 K1 K2
        go_wp2
        go_region_held (fun W' => W'.cell? ⟨p0, o0 + k, none⟩ = some (.int .u8 v0) ∧ W'.cell? ⟨p1, o1 + k, none⟩ = some (.int .u8 v1) ∧ W'.cell? ⟨p2, o2 + k, none⟩ = some (.int .u8 v2)) (first | exact ⟨KK0.out _, KK1.out _, KK2.out _⟩ | go_keep) (fail)
        go_wp2
        go_roundw
        case rel =>
          refine ⟨k + 1, xs.set k (e : Int), by omega, by go_num, by rw [List.length_set]; exact HXL.out, ?_, fun x hx => ?_, fun j hj => ?_, (hbel.setCell (Nat.le_refl g) _).drew⟩
          · have h5 := (hown.stored k (.int .u8 (e : Int))).1
            rw [nums, List.map_set]
            exact h5.drew
          · rcases List.mem_or_eq_of_mem_set hx with h | h
            · exact HXB.out x h
            · subst h; omega
          · by_cases hjk : j = k
            · subst hjk
              rw [List.getElem?_set_self (by rw [HXL.out]; exact hlt), HV0.out, HV1.out, HV2.out]
              exact HEE.out
            · rw [List.getElem?_set_ne (fun h => hjk h.symm)]
              exact HXX.out j (by omega)
        case measure => simp [intOf]; omega
      · obtain rfl : k = n := by omega
        have hsum := crc_three k x0 x1 x2 xs L0.out L1.out L2.out HXL.out Z0.out Z1.out Z2.out HXB.out HXX.out
        have q0 := crc_lt x0
        have q1 := crc_lt x1
        have q2 := crc_lt x2
        obtain ⟨y, E1, y4⟩ : ∃ y : Nat, bits .xor .u32 (crc x0 : Nat) (crc x1 : Nat) = (y : Int) ∧ y < 4294967296 ∧ crc x0 ^^^ crc x1 = y := ⟨_, xor_u32 _ _ q0 q1, xor_lt32 _ _ q0 q1, rfl⟩
        have E2 : bits .xor .u32 (y : Int) (crc x2 : Nat) = ((crc xs : Nat) : Int) := by rw [xor_u32 _ _ y4.1 q2, hsum, y4.2]
        have HA : ∀ W, Below wr.heap.size wr W → Tab W ∧ Sees W W.heap.size (some ⟨g, 0, none⟩) (nums .u8 xs) ∧ Sees W W.heap.size a0 (nums .u8 x0) ∧ Sees W W.heap.size a1 (nums .u8 x1) ∧ Sees W W.heap.size a2 (nums .u8 x2) := fun W h => by
          have hw := hbw.trans (h.mono hbw.size)
          exact ⟨HT.out.next hw, ((Sees.own hown).below h (Nat.le_refl _)).more h.size, (hs0.below hw (Nat.le_refl _)).more hw.size, (hs1.below hw (Nat.le_refl _)).more hw.size, (hs2.below hw (Nat.le_refl _)).more hw.size⟩
        have H := Lib.hid HA
        have HSUM := Lib.hid hsum
        generalize hc0' : crc x0 = c0 at *
        generalize hc1' : crc x1 = c1 at *
        generalize hc2' : crc x2 = c2 at *
        generalize hc3' : crc xs = c3 at *
        have C0 := Lib.hid hc0'
        have C1 := Lib.hid hc1'
        have C2 := Lib.hid hc2'
        have C3 := Lib.hid hc3'
        clear hc0' hc1' hc2' hc3' HA hsum HSUM y4
        have r1 : (0 : Int) ≤ (k : Int) := by omega
        have r3 : (k : Int) ≤ (cap0 : Int) := by omega
        have r4 : (k : Int) ≤ (cap1 : Int) := by omega
        have r5 : (k : Int) ≤ (cap2 : Int) := by omega
        have HBW := Lib.hid hbw
        go_wp2
        refine Inv.wp_region_inv (XF k g c0 c1 c2 c3 y len0 len1 len2 cap0 cap1 cap2 a0 a1 a2) (by kernel_rfl) (by kernel_rfl) (by kernel_rfl) ?_ ?_ ?_
        · intro i v W W' _ h hb
          unfold XF at h ⊢
          split at h <;> first | exact h | exact Built.kept h hb
        · intro i o x W K ho hB hd hK
          have HH := H.out W hB
          have HX := Lib.hid HH
          clear HH
          match i, ho with
          | 0, ho =>
            obtain rfl := Option.some.inj ho
            simp only [Inv.fill, Act.put, List.setIfInBounds_toArray, List.set_cons_zero, List.set_cons_succ] at hK ⊢
            clear hd ho
            rw [wpOp]
            refine (if_pos rfl).mpr (.inl ?_)
            go_simp
            exact hK _ _ (Below.refl _ _) rfl
          | 1, ho =>
            obtain rfl := Option.some.inj ho
            have e0 : x 0 = .slice (some ⟨g, 0, none⟩) k k := hd ⟨0, .data⟩ (by simp) rfl
            simp only [Inv.fill, Act.put, List.setIfInBounds_toArray, List.set_cons_zero, List.set_cons_succ, e0] at hK ⊢
            clear e0
            clear hd ho
            rw [wpOp]
            refine (if_pos rfl).mpr (.inl ?_)
            go_simp
            exact hK _ _ ((Below.refl _ _).alloc (Nat.le_refl _) _) ⟨W.heap.size, rfl, by simp⟩
          | 2, ho =>
            obtain rfl := Option.some.inj ho
            obtain ⟨h1, e1, b1⟩ := hd ⟨1, .data⟩ (by simp) rfl
            simp only [Inv.fill, Act.put, List.setIfInBounds_toArray, List.set_cons_zero, List.set_cons_succ, e1] at hK ⊢
            clear e1
            clear hd ho
            rw [wpOp]
            refine (if_pos rfl).mpr (.inl ?_)
            have hof := Of_c1 W _ _ k k xs c3 b1 HX.out.1 HXL.out (by omega) (by omega) HX.out.2.1 HXB.out C3.out
            go_simp
            refine hof.mono ?_
            rintro e w2 ⟨rfl, rfl⟩
            exact hK _ _ (Below.refl _ _) rfl
          | 3, ho =>
            obtain rfl := Option.some.inj ho
            simp only [Inv.fill, Act.put, List.setIfInBounds_toArray, List.set_cons_zero, List.set_cons_succ] at hK ⊢
            clear hd ho
            rw [wpOp]
            refine (if_pos rfl).mpr (.inl ?_)
            go_simp
            exact hK _ _ (Below.refl _ _) rfl
          | 4, ho =>
            obtain rfl := Option.some.inj ho
            simp only [Inv.fill, Act.put, List.setIfInBounds_toArray, List.set_cons_zero, List.set_cons_succ] at hK ⊢
            clear hd ho
            rw [wpOp]
            refine (if_pos rfl).mpr (.inl ?_)
            go_simp
            exact hK _ _ (Below.refl _ _) rfl
          | 5, ho =>
            obtain rfl := Option.some.inj ho
            have e3 : x 3 = .slice a0 len0 cap0 := hd ⟨3, .data⟩ (by simp) rfl
            have e4 : x 4 = .int .i64 k := hd ⟨4, .data⟩ (by simp) rfl
            simp only [Inv.fill, Act.put, List.setIfInBounds_toArray, List.set_cons_zero, List.set_cons_succ, e3, e4] at hK ⊢
            clear e3
            clear e4
            clear hd ho
            rw [wpOp]
            refine (if_pos rfl).mpr (.inl ?_)
            go_simp
            exact hK _ _ (Below.refl _ _) rfl
          | 6, ho =>
            obtain rfl := Option.some.inj ho
            have e5 : x 5 = .slice a0 k cap0 := hd ⟨5, .data⟩ (by simp) rfl
            simp only [Inv.fill, Act.put, List.setIfInBounds_toArray, List.set_cons_zero, List.set_cons_succ, e5] at hK ⊢
            clear e5
            clear hd ho
            rw [wpOp]
            refine (if_pos rfl).mpr (.inl ?_)
            go_simp
            exact hK _ _ ((Below.refl _ _).alloc (Nat.le_refl _) _) ⟨W.heap.size, rfl, by simp⟩
          | 7, ho =>
            obtain rfl := Option.some.inj ho
            obtain ⟨h6, e6, b6⟩ := hd ⟨6, .data⟩ (by simp) rfl
            simp only [Inv.fill, Act.put, List.setIfInBounds_toArray, List.set_cons_zero, List.set_cons_succ, e6] at hK ⊢
            clear e6
            clear hd ho
            rw [wpOp]
            refine (if_pos rfl).mpr (.inl ?_)
            have hof := Of_c1 W _ _ k cap0 x0 c0 b6 HX.out.1 L0.out (by omega) (by omega) HX.out.2.2.1 Z0.out C0.out
            go_simp
            refine hof.mono ?_
            rintro e w2 ⟨rfl, rfl⟩
            exact hK _ _ (Below.refl _ _) rfl
          | 8, ho =>
            obtain rfl := Option.some.inj ho
            simp only [Inv.fill, Act.put, List.setIfInBounds_toArray, List.set_cons_zero, List.set_cons_succ] at hK ⊢
            clear hd ho
            rw [wpOp]
            refine (if_pos rfl).mpr (.inl ?_)
            go_simp
            exact hK _ _ (Below.refl _ _) rfl
          | 9, ho =>
            obtain rfl := Option.some.inj ho
            simp only [Inv.fill, Act.put, List.setIfInBounds_toArray, List.set_cons_zero, List.set_cons_succ] at hK ⊢
            clear hd ho
            rw [wpOp]
            refine (if_pos rfl).mpr (.inl ?_)
            go_simp
            exact hK _ _ (Below.refl _ _) rfl
          | 10, ho =>
            obtain rfl := Option.some.inj ho
            have e8 : x 8 = .slice a1 len1 cap1 := hd ⟨8, .data⟩ (by simp) rfl
            have e9 : x 9 = .int .i64 k := hd ⟨9, .data⟩ (by simp) rfl
            simp only [Inv.fill, Act.put, List.setIfInBounds_toArray, List.set_cons_zero, List.set_cons_succ, e8, e9] at hK ⊢
            clear e8
            clear e9
            clear hd ho
            rw [wpOp]
            refine (if_pos rfl).mpr (.inl ?_)
            go_simp
            exact hK _ _ (Below.refl _ _) rfl
          | 11, ho =>
            obtain rfl := Option.some.inj ho
            have e10 : x 10 = .slice a1 k cap1 := hd ⟨10, .data⟩ (by simp) rfl
            simp only [Inv.fill, Act.put, List.setIfInBounds_toArray, List.set_cons_zero, List.set_cons_succ, e10] at hK ⊢
            clear e10
            clear hd ho
            rw [wpOp]
            refine (if_pos rfl).mpr (.inl ?_)
            go_simp
            exact hK _ _ ((Below.refl _ _).alloc (Nat.le_refl _) _) ⟨W.heap.size, rfl, by simp⟩
          | 12, ho =>
            obtain rfl := Option.some.inj ho
            obtain ⟨h11, e11, b11⟩ := hd ⟨11, .data⟩ (by simp) rfl
            simp only [Inv.fill, Act.put, List.setIfInBounds_toArray, List.set_cons_zero, List.set_cons_succ, e11] at hK ⊢
            clear e11
            clear hd ho
            rw [wpOp]
            refine (if_pos rfl).mpr (.inl ?_)
            have hof := Of_c1 W _ _ k cap1 x1 c1 b11 HX.out.1 L1.out (by omega) (by omega) HX.out.2.2.2.1 Z1.out C1.out
            go_simp
            refine hof.mono ?_
            rintro e w2 ⟨rfl, rfl⟩
            exact hK _ _ (Below.refl _ _) rfl
          | 13, ho =>
            obtain rfl := Option.some.inj ho
            have e7 : x 7 = .int .u32 c0 := hd ⟨7, .data⟩ (by simp) rfl
            have e12 : x 12 = .int .u32 c1 := hd ⟨12, .data⟩ (by simp) rfl
            simp only [Inv.fill, Act.put, List.setIfInBounds_toArray, List.set_cons_zero, List.set_cons_succ, e7, e12] at hK ⊢
            clear e7
            clear e12
            clear hd ho
            rw [wpOp]
            refine (if_pos rfl).mpr (.inl ?_)
            go_simp
            exact hK _ _ (Below.refl _ _) rfl
          | 14, ho =>
            obtain rfl := Option.some.inj ho
            simp only [Inv.fill, Act.put, List.setIfInBounds_toArray, List.set_cons_zero, List.set_cons_succ] at hK ⊢
            clear hd ho
            rw [wpOp]
            refine (if_pos rfl).mpr (.inl ?_)
            go_simp
            exact hK _ _ (Below.refl _ _) rfl
          | 15, ho =>
            obtain rfl := Option.some.inj ho
            simp only [Inv.fill, Act.put, List.setIfInBounds_toArray, List.set_cons_zero, List.set_cons_succ] at hK ⊢
            clear hd ho
            rw [wpOp]
            refine (if_pos rfl).mpr (.inl ?_)
            go_simp
            exact hK _ _ (Below.refl _ _) rfl
          | 16, ho =>
            obtain rfl := Option.some.inj ho
            have e14 : x 14 = .slice a2 len2 cap2 := hd ⟨14, .data⟩ (by simp) rfl
            have e15 : x 15 = .int .i64 k := hd ⟨15, .data⟩ (by simp) rfl
            simp only [Inv.fill, Act.put, List.setIfInBounds_toArray, List.set_cons_zero, List.set_cons_succ, e14, e15] at hK ⊢
            clear e14
            clear e15
            clear hd ho
            rw [wpOp]
            refine (if_pos rfl).mpr (.inl ?_)
            go_simp
            exact hK _ _ (Below.refl _ _) rfl
          | 17, ho =>
            obtain rfl := Option.some.inj ho
            have e16 : x 16 = .slice a2 k cap2 := hd ⟨16, .data⟩ (by simp) rfl
            simp only [Inv.fill, Act.put, List.setIfInBounds_toArray, List.set_cons_zero, List.set_cons_succ, e16] at hK ⊢
            clear e16
            clear hd ho
            rw [wpOp]
            refine (if_pos rfl).mpr (.inl ?_)
            go_simp
            exact hK _ _ ((Below.refl _ _).alloc (Nat.le_refl _) _) ⟨W.heap.size, rfl, by simp⟩
          | 18, ho =>
            obtain rfl := Option.some.inj ho
            obtain ⟨h17, e17, b17⟩ := hd ⟨17, .data⟩ (by simp) rfl
            simp only [Inv.fill, Act.put, List.setIfInBounds_toArray, List.set_cons_zero, List.set_cons_succ, e17] at hK ⊢
            clear e17
            clear hd ho
            rw [wpOp]
            refine (if_pos rfl).mpr (.inl ?_)
            have hof := Of_c1 W _ _ k cap2 x2 c2 b17 HX.out.1 L2.out (by omega) (by omega) HX.out.2.2.2.2 Z2.out C2.out
            go_simp
            refine hof.mono ?_
            rintro e w2 ⟨rfl, rfl⟩
            exact hK _ _ (Below.refl _ _) rfl
          | 19, ho =>
            obtain rfl := Option.some.inj ho
            have e13 : x 13 = .int .u32 y := hd ⟨13, .data⟩ (by simp) rfl
            have e18 : x 18 = .int .u32 c2 := hd ⟨18, .data⟩ (by simp) rfl
            simp only [Inv.fill, Act.put, List.setIfInBounds_toArray, List.set_cons_zero, List.set_cons_succ, e13, e18] at hK ⊢
            clear e13
            clear e18
            clear hd ho
            rw [wpOp]
            refine (if_pos rfl).mpr (.inl ?_)
            go_simp
            exact hK _ _ (Below.refl _ _) rfl
          | 20, ho =>
            obtain rfl := Option.some.inj ho
            have e2 : x 2 = .int .u32 c3 := hd ⟨2, .data⟩ (by simp) rfl
            have e19 : x 19 = .int .u32 c3 := hd ⟨19, .data⟩ (by simp) rfl
            simp only [Inv.fill, Act.put, List.setIfInBounds_toArray, List.set_cons_zero, List.set_cons_succ, e2, e19] at hK ⊢
            clear e2
            clear e19
            clear hd ho
            rw [wpOp]
            refine (if_pos rfl).mpr (.inl ?_)
            go_simp
            exact hK _ _ (Below.refl _ _) rfl
          | 21, ho =>
            obtain rfl := Option.some.inj ho
            have e20 : x 20 = .bool true := hd ⟨20, .data⟩ (by simp) rfl
            simp only [Inv.fill, Act.put, List.setIfInBounds_toArray, List.set_cons_zero, List.set_cons_succ, e20] at hK ⊢
            clear e20
            clear hd ho
            rw [wpOp]
            refine (if_pos rfl).mpr (.inl ?_)
            go_simp
            exact hK _ _ (Below.refl _ _) rfl
          | n + 22, ho => simp at ho
        · intro x W hB hx
          have e21 : x 21 = .bool true := hx 21 (by simp)
          simp only [Inv.fill, Act.put, List.setIfInBounds_toArray, List.set_cons_zero, List.set_cons_succ, e21]
          clear hx e21
          go_wp2
          go_ret
          exact ⟨rfl, HBW.out.trans (hB.mono HBW.out.size)⟩

end Go.Proofs.YtokmhbnlfkmffaaDoor.Walk
