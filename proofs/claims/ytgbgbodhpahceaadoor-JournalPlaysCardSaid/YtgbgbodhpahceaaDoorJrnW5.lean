/- The walk of JournalPuts. -/
import Derived.Test.YtgbgbodhpahceaaDoorJrnX
import Derived.Test.YtgbgbodhpahceaaDoorJrnY
import Derived.Test.YtgbgbodhpahceaaDoorSlotX
import Derived.Test.YtgbgbodhpahceaaDoorOpen
namespace Go.Proofs.YtgbgbodhpahceaaDoor.Walk
open Go.RowKit Go.ChangeShapes Go.Proofs.YtgbgbodhpahceaaDoor.Plain Go.Proofs.YtgbgbodhpahceaaDoor.Sees Go.Proofs.YtgbgbodhpahceaaDoor.Oct Go.Proofs.YtgbgbodhpahceaaDoor.Crc Go.Proofs.YtgbgbodhpahceaaDoor.Box Go.Proofs.YtgbgbodhpahceaaDoor.Held Go.Proofs.YtgbgbodhpahceaaDoor.JrnP Go.Proofs.YtgbgbodhpahceaaDoor.Open Go.Proofs.YtgbgbodhpahceaaDoor.LgrP Go.Proofs.YtgbgbodhpahceaaDoor.Jrn
set_option linter.unusedVariables false
set_option linter.unusedSimpArgs false
set_option maxRecDepth 100000

theorem get_few {z : List Int} (hb : By z) : 8 * (JrnP.get z).l.length ≤ z.length := by
  unfold JrnP.get
  rcases ho : opn z with _ | x
  · exact Nat.zero_le _
  · simp only
    rcases hp : parts x with _ | rows
    · exact Nat.zero_le _
    · simp only
      have hx := opn_len ho
      have hr := (parts_small x.length x rows (Nat.le_refl _) (opn_in ho hb) hp).2
      unfold getR
      split
      · rename_i r0 r1 r2
        have h2 := (hr r2 (by simp)).1
        split
        · split
          · simp only [gp_len]; omega
          · exact Nat.zero_le _
        · exact Nat.zero_le _
      · exact Nat.zero_le _

theorem conv_s0 {W : World} {A : Option Addr} {n c : Nat} {z : List Int} (h : SB W A n z) : (convert 26 9 (.slice A n c)).run Tryd.prog W = .ok (.string (strOfNums z)) W := conv_sees (c := c) h.see h.len

def PutF (bk3 bk9 bk12 n nl : Nat) (b m k s gb gm gs ge : Int) (l gl : List Pm) (A A20 A30 : Option Addr) (c c20 c30 : Nat) (pq : List Int) : Nat → Value → World → Prop := Slot.row [
fun vv _ => vv = .agg #[.int .i64 b, .int .i64 m, .int .i64 k, .slice A n c],
  fun vv _ => vv = .int .u64 s,
  fun vv w' => PS vv w' pq,
  fun vv _ => vv = .string (strOfNums pq),
  fun vv _ => vv = .agg #[.int .i64 b, .int .i64 m, .int .i64 k, .slice A n c],
  fun vv w' => GV vv w' b m k n l,
  fun vv _ => vv = .int .u64 s,
  fun vv _ => vv = .string (strOfNums pq),
  fun vv _ => vv = .bool true,
  fun vv _ => vv = .bool true,
  fun vv _ => vv = .agg #[.int .i64 gb, .int .i64 gm, .int .i64 0, .slice A20 nl c20],
  fun vv w' => GV vv w' gb gm 0 nl gl,
  fun vv _ => vv = .agg #[.int .i64 gb, .int .i64 gm, .int .i64 0, .slice A30 nl c30],
  fun vv _ => vv = .bool true,
  fun vv _ => vv = .bool true,
  fun vv _ => vv = .bool true,
  fun vv _ => vv = .int .u64 gs,
  fun vv _ => vv = .int .u64 gs,
  fun vv _ => vv = .bool true,
  fun vv _ => vv = .bool true,
  fun vv _ => vv = .bool true,
  fun vv _ => vv = .int .i64 ge,
  fun vv _ => vv = .int .i64 ge,
  fun vv _ => vv = .bool true,
  fun vv _ => vv = .bool true,
  fun vv _ => vv = .bool true]
theorem PutF_next (bk3 bk9 bk12 n nl : Nat) (b m k s gb gm gs ge : Int) (l gl : List Pm) (A A20 A30 : Option Addr) (c c20 c30 : Nat) (pq : List Int) : ∀ kk vv W W', PutF bk3 bk9 bk12 n nl b m k s gb gm gs ge l gl A A20 A30 c c20 c30 pq kk vv W → Below W.heap.size W W' → PutF bk3 bk9 bk12 n nl b m k s gb gm gs ge l gl A A20 A30 c c20 c30 pq kk vv W' := Slot.row_next ⟨fun _ _ _ h hb => h, fun _ _ _ h hb => h, fun _ _ _ h hb => PS.next h hb, fun _ _ _ h hb => h, fun _ _ _ h hb => h, fun _ _ _ h hb => GV.next h hb, fun _ _ _ h hb => h, fun _ _ _ h hb => h, fun _ _ _ h hb => h, fun _ _ _ h hb => h, fun _ _ _ h hb => h, fun _ _ _ h hb => GV.next h hb, fun _ _ _ h hb => h, fun _ _ _ h hb => h, fun _ _ _ h hb => h, fun _ _ _ h hb => h, fun _ _ _ h hb => h, fun _ _ _ h hb => h, fun _ _ _ h hb => h, fun _ _ _ h hb => h, fun _ _ _ h hb => h, fun _ _ _ h hb => h, fun _ _ _ h hb => h, fun _ _ _ h hb => h, fun _ _ _ h hb => h, fun _ _ _ h hb => h, trivial⟩
theorem PutF_r0 (ρ : Operand → Value) (o : Oper) (W : World) (bk3 bk9 bk12 n nl : Nat) (b m k s gb gm gs ge : Int) (l gl : List Pm) (A A20 A30 : Option Addr) (c c20 c30 : Nat) (pq : List Int)  (ho : o.op = Op.load 24 (Operand.tmp 3)) (h0 : ρ (Operand.tmp 3) = .pointer (some ⟨bk3, 0, none⟩)) (g0 : W.cell? ⟨bk3, 0, none⟩ = some (.int .i64 b)) (g1 : W.cell? ⟨bk3, 1, none⟩ = some (.int .i64 m)) (g2 : W.cell? ⟨bk3, 2, none⟩ = some (.int .i64 k)) (g3 : W.cell? ⟨bk3, 3, none⟩ = some (.slice A n c)) : (execOp ρ o).run Tryd.prog W = .ok (.value (.agg #[.int .i64 b, .int .i64 m, .int .i64 k, .slice A n c])) W := by
  unfold execOp
  rw [ho]
  go_simp
theorem PutF_r4 (ρ : Operand → Value) (o : Oper) (W : World) (bk3 bk9 bk12 n nl : Nat) (b m k s gb gm gs ge : Int) (l gl : List Pm) (A A20 A30 : Option Addr) (c c20 c30 : Nat) (pq : List Int)  (ho : o.op = Op.load 24 (Operand.tmp 3)) (h0 : ρ (Operand.tmp 3) = .pointer (some ⟨bk3, 0, none⟩)) (g0 : W.cell? ⟨bk3, 0, none⟩ = some (.int .i64 b)) (g1 : W.cell? ⟨bk3, 1, none⟩ = some (.int .i64 m)) (g2 : W.cell? ⟨bk3, 2, none⟩ = some (.int .i64 k)) (g3 : W.cell? ⟨bk3, 3, none⟩ = some (.slice A n c)) : (execOp ρ o).run Tryd.prog W = .ok (.value (.agg #[.int .i64 b, .int .i64 m, .int .i64 k, .slice A n c])) W := by
  unfold execOp
  rw [ho]
  go_simp
theorem PutF_r8 (ρ : Operand → Value) (o : Oper) (W : World) (bk3 bk9 bk12 n nl : Nat) (b m k s gb gm gs ge : Int) (l gl : List Pm) (A A20 A30 : Option Addr) (c c20 c30 : Nat) (pq : List Int)  (ho : o.op = Op.binOp BinOp.eql 9 (Operand.tmp 43) (Operand.tmp 47) 9) (h0 : ρ (Operand.tmp 43) = .string (strOfNums pq)) (h1 : ρ (Operand.tmp 47) = .string (strOfNums pq)) : (execOp ρ o).run Tryd.prog W = .ok (.value (.bool true)) W := by
  unfold execOp
  rw [ho]
  go_simp
theorem PutF_r10 (ρ : Operand → Value) (o : Oper) (W : World) (bk3 bk9 bk12 n nl : Nat) (b m k s gb gm gs ge : Int) (l gl : List Pm) (A A20 A30 : Option Addr) (c c20 c30 : Nat) (pq : List Int)  (ho : o.op = Op.load 24 (Operand.tmp 9)) (h0 : ρ (Operand.tmp 9) = .pointer (some ⟨bk9, 0, none⟩)) (g0 : W.cell? ⟨bk9, 0, none⟩ = some (.int .i64 gb)) (g1 : W.cell? ⟨bk9, 1, none⟩ = some (.int .i64 gm)) (g2 : W.cell? ⟨bk9, 2, none⟩ = some (.int .i64 0)) (g3 : W.cell? ⟨bk9, 3, none⟩ = some (.slice A20 nl c20)) : (execOp ρ o).run Tryd.prog W = .ok (.value (.agg #[.int .i64 gb, .int .i64 gm, .int .i64 0, .slice A20 nl c20])) W := by
  unfold execOp
  rw [ho]
  go_simp
theorem PutF_r12 (ρ : Operand → Value) (o : Oper) (W : World) (bk3 bk9 bk12 n nl : Nat) (b m k s gb gm gs ge : Int) (l gl : List Pm) (A A20 A30 : Option Addr) (c c20 c30 : Nat) (pq : List Int)  (ho : o.op = Op.load 34 (Operand.tmp 12)) (h0 : ρ (Operand.tmp 12) = .pointer (some ⟨bk12, 0, none⟩)) (g0 : W.cell? ⟨bk12, 0, none⟩ = some (.int .i64 gb)) (g1 : W.cell? ⟨bk12, 1, none⟩ = some (.int .i64 gm)) (g2 : W.cell? ⟨bk12, 2, none⟩ = some (.int .i64 0)) (g3 : W.cell? ⟨bk12, 3, none⟩ = some (.slice A30 nl c30)) : (execOp ρ o).run Tryd.prog W = .ok (.value (.agg #[.int .i64 gb, .int .i64 gm, .int .i64 0, .slice A30 nl c30])) W := by
  unfold execOp
  rw [ho]
  go_simp
theorem PutF_r18 (ρ : Operand → Value) (o : Oper) (W : World) (bk3 bk9 bk12 n nl : Nat) (b m k s gb gm gs ge : Int) (l gl : List Pm) (A A20 A30 : Option Addr) (c c20 c30 : Nat) (pq : List Int)  (ho : o.op = Op.binOp BinOp.eql 25 (Operand.tmp 56) (Operand.tmp 57) 25) (h0 : ρ (Operand.tmp 56) = .int .u64 gs) (h1 : ρ (Operand.tmp 57) = .int .u64 gs) : (execOp ρ o).run Tryd.prog W = .ok (.value (.bool true)) W := by
  unfold execOp
  rw [ho]
  go_simp
theorem PutF_r23 (ρ : Operand → Value) (o : Oper) (W : World) (bk3 bk9 bk12 n nl : Nat) (b m k s gb gm gs ge : Int) (l gl : List Pm) (A A20 A30 : Option Addr) (c c20 c30 : Nat) (pq : List Int)  (ho : o.op = Op.binOp BinOp.eql 29 (Operand.tmp 61) (Operand.tmp 62) 29) (h0 : ρ (Operand.tmp 61) = .int .i64 ge) (h1 : ρ (Operand.tmp 62) = .int .i64 ge) : (execOp ρ o).run Tryd.prog W = .ok (.value (.bool true)) W := by
  unfold execOp
  rw [ho]
  go_simp

set_option maxHeartbeats 25600000 in
theorem journalPuts_walk (w : World) (ht : Tab w) (x : Lg) (s : Int) (a2 : Option Addr) (len2 cap2 : Nat) (z2 : List Int) (hx : x.In w) (hws : (Lit.int .u64 s).wf = true)
    (hl2 : z2.length = len2) (hc2 : len2 ≤ cap2) (hx2 : cap2 ≤ maxLen) (hs2 : Sees w w.heap.size a2 (nums .u8 z2)) (hw2 : ∀ n ∈ z2, (Lit.int .u8 n).wf = true) :
    Calls Tryd.prog 3 #[x.val, .int .u64 s, .slice a2 len2 cap2] w fun e w' => e = .returned (.bool true) ∧ Below w.heap.size w w' := by
  have hsb : 0 ≤ s ∧ s ≤ 18446744073709551615 := bounds_u64 hws
  have by2 : By z2 := fun b hb => bounds_u8 (hw2 b hb)
  have HI := Lib.hid (Lg.li hx)
  obtain ⟨b, m, k, A, c, l⟩ := x
  unfold Lg.val
  simp only at HI ⊢
  obtain ⟨n, hn⟩ : ∃ n, l.length = n := ⟨_, rfl⟩
  rw [hn] at HI ⊢
  have hX : Below w.heap.size w (w.alloc (.cells #[.int .i64 b, .int .i64 m, .int .i64 k, .slice A n c] 24)) := below_box
  have TB_0 := Lib.hid (ht.next hX)
  have BE_0 := Lib.hid (BW.mk hX)
  have LX_0 := Lib.hid (HI.out.next hX)
  have S2_0 := Lib.hid ((SB.mk hl2 hs2).next hX)
  have XB_0 := Lib.hid (BxT.new w #[.int .i64 b, .int .i64 m, .int .i64 k, .slice A n c] 24)
  by_cases hf : n ≤ 80
  · have f1 : decide (n ≤ 80) = true := decide_eq_true hf
    by_cases h800 : len2 ≤ 800
    · have d0 : decide ((800 : Int) < (len2 : Int)) = false := decide_eq_false (by omega)
      have hfew := get_few by2
      have HG : Hid (∀ W, Tab W → SB W a2 len2 z2 → Calls Tryd.prog 11 #[.slice a2 len2 cap2] W (GP W (JrnP.get z2))) := Lib.hid fun W h1 h2 => jGet_any z2 a2 len2 cap2 W hl2 (by omega) hc2 h1 h2.see by2
      have HR : Hid (∀ W, Calls Tryd.prog 12 #[.string (strOfNums z2)] W (RGP W (JrnP.get z2))) := Lib.hid fun W => rjGet_any z2 W (by omega) by2
      have HP : Hid (∀ W, Tab W → LI W A c n l → Calls Tryd.prog 13 #[.agg #[.int .i64 b, .int .i64 m, .int .i64 k, .slice A n c], .int .u64 s] W fun e w' => ∃ q : RowV, e = .returned q.val ∧ (RT w' q ∧ q.bs = put b m l s) ∧ Below W.heap.size W w') := Lib.hid fun W h1 h2 => put_at h2 (by omega) h1 b m k s hsb
      have HQ : Hid (∀ A' c' W, LI W A' c' n l → Calls Tryd.prog 14 #[.agg #[.int .i64 b, .int .i64 m, .int .i64 k, .slice A' n c'], .int .u64 s] W fun e w' => e = .returned (.string (strOfNums (put b m l s))) ∧ Below W.heap.size W w') := Lib.hid fun A' c' W h => rjPut_any A' c' n l W h.see hn (by omega) b m k s hsb
      generalize put b m l s = pq at *
      generalize JrnP.get z2 = g at *
      obtain ⟨ge, gb, gm, gl, gs⟩ := g
      simp only at hfew
      obtain ⟨nl, hnl⟩ : ∃ nl, gl.length = nl := ⟨_, rfl⟩
      have HG2 : Hid (∀ W, Tab W → SB W a2 len2 z2 → Calls Tryd.prog 11 #[.slice a2 len2 cap2] W fun e w' => ∃ A c, e = .returned (.tuple #[.agg #[.int .i64 gb, .int .i64 gm, .int .i64 0, .slice A nl c], .int .u64 gs, .int .i64 ge]) ∧ LI w' A c nl gl ∧ Below W.heap.size W w') := Lib.hid fun W h1 h2 => by
        refine (HG.out W h1 h2).mono ?_
        rintro e w' ⟨A', c', rfl, h1, h2, h3, h4⟩
        exact ⟨A', c', by simp only [hnl], ⟨hnl, by rw [← hnl]; exact h1, h2, h3.sees⟩, h4⟩
      have HR2 : Hid (∀ W, Calls Tryd.prog 12 #[.string (strOfNums z2)] W fun e w' => ∃ A c, e = .returned (.tuple #[.agg #[.int .i64 gb, .int .i64 gm, .int .i64 0, .slice A nl c], .int .u64 gs, .int .i64 ge]) ∧ LI w' A c nl gl ∧ Below W.heap.size W w') := Lib.hid fun W => by
        refine (HR.out W).mono ?_
        rintro e w' ⟨A', c', rfl, h1, h2, h3, h4⟩
        exact ⟨A', c', by simp only [hnl], ⟨hnl, by rw [← hnl]; exact h1, h2, h3.sees⟩, h4⟩
      have HN : Hid (n ≤ 100 ∧ nl ≤ 100) := Lib.hid ⟨by omega, by omega⟩
      clear HG HR hfew hnl ht hl2 hc2 hx2 hs2 hw2 hx hws hn by2 HI hX hsb
      go_enter Tryd.func3, Tryd.ntmps3
      go_wp2_with (first
        | (go_at_call 9; (refine (awake_any _ TB_0.out).mono ?_; rintro e w1 ⟨rfl, h1⟩; have TB_1 := Lib.hid (TB_0.out.next h1); have BE_1 := Lib.hid (BE_0.out.next h1); have LX_1 := Lib.hid (LX_0.out.next h1); have S2_1 := Lib.hid (S2_0.out.next h1); have XB_1 := Lib.hid (XB_0.out.next h1); clear TB_0 BE_0 LX_0 S2_0 XB_0 h1; obtain ⟨a0, a1, a2, a3⟩ := XB_1.out.bx.c4))
        | (go_at_call 10; (refine (few_at LX_1.out _ _ _).mono ?_; rintro e w2 ⟨rfl, h2⟩; have TB_2 := Lib.hid (TB_1.out.next h2); have BE_2 := Lib.hid (BE_1.out.next h2); have LX_2 := Lib.hid (LX_1.out.next h2); have S2_2 := Lib.hid (S2_1.out.next h2); have XB_2 := Lib.hid (XB_1.out.next h2); rw [f1]; clear TB_1 BE_1 LX_1 S2_1 XB_1 h2; obtain ⟨a0, a1, a2, a3⟩ := XB_2.out.bx.c4))
        | (go_at_call 11; (refine (HG2.out _ TB_2.out S2_2.out).mono ?_; rintro e w3 ⟨A20, c20, rfl, hl3, h3⟩; have TB_3 := Lib.hid ((TB_2.out.next h3).next (below_box (o := .cells #[.int .i64 gb, .int .i64 gm, .int .i64 0, .slice A20 nl c20] 24))); have BE_3 := Lib.hid ((BE_2.out.next h3).next (below_box (o := .cells #[.int .i64 gb, .int .i64 gm, .int .i64 0, .slice A20 nl c20] 24))); have LX_3 := Lib.hid ((LX_2.out.next h3).next (below_box (o := .cells #[.int .i64 gb, .int .i64 gm, .int .i64 0, .slice A20 nl c20] 24))); have S2_3 := Lib.hid ((S2_2.out.next h3).next (below_box (o := .cells #[.int .i64 gb, .int .i64 gm, .int .i64 0, .slice A20 nl c20] 24))); have XB_3 := Lib.hid ((XB_2.out.next h3).next (below_box (o := .cells #[.int .i64 gb, .int .i64 gm, .int .i64 0, .slice A20 nl c20] 24))); have ML_0 := Lib.hid (hl3.next (below_box (o := .cells #[.int .i64 gb, .int .i64 gm, .int .i64 0, .slice A20 nl c20] 24))); have MB_0 := Lib.hid (BxT.new w3 #[.int .i64 gb, .int .i64 gm, .int .i64 0, .slice A20 nl c20] 24); have kS0 := conv_s0 (c := cap2) S2_3.out; clear hl3; clear TB_2 BE_2 LX_2 S2_2 XB_2 h3; obtain ⟨a0, a1, a2, a3⟩ := XB_3.out.bx.c4))
        | (go_at_call 12; (refine (HR2.out _).mono ?_; rintro e w4 ⟨A30, c30, rfl, hl4, h4⟩; have TB_4 := Lib.hid ((TB_3.out.next h4).next (below_box (o := .cells #[.int .i64 gb, .int .i64 gm, .int .i64 0, .slice A30 nl c30] 34))); have BE_4 := Lib.hid ((BE_3.out.next h4).next (below_box (o := .cells #[.int .i64 gb, .int .i64 gm, .int .i64 0, .slice A30 nl c30] 34))); have LX_4 := Lib.hid ((LX_3.out.next h4).next (below_box (o := .cells #[.int .i64 gb, .int .i64 gm, .int .i64 0, .slice A30 nl c30] 34))); have S2_4 := Lib.hid ((S2_3.out.next h4).next (below_box (o := .cells #[.int .i64 gb, .int .i64 gm, .int .i64 0, .slice A30 nl c30] 34))); have XB_4 := Lib.hid ((XB_3.out.next h4).next (below_box (o := .cells #[.int .i64 gb, .int .i64 gm, .int .i64 0, .slice A30 nl c30] 34))); have ML_1 := Lib.hid ((ML_0.out.next h4).next (below_box (o := .cells #[.int .i64 gb, .int .i64 gm, .int .i64 0, .slice A30 nl c30] 34))); have MB_1 := Lib.hid ((MB_0.out.next h4).next (below_box (o := .cells #[.int .i64 gb, .int .i64 gm, .int .i64 0, .slice A30 nl c30] 34))); have RL_0 := Lib.hid (hl4.next (below_box (o := .cells #[.int .i64 gb, .int .i64 gm, .int .i64 0, .slice A30 nl c30] 34))); have RB_0 := Lib.hid (BxT.new w4 #[.int .i64 gb, .int .i64 gm, .int .i64 0, .slice A30 nl c30] 34); clear hl4; clear TB_3 BE_3 LX_3 S2_3 XB_3 ML_0 MB_0 h4; obtain ⟨a0, a1, a2, a3⟩ := XB_4.out.bx.c4)))
      have HA : Hid (∀ W', Below (w4.alloc (.cells #[.int .i64 gb, .int .i64 gm, .int .i64 0, .slice A30 nl c30] 34)).heap.size (w4.alloc (.cells #[.int .i64 gb, .int .i64 gm, .int .i64 0, .slice A30 nl c30] 34)) W' → (W'.cell? ⟨w.heap.size, 0, none⟩ = some (.int .i64 b) ∧ W'.cell? ⟨w.heap.size, 1, none⟩ = some (.int .i64 m) ∧ W'.cell? ⟨w.heap.size, 2, none⟩ = some (.int .i64 k) ∧ W'.cell? ⟨w.heap.size, 3, none⟩ = some (.slice A n c)) ∧ (W'.cell? ⟨w3.heap.size, 0, none⟩ = some (.int .i64 gb) ∧ W'.cell? ⟨w3.heap.size, 1, none⟩ = some (.int .i64 gm) ∧ W'.cell? ⟨w3.heap.size, 2, none⟩ = some (.int .i64 0) ∧ W'.cell? ⟨w3.heap.size, 3, none⟩ = some (.slice A20 nl c20)) ∧ (W'.cell? ⟨w4.heap.size, 0, none⟩ = some (.int .i64 gb) ∧ W'.cell? ⟨w4.heap.size, 1, none⟩ = some (.int .i64 gm) ∧ W'.cell? ⟨w4.heap.size, 2, none⟩ = some (.int .i64 0) ∧ W'.cell? ⟨w4.heap.size, 3, none⟩ = some (.slice A30 nl c30)) ∧ Tab W' ∧ LI W' A c n l ∧ LI W' A20 c20 nl gl ∧ LI W' A30 c30 nl gl) := Lib.hid fun W' hW => ⟨(XB_4.out.next hW).bx.c4, (MB_1.out.next hW).bx.c4, (RB_0.out.next hW).bx.c4, TB_4.out.next hW, LX_4.out.next hW, ML_1.out.next hW, RL_0.out.next hW⟩
      refine Slot.wp_region_slots (PutF w.heap.size w3.heap.size w4.heap.size n nl b m k s gb gm gs ge l gl A A20 A30 c c20 c30 pq) (by kernel_rfl) (by kernel_rfl) (by kernel_rfl) (by kernel_rfl) (fun kk vv W W' _ h hb => PutF_next w.heap.size w3.heap.size w4.heap.size n nl b m k s gb gm gs ge l gl A A20 A30 c c20 c30 pq kk vv W W' h hb) ?_ ?_
      · intro ii o x W K fr ho hB hd sl hbs hK
        have HX := Lib.hid (HA.out W hB)
        match ii, ho with
        | 0, ho =>
          obtain rfl := Option.some.inj ho
          refine Slot.op_go ho rfl ?_
          exact Slot.wp_value (PutF_r0 fr.eval _ W w.heap.size w3.heap.size w4.heap.size n nl b m k s gb gm gs ge l gl A A20 A30 c c20 c30 pq  rfl (Slot.eval_at ((hbs 3 (Slot.off_of (by kernel_rfl))).trans rfl)) (HX.out.1.1) (HX.out.1.2.1) (HX.out.1.2.2.1) (HX.out.1.2.2.2)) (hK _ _ (Below.refl _ _) rfl)
        | 1, ho =>
          obtain rfl := Option.some.inj ho
          refine Slot.op_go ho rfl ?_
          exact Slot.wp_value (Slot.run_move rfl (Slot.eval_at ((hbs 1 (Slot.off_of (by kernel_rfl))).trans rfl))) (hK _ _ (Below.refl _ _) rfl)
        | 2, ho =>
          obtain rfl := Option.some.inj ho
          refine Slot.op_go ho rfl ?_
          have e0 : x 0 = .agg #[.int .i64 b, .int .i64 m, .int .i64 k, .slice A n c] := hd ⟨0, .data⟩ (by simp) rfl
          have e1 : x 1 = .int .u64 s := hd ⟨1, .data⟩ (by simp) rfl
          have s0 : fr.eval (Operand.tmp 40) = .agg #[.int .i64 b, .int .i64 m, .int .i64 k, .slice A n c] := (Slot.eval_at ((sl 0 _ 40 rfl rfl).trans (congrArg some e0)))
          have s1 : fr.eval (Operand.tmp 41) = .int .u64 s := (Slot.eval_at ((sl 1 _ 41 rfl rfl).trans (congrArg some e1)))
          have ha : (#[fr.eval (Operand.tmp 40), fr.eval (Operand.tmp 41)] : Array Value) = #[.agg #[.int .i64 b, .int .i64 m, .int .i64 k, .slice A n c], .int .u64 s] := by rw [s0, s1]
          refine Slot.wp_call (f := 13) (by kernel_rfl) ha (HP.out W HX.out.2.2.2.1 HX.out.2.2.2.2.1) ?_
          rintro e w2' ⟨⟨A', c', q'⟩, rfl, ⟨h1, h2⟩, h3⟩
          have hG : PS (.slice A' q'.length c') w2' pq := ⟨A', c', q', rfl, h1, h2⟩
          exact ⟨_, rfl, hK _ _ h3 hG⟩
        | 3, ho =>
          obtain rfl := Option.some.inj ho
          refine Slot.op_go ho rfl ?_
          obtain ⟨A90, c90, q90, e2, hr90, hq90⟩ := (hd ⟨2, .data⟩ (by simp) rfl : PS (x 2) W pq)
          exact Slot.wp_value (Slot.run_convert rfl (Slot.eval_at ((sl 2 _ 42 rfl rfl).trans (congrArg some e2))) (conv_row0 hr90 hq90)) (hK _ _ (Below.refl _ _) rfl)
        | 4, ho =>
          obtain rfl := Option.some.inj ho
          refine Slot.op_go ho rfl ?_
          exact Slot.wp_value (PutF_r4 fr.eval _ W w.heap.size w3.heap.size w4.heap.size n nl b m k s gb gm gs ge l gl A A20 A30 c c20 c30 pq  rfl (Slot.eval_at ((hbs 3 (Slot.off_of (by kernel_rfl))).trans rfl)) (HX.out.1.1) (HX.out.1.2.1) (HX.out.1.2.2.1) (HX.out.1.2.2.2)) (hK _ _ (Below.refl _ _) rfl)
        | 5, ho =>
          obtain rfl := Option.some.inj ho
          refine Slot.op_go ho rfl ?_
          have e4 : x 4 = .agg #[.int .i64 b, .int .i64 m, .int .i64 k, .slice A n c] := hd ⟨4, .data⟩ (by simp) rfl
          have s0 : fr.eval (Operand.tmp 44) = .agg #[.int .i64 b, .int .i64 m, .int .i64 k, .slice A n c] := (Slot.eval_at ((sl 4 _ 44 rfl rfl).trans (congrArg some e4)))
          have ha : (#[fr.eval (Operand.tmp 44)] : Array Value) = #[.agg #[.int .i64 b, .int .i64 m, .int .i64 k, .slice A n c]] := by rw [s0]
          refine Slot.wp_call (f := 15) (by kernel_rfl) ha (of_at HX.out.2.2.2.2.1 HN.out.1 b m k) ?_
          rintro e w2' ⟨A', c', rfl, h1, h2⟩
          have hG : GV (.agg #[.int .i64 b, .int .i64 m, .int .i64 k, .slice A' n c']) w2' b m k n l := ⟨A', c', rfl, h1⟩
          exact ⟨_, rfl, hK _ _ h2 hG⟩
        | 6, ho =>
          obtain rfl := Option.some.inj ho
          refine Slot.op_go ho rfl ?_
          exact Slot.wp_value (Slot.run_move rfl (Slot.eval_at ((hbs 1 (Slot.off_of (by kernel_rfl))).trans rfl))) (hK _ _ (Below.refl _ _) rfl)
        | 7, ho =>
          obtain rfl := Option.some.inj ho
          refine Slot.op_go ho rfl ?_
          obtain ⟨A84, c84, e5, hA84⟩ := (hd ⟨5, .data⟩ (by simp) rfl : GV (x 5) W b m k n l)
          have e6 : x 6 = .int .u64 s := hd ⟨6, .data⟩ (by simp) rfl
          have s0 : fr.eval (Operand.tmp 45) = .agg #[.int .i64 b, .int .i64 m, .int .i64 k, .slice A84 n c84] := (Slot.eval_at ((sl 5 _ 45 rfl rfl).trans (congrArg some e5)))
          have s1 : fr.eval (Operand.tmp 46) = .int .u64 s := (Slot.eval_at ((sl 6 _ 46 rfl rfl).trans (congrArg some e6)))
          have ha : (#[fr.eval (Operand.tmp 45), fr.eval (Operand.tmp 46)] : Array Value) = #[.agg #[.int .i64 b, .int .i64 m, .int .i64 k, .slice A84 n c84], .int .u64 s] := by rw [s0, s1]
          refine Slot.wp_call (f := 14) (by kernel_rfl) ha (HQ.out A84 c84 W hA84) ?_
          rintro e w2 ⟨rfl, h1⟩
          exact ⟨_, rfl, hK _ _ h1 rfl⟩
        | 8, ho =>
          obtain rfl := Option.some.inj ho
          refine Slot.op_go ho rfl ?_
          have e3 : x 3 = .string (strOfNums pq) := hd ⟨3, .data⟩ (by simp) rfl
          have e7 : x 7 = .string (strOfNums pq) := hd ⟨7, .data⟩ (by simp) rfl
          exact Slot.wp_value (PutF_r8 fr.eval _ W w.heap.size w3.heap.size w4.heap.size n nl b m k s gb gm gs ge l gl A A20 A30 c c20 c30 pq  rfl (Slot.eval_at ((sl 3 _ 43 rfl rfl).trans (congrArg some e3))) (Slot.eval_at ((sl 7 _ 47 rfl rfl).trans (congrArg some e7)))) (hK _ _ (Below.refl _ _) rfl)
        | 9, ho =>
          obtain rfl := Option.some.inj ho
          refine Slot.op_go ho rfl ?_
          have e8 : x 8 = .bool true := hd ⟨8, .data⟩ (by simp) rfl
          exact Slot.wp_value (Slot.run_move rfl (Slot.eval_at ((sl 8 _ 48 rfl rfl).trans (congrArg some e8)))) (hK _ _ (Below.refl _ _) rfl)
        | 10, ho =>
          obtain rfl := Option.some.inj ho
          have e9 : x 9 = .bool true := hd ⟨9, .guard⟩ (by simp) rfl
          refine Slot.op_if ho rfl rfl rfl ((sl 9 _ 49 rfl rfl).trans (congrArg some e9)) ?_
          exact Slot.wp_value (PutF_r10 fr.eval _ W w.heap.size w3.heap.size w4.heap.size n nl b m k s gb gm gs ge l gl A A20 A30 c c20 c30 pq  rfl (Slot.eval_at ((hbs 9 (Slot.off_of (by kernel_rfl))).trans rfl)) (HX.out.2.1.1) (HX.out.2.1.2.1) (HX.out.2.1.2.2.1) (HX.out.2.1.2.2.2)) (hK _ _ (Below.refl _ _) rfl)
        | 11, ho =>
          obtain rfl := Option.some.inj ho
          have e9 : x 9 = .bool true := hd ⟨9, .chain⟩ (by simp) rfl
          refine Slot.op_if ho rfl rfl rfl ((sl 9 _ 49 rfl rfl).trans (congrArg some e9)) ?_
          have e10 : x 10 = .agg #[.int .i64 gb, .int .i64 gm, .int .i64 0, .slice A20 nl c20] := hd ⟨10, .data⟩ (by simp) rfl
          have s0 : fr.eval (Operand.tmp 50) = .agg #[.int .i64 gb, .int .i64 gm, .int .i64 0, .slice A20 nl c20] := (Slot.eval_at ((sl 10 _ 50 rfl rfl).trans (congrArg some e10)))
          have ha : (#[fr.eval (Operand.tmp 50)] : Array Value) = #[.agg #[.int .i64 gb, .int .i64 gm, .int .i64 0, .slice A20 nl c20]] := by rw [s0]
          refine Slot.wp_call (f := 15) (by kernel_rfl) ha (of_at HX.out.2.2.2.2.2.1 HN.out.2 gb gm 0) ?_
          rintro e w2' ⟨A', c', rfl, h1, h2⟩
          have hG : GV (.agg #[.int .i64 gb, .int .i64 gm, .int .i64 0, .slice A' nl c']) w2' gb gm 0 nl gl := ⟨A', c', rfl, h1⟩
          exact ⟨_, rfl, hK _ _ h2 hG⟩
        | 12, ho =>
          obtain rfl := Option.some.inj ho
          have e9 : x 9 = .bool true := hd ⟨9, .guard⟩ (by simp) rfl
          refine Slot.op_if ho rfl rfl rfl ((sl 9 _ 49 rfl rfl).trans (congrArg some e9)) ?_
          exact Slot.wp_value (PutF_r12 fr.eval _ W w.heap.size w3.heap.size w4.heap.size n nl b m k s gb gm gs ge l gl A A20 A30 c c20 c30 pq  rfl (Slot.eval_at ((hbs 12 (Slot.off_of (by kernel_rfl))).trans rfl)) (HX.out.2.2.1.1) (HX.out.2.2.1.2.1) (HX.out.2.2.1.2.2.1) (HX.out.2.2.1.2.2.2)) (hK _ _ (Below.refl _ _) rfl)
        | 13, ho =>
          obtain rfl := Option.some.inj ho
          have e9 : x 9 = .bool true := hd ⟨9, .guard⟩ (by simp) rfl
          refine Slot.op_if ho rfl rfl rfl ((sl 9 _ 49 rfl rfl).trans (congrArg some e9)) ?_
          obtain ⟨A85, c85, e11, hA85⟩ := (hd ⟨11, .data⟩ (by simp) rfl : GV (x 11) W gb gm 0 nl gl)
          have e12 : x 12 = .agg #[.int .i64 gb, .int .i64 gm, .int .i64 0, .slice A30 nl c30] := hd ⟨12, .data⟩ (by simp) rfl
          have s0 : fr.eval (Operand.tmp 51) = .agg #[.int .i64 gb, .int .i64 gm, .int .i64 0, .slice A85 nl c85] := (Slot.eval_at ((sl 11 _ 51 rfl rfl).trans (congrArg some e11)))
          have s1 : fr.eval (Operand.tmp 52) = .agg #[.int .i64 gb, .int .i64 gm, .int .i64 0, .slice A30 nl c30] := (Slot.eval_at ((sl 12 _ 52 rfl rfl).trans (congrArg some e12)))
          have ha : (#[fr.eval (Operand.tmp 51), fr.eval (Operand.tmp 52)] : Array Value) = #[.agg #[.int .i64 gb, .int .i64 gm, .int .i64 0, .slice A85 nl c85], .agg #[.int .i64 gb, .int .i64 gm, .int .i64 0, .slice A30 nl c30]] := by rw [s0, s1]
          refine Slot.wp_call (f := 16) (by kernel_rfl) ha (same_at hA85 HX.out.2.2.2.2.2.2 HN.out.2 gb gm 0) ?_
          rintro e w2 ⟨rfl, h1⟩
          exact ⟨_, rfl, hK _ _ h1 rfl⟩
        | 14, ho =>
          obtain rfl := Option.some.inj ho
          refine Slot.op_go ho rfl ?_
          have e13 : x 13 = .bool true := hd ⟨13, .data⟩ (by simp) rfl
          have e9 : x 9 = .bool true := hd ⟨9, .data⟩ (by simp) rfl
          exact Slot.wp_value (Slot.run_pick rfl (Slot.eval_at ((sl 9 _ 49 rfl rfl).trans (congrArg some e9))) ((if_pos rfl).trans (Slot.eval_at ((sl 13 _ 53 rfl rfl).trans (congrArg some e13))))) (hK _ _ (Below.refl _ _) rfl)
        | 15, ho =>
          obtain rfl := Option.some.inj ho
          refine Slot.op_go ho rfl ?_
          have e14 : x 14 = .bool true := hd ⟨14, .data⟩ (by simp) rfl
          exact Slot.wp_value (Slot.run_move rfl (Slot.eval_at ((sl 14 _ 54 rfl rfl).trans (congrArg some e14)))) (hK _ _ (Below.refl _ _) rfl)
        | 16, ho =>
          obtain rfl := Option.some.inj ho
          have e15 : x 15 = .bool true := hd ⟨15, .guard⟩ (by simp) rfl
          refine Slot.op_if ho rfl rfl rfl ((sl 15 _ 55 rfl rfl).trans (congrArg some e15)) ?_
          exact Slot.wp_value (Slot.run_move rfl (Slot.eval_at ((hbs 10 (Slot.off_of (by kernel_rfl))).trans rfl))) (hK _ _ (Below.refl _ _) rfl)
        | 17, ho =>
          obtain rfl := Option.some.inj ho
          have e15 : x 15 = .bool true := hd ⟨15, .guard⟩ (by simp) rfl
          refine Slot.op_if ho rfl rfl rfl ((sl 15 _ 55 rfl rfl).trans (congrArg some e15)) ?_
          exact Slot.wp_value (Slot.run_move rfl (Slot.eval_at ((hbs 13 (Slot.off_of (by kernel_rfl))).trans rfl))) (hK _ _ (Below.refl _ _) rfl)
        | 18, ho =>
          obtain rfl := Option.some.inj ho
          have e15 : x 15 = .bool true := hd ⟨15, .guard⟩ (by simp) rfl
          refine Slot.op_if ho rfl rfl rfl ((sl 15 _ 55 rfl rfl).trans (congrArg some e15)) ?_
          have e16 : x 16 = .int .u64 gs := hd ⟨16, .data⟩ (by simp) rfl
          have e17 : x 17 = .int .u64 gs := hd ⟨17, .data⟩ (by simp) rfl
          exact Slot.wp_value (PutF_r18 fr.eval _ W w.heap.size w3.heap.size w4.heap.size n nl b m k s gb gm gs ge l gl A A20 A30 c c20 c30 pq  rfl (Slot.eval_at ((sl 16 _ 56 rfl rfl).trans (congrArg some e16))) (Slot.eval_at ((sl 17 _ 57 rfl rfl).trans (congrArg some e17)))) (hK _ _ (Below.refl _ _) rfl)
        | 19, ho =>
          obtain rfl := Option.some.inj ho
          refine Slot.op_go ho rfl ?_
          have e18 : x 18 = .bool true := hd ⟨18, .data⟩ (by simp) rfl
          have e15 : x 15 = .bool true := hd ⟨15, .data⟩ (by simp) rfl
          exact Slot.wp_value (Slot.run_pick rfl (Slot.eval_at ((sl 15 _ 55 rfl rfl).trans (congrArg some e15))) ((if_pos rfl).trans (Slot.eval_at ((sl 18 _ 58 rfl rfl).trans (congrArg some e18))))) (hK _ _ (Below.refl _ _) rfl)
        | 20, ho =>
          obtain rfl := Option.some.inj ho
          refine Slot.op_go ho rfl ?_
          have e19 : x 19 = .bool true := hd ⟨19, .data⟩ (by simp) rfl
          exact Slot.wp_value (Slot.run_move rfl (Slot.eval_at ((sl 19 _ 59 rfl rfl).trans (congrArg some e19)))) (hK _ _ (Below.refl _ _) rfl)
        | 21, ho =>
          obtain rfl := Option.some.inj ho
          have e20 : x 20 = .bool true := hd ⟨20, .guard⟩ (by simp) rfl
          refine Slot.op_if ho rfl rfl rfl ((sl 20 _ 60 rfl rfl).trans (congrArg some e20)) ?_
          exact Slot.wp_value (Slot.run_move rfl (Slot.eval_at ((hbs 11 (Slot.off_of (by kernel_rfl))).trans rfl))) (hK _ _ (Below.refl _ _) rfl)
        | 22, ho =>
          obtain rfl := Option.some.inj ho
          have e20 : x 20 = .bool true := hd ⟨20, .guard⟩ (by simp) rfl
          refine Slot.op_if ho rfl rfl rfl ((sl 20 _ 60 rfl rfl).trans (congrArg some e20)) ?_
          exact Slot.wp_value (Slot.run_move rfl (Slot.eval_at ((hbs 14 (Slot.off_of (by kernel_rfl))).trans rfl))) (hK _ _ (Below.refl _ _) rfl)
        | 23, ho =>
          obtain rfl := Option.some.inj ho
          have e20 : x 20 = .bool true := hd ⟨20, .guard⟩ (by simp) rfl
          refine Slot.op_if ho rfl rfl rfl ((sl 20 _ 60 rfl rfl).trans (congrArg some e20)) ?_
          have e21 : x 21 = .int .i64 ge := hd ⟨21, .data⟩ (by simp) rfl
          have e22 : x 22 = .int .i64 ge := hd ⟨22, .data⟩ (by simp) rfl
          exact Slot.wp_value (PutF_r23 fr.eval _ W w.heap.size w3.heap.size w4.heap.size n nl b m k s gb gm gs ge l gl A A20 A30 c c20 c30 pq  rfl (Slot.eval_at ((sl 21 _ 61 rfl rfl).trans (congrArg some e21))) (Slot.eval_at ((sl 22 _ 62 rfl rfl).trans (congrArg some e22)))) (hK _ _ (Below.refl _ _) rfl)
        | 24, ho =>
          obtain rfl := Option.some.inj ho
          refine Slot.op_go ho rfl ?_
          have e23 : x 23 = .bool true := hd ⟨23, .data⟩ (by simp) rfl
          have e20 : x 20 = .bool true := hd ⟨20, .data⟩ (by simp) rfl
          exact Slot.wp_value (Slot.run_pick rfl (Slot.eval_at ((sl 20 _ 60 rfl rfl).trans (congrArg some e20))) ((if_pos rfl).trans (Slot.eval_at ((sl 23 _ 63 rfl rfl).trans (congrArg some e23))))) (hK _ _ (Below.refl _ _) rfl)
        | 25, ho =>
          obtain rfl := Option.some.inj ho
          refine Slot.op_go ho rfl ?_
          have e24 : x 24 = .bool true := hd ⟨24, .data⟩ (by simp) rfl
          exact Slot.wp_value (Slot.run_assign rfl (Slot.eval_at ((sl 24 _ 64 rfl rfl).trans (congrArg some e24)))) (hK _ _ (Below.refl _ _) rfl)
        | n + 26, ho => simp at ho
      · intro x W hB hx
        have e25 : x 25 = .bool true := hx 25 (by simp)
        simp only [Inv.fill, Act.put, List.setIfInBounds_toArray, List.set_cons_zero, List.set_cons_succ, e25]
        clear hx e25
        go_wp2
        go_ret
        exact ⟨rfl, (BE_4.out.next hB).bel⟩
    · have d0 : decide ((800 : Int) < (len2 : Int)) = true := decide_eq_true (by omega)
      go_enter Tryd.func3, Tryd.ntmps3
      go_wp2_with (first
        | (go_at_call 9; (refine (awake_any _ TB_0.out).mono ?_; rintro e w1 ⟨rfl, h1⟩; have TB_1 := Lib.hid (TB_0.out.next h1); have BE_1 := Lib.hid (BE_0.out.next h1); have LX_1 := Lib.hid (LX_0.out.next h1); have S2_1 := Lib.hid (S2_0.out.next h1); have XB_1 := Lib.hid (XB_0.out.next h1); clear TB_0 BE_0 LX_0 S2_0 XB_0 h1; obtain ⟨a0, a1, a2, a3⟩ := XB_1.out.bx.c4))
        | (go_at_call 10; (refine (few_at LX_1.out _ _ _).mono ?_; rintro e w2 ⟨rfl, h2⟩; have TB_2 := Lib.hid (TB_1.out.next h2); have BE_2 := Lib.hid (BE_1.out.next h2); have LX_2 := Lib.hid (LX_1.out.next h2); have S2_2 := Lib.hid (S2_1.out.next h2); have XB_2 := Lib.hid (XB_1.out.next h2); rw [f1]; clear TB_1 BE_1 LX_1 S2_1 XB_1 h2; obtain ⟨a0, a1, a2, a3⟩ := XB_2.out.bx.c4)))
      go_ret
      exact ⟨rfl, BE_2.out.bel⟩
  · have f1 : decide (n ≤ 80) = false := decide_eq_false hf
    go_enter Tryd.func3, Tryd.ntmps3
    go_wp2_with (first
      | (go_at_call 9; (refine (awake_any _ TB_0.out).mono ?_; rintro e w1 ⟨rfl, h1⟩; have TB_1 := Lib.hid (TB_0.out.next h1); have BE_1 := Lib.hid (BE_0.out.next h1); have LX_1 := Lib.hid (LX_0.out.next h1); have S2_1 := Lib.hid (S2_0.out.next h1); have XB_1 := Lib.hid (XB_0.out.next h1); clear TB_0 BE_0 LX_0 S2_0 XB_0 h1; obtain ⟨a0, a1, a2, a3⟩ := XB_1.out.bx.c4))
      | (go_at_call 10; (refine (few_at LX_1.out _ _ _).mono ?_; rintro e w2 ⟨rfl, h2⟩; have TB_2 := Lib.hid (TB_1.out.next h2); have BE_2 := Lib.hid (BE_1.out.next h2); have LX_2 := Lib.hid (LX_1.out.next h2); have S2_2 := Lib.hid (S2_1.out.next h2); have XB_2 := Lib.hid (XB_1.out.next h2); rw [f1]; clear TB_1 BE_1 LX_1 S2_1 XB_1 h2; obtain ⟨a0, a1, a2, a3⟩ := XB_2.out.bx.c4)))
    go_ret
    exact ⟨rfl, BE_2.out.bel⟩

end Go.Proofs.YtgbgbodhpahceaaDoor.Walk
