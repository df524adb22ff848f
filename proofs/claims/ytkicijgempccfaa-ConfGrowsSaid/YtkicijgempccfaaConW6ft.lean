/- The walk of ConfGrows, where no floor and a bank more may be. -/
import Derived.Test.YtkicijgempccfaaConW6c
namespace Go.Proofs.Ytkicijgempccfaa.Walk
open Go.RowKit Go.ChangeShapes Go.Proofs.Ytkicijgempccfaa.RatP Go.Proofs.Ytkicijgempccfaa.SatP Go.Proofs.Ytkicijgempccfaa.ConP Go.Proofs.Ytkicijgempccfaa.Rat Go.Proofs.Ytkicijgempccfaa.Con
set_option linter.unusedVariables false

open Go.Proofs.Ytkicijgempccfaa.Sees
def GrowsF2ft (N X1 X2 : Nat) (v : V) (Am Ao : Option Addr) (cm cO : Nat) (b lc ld le l0 bc bd b0 mc me : Int) : Nat → Value → World → Prop
  | 0, vv, _ => vv = .pointer (some ⟨N, 0, none⟩)
  | 1, vv, _ => vv = .slice v.A v.c.banks.length v.cb
  | 2, vv, _ => vv = .int .i64 (v.c.banks.length : Int)
  | 3, vv, _ => vv = .bool true
  | 4, vv, _ => vv = .bool true
  | 5, vv, _ => vv = .agg #[.slice Am (v.c.banks.length + 1) cm, .int .i64 v.c.floors, .int .i64 v.c.home, .slice Ao (v.c.order.length + 1) cO, .int .i64 v.c.speed, .int .i64 v.c.width, .int .i64 v.c.dwell, .int .i64 v.c.good, .int .i64 v.c.dead, .int .i64 v.c.lag, .int .i64 v.c.turn, .int .i64 v.c.cost, .int .i64 v.c.full]
  | 6, vv, _ => vv = .bool true
  | 7, vv, _ => vv = .bool false
  | 8, vv, _ => vv = .bool false
  | 9, vv, _ => vv = .agg #[.slice Am (v.c.banks.length + 1) cm, .int .i64 v.c.floors, .int .i64 v.c.home, .slice Ao (v.c.order.length + 1) cO, .int .i64 v.c.speed, .int .i64 v.c.width, .int .i64 v.c.dwell, .int .i64 v.c.good, .int .i64 v.c.dead, .int .i64 v.c.lag, .int .i64 v.c.turn, .int .i64 v.c.cost, .int .i64 v.c.full]
  | 10, vv, _ => vv = .int .i64 b
  | 11, vv, _ => vv = .int .i64 le
  | 12, vv, _ => vv = .agg #[.slice v.A v.c.banks.length v.cb, .int .i64 v.c.floors, .int .i64 v.c.home, .slice v.O v.c.order.length v.co, .int .i64 v.c.speed, .int .i64 v.c.width, .int .i64 v.c.dwell, .int .i64 v.c.good, .int .i64 v.c.dead, .int .i64 v.c.lag, .int .i64 v.c.turn, .int .i64 v.c.cost, .int .i64 v.c.full]
  | 13, vv, _ => vv = .int .i64 b
  | 14, vv, _ => vv = .int .i64 lc
  | 15, vv, _ => vv = .bool false
  | 16, vv, _ => vv = .bool false
  | 17, vv, _ => vv = .bool false
  | 18, vv, _ => vv = .agg #[.slice Am (v.c.banks.length + 1) cm, .int .i64 v.c.floors, .int .i64 v.c.home, .slice Ao (v.c.order.length + 1) cO, .int .i64 v.c.speed, .int .i64 v.c.width, .int .i64 v.c.dwell, .int .i64 v.c.good, .int .i64 v.c.dead, .int .i64 v.c.lag, .int .i64 v.c.turn, .int .i64 v.c.cost, .int .i64 v.c.full]
  | 19, vv, _ => vv = .int .i64 me
  | 20, vv, _ => vv = .agg #[.slice v.A v.c.banks.length v.cb, .int .i64 v.c.floors, .int .i64 v.c.home, .slice v.O v.c.order.length v.co, .int .i64 v.c.speed, .int .i64 v.c.width, .int .i64 v.c.dwell, .int .i64 v.c.good, .int .i64 v.c.dead, .int .i64 v.c.lag, .int .i64 v.c.turn, .int .i64 v.c.cost, .int .i64 v.c.full]
  | 21, vv, _ => vv = .int .i64 mc
  | 22, vv, _ => vv = .bool false
  | 23, vv, _ => vv = .bool false
  | 24, vv, _ => vv = .bool false
  | _, _, _ => True

def GrowsF3ft (N X1 X2 : Nat) (v : V) (Am Ao : Option Addr) (cm cO : Nat) (b lc ld le l0 bc bd b0 mc me : Int) : Nat → Value → World → Prop
  | 0, vv, _ => vv = .agg #[.slice v.A v.c.banks.length v.cb, .int .i64 v.c.floors, .int .i64 v.c.home, .slice v.O v.c.order.length v.co, .int .i64 v.c.speed, .int .i64 v.c.width, .int .i64 v.c.dwell, .int .i64 v.c.good, .int .i64 v.c.dead, .int .i64 v.c.lag, .int .i64 v.c.turn, .int .i64 v.c.cost, .int .i64 v.c.full]
  | 1, vv, _ => vv = .int .i64 b
  | 2, vv, _ => vv = .int .i64 lc
  | 3, vv, _ => vv = .agg #[.slice v.A v.c.banks.length v.cb, .int .i64 v.c.floors, .int .i64 v.c.home, .slice v.O v.c.order.length v.co, .int .i64 v.c.speed, .int .i64 v.c.width, .int .i64 v.c.dwell, .int .i64 v.c.good, .int .i64 v.c.dead, .int .i64 v.c.lag, .int .i64 v.c.turn, .int .i64 v.c.cost, .int .i64 v.c.full]
  | 4, vv, _ => vv = .int .i64 l0
  | 5, vv, _ => vv = .int .i64 b
  | 6, vv, _ => vv = .int .i64 lc
  | 7, vv, _ => vv = .bool true
  | 8, vv, _ => vv = .bool true
  | 9, vv, _ => vv = .agg #[.slice v.A v.c.banks.length v.cb, .int .i64 v.c.floors, .int .i64 v.c.home, .slice v.O v.c.order.length v.co, .int .i64 v.c.speed, .int .i64 v.c.width, .int .i64 v.c.dwell, .int .i64 v.c.good, .int .i64 v.c.dead, .int .i64 v.c.lag, .int .i64 v.c.turn, .int .i64 v.c.cost, .int .i64 v.c.full]
  | 10, vv, _ => vv = .int .i64 b
  | 11, vv, _ => vv = .int .i64 bc
  | 12, vv, _ => vv = .agg #[.slice v.A v.c.banks.length v.cb, .int .i64 v.c.floors, .int .i64 v.c.home, .slice v.O v.c.order.length v.co, .int .i64 v.c.speed, .int .i64 v.c.width, .int .i64 v.c.dwell, .int .i64 v.c.good, .int .i64 v.c.dead, .int .i64 v.c.lag, .int .i64 v.c.turn, .int .i64 v.c.cost, .int .i64 v.c.full]
  | 13, vv, _ => vv = .int .i64 b0
  | 14, vv, _ => vv = .int .i64 b
  | 15, vv, _ => vv = .int .i64 bc
  | 16, vv, _ => vv = .bool true
  | 17, vv, _ => vv = .bool true
  | 18, vv, _ => vv = .bool true
  | 19, vv, _ => vv = .agg #[.slice v.A v.c.banks.length v.cb, .int .i64 v.c.floors, .int .i64 v.c.home, .slice v.O v.c.order.length v.co, .int .i64 v.c.speed, .int .i64 v.c.width, .int .i64 v.c.dwell, .int .i64 v.c.good, .int .i64 v.c.dead, .int .i64 v.c.lag, .int .i64 v.c.turn, .int .i64 v.c.cost, .int .i64 v.c.full]
  | 20, vv, _ => vv = .int .i64 b
  | 21, vv, _ => vv = .int .i64 lc
  | 22, vv, _ => vv = .bool true
  | 23, vv, _ => vv = .bool true
  | 24, vv, _ => vv = .bool true
  | _, _, _ => True

set_option maxRecDepth 100000 in
set_option maxHeartbeats 16000000 in
theorem grows_ft (w : World) (v : V) (b : Int) (hin : V.In w v) (w1 : (Lit.int .u16 b).wf = true) (hsm : smB v = true) (hq : mayC v.c = true) (hq1 : decide (v.c.floors < 32) = false) (hq2 : decide ((v.c.banks.length : Int) < 8) = true) : Calls Try.prog 5 #[v.val, .int .u16 b] w fun e w' => e = .returned (.bool true) ∧ Below w.heap.size w w' := by
  have H0 := Lib.hid (LJ.new hin 25)
  have HIN := Lib.hid hin
  clear hin
  unfold V.arr at H0
  have HS := Lib.hid hsm
  have HQ := Lib.hid hq
  have HM := Lib.hid ((mayC_iff v.c).1 hq)
  clear hsm hq
  obtain ⟨b_0, b_1⟩ := bounds_u16 w1
  clear w1
  obtain ⟨i0, hi, hz0, hz1, hz2⟩ := info_parts info_Bank
  obtain ⟨i1, hj, hy0, hy1, hy2⟩ := info_parts info_int
  have hm := HM.out
  have hsm := (smB_iff v).1 HS.out
  have hnb := hm.nb
  have hlen : v.c.order.length ≤ 100 := hsm.2
  have hbk : bk b = b := bk_id b_0 (by omega)
  have hl := limit_bd hm b
  have hbb := back_bd hm b
  rw [hbk] at hl hbb
  have hf : false = true → v.c.floors < 32 := fun h => by cases h
  have hn8 : true = true → v.c.banks.length < 8 := fun _ => by simp at hq2; omega
  have HLC := Lib.hid (fun W (h : V.In W v) => Limit_any v hm b W h)
  have HL0 := Lib.hid (fun W (h : V.In W v) => Limit_any v hm 0 W h)
  have HBC := Lib.hid (fun W => Back_any v hm b W)
  have HB00 := Lib.hid (fun W => Back_any v hm 0 W)
  have HMC := Lib.hid (fun W (h : V.In W v) => Most_conf v hm.bs (by omega) W h)
  have hCD := fun (h : false = true) W (k : V.In W (vD v)) => Check_conf (vD v) (by show v.c.banks.length ≤ 1000; omega) (by show v.c.order.length ≤ 1000; omega) W k
  have HLD := Lib.hid (fun (h : false = true) W (k : V.In W (vD v)) => Limit_any (vD v) (cD_may hm (hf h)) b W k)
  have HBD := Lib.hid (fun (h : false = true) W => Back_any (vD v) (cD_may hm (hf h)) b W)
  have hCD2 : ∀ (h : false = true) W (k : V.In W (vD v)), Calls Try.prog 11 #[(vD v).val] W (Says W (.bool true)) := fun h W k => by
    have := hCD h W k
    rwa [(mayC_iff (vD v).c).2 (cD_may hm (hf h))] at this
  have HCD := Lib.hid hCD2
  have HCE0 : Hid (∀ (Am Ao : Option Addr) (cm cO : Nat) (h : true = true) W (k : V.In W (vE v Am Ao cm cO)), Calls Try.prog 11 #[.agg #[.slice Am (v.c.banks.length + 1) cm, .int .i64 v.c.floors, .int .i64 v.c.home, .slice Ao (v.c.order.length + 1) cO, .int .i64 v.c.speed, .int .i64 v.c.width, .int .i64 v.c.dwell, .int .i64 v.c.good, .int .i64 v.c.dead, .int .i64 v.c.lag, .int .i64 v.c.turn, .int .i64 v.c.cost, .int .i64 v.c.full]] W (Says W (.bool true))) := Lib.hid fun Am Ao cm cO h W k => by
    have hle := vE_len v Am Ao cm cO
    have := Check_conf (vE v Am Ao cm cO) (by omega) (by omega) W k
    rw [(mayC_iff (vE v Am Ao cm cO).c).2 (cE_may hm (hn8 h)), vE_val] at this
    exact this
  have HLE0 : Hid (∀ (Am Ao : Option Addr) (cm cO : Nat) (h : true = true) W (k : V.In W (vE v Am Ao cm cO)), Calls Try.prog 24 #[.agg #[.slice Am (v.c.banks.length + 1) cm, .int .i64 v.c.floors, .int .i64 v.c.home, .slice Ao (v.c.order.length + 1) cO, .int .i64 v.c.speed, .int .i64 v.c.width, .int .i64 v.c.dwell, .int .i64 v.c.good, .int .i64 v.c.dead, .int .i64 v.c.lag, .int .i64 v.c.turn, .int .i64 v.c.cost, .int .i64 v.c.full], .int .i64 b] W (Says W (.int .i64 (limit (cE v.c) b)))) := Lib.hid fun Am Ao cm cO h W k => by
    have := Limit_any (vE v Am Ao cm cO) (cE_may hm (hn8 h)) b W k
    rw [vE_val] at this
    exact this
  have HME0 : Hid (∀ (Am Ao : Option Addr) (cm cO : Nat) (h : true = true) W (k : V.In W (vE v Am Ao cm cO)), Calls Try.prog 18 #[.agg #[.slice Am (v.c.banks.length + 1) cm, .int .i64 v.c.floors, .int .i64 v.c.home, .slice Ao (v.c.order.length + 1) cO, .int .i64 v.c.speed, .int .i64 v.c.width, .int .i64 v.c.dwell, .int .i64 v.c.good, .int .i64 v.c.dead, .int .i64 v.c.lag, .int .i64 v.c.turn, .int .i64 v.c.cost, .int .i64 v.c.full]] W (Says W (.int .i64 (mo (cE v.c).banks)))) := Lib.hid fun Am Ao cm cO h W k => by
    have hle := vE_len v Am Ao cm cO
    have := Most_conf (vE v Am Ao cm cO) (cE_may hm (hn8 h)).bs (by omega) W k
    rw [vE_val] at this
    exact this
  have G1 := Lib.hid hq1
  have G4 := Lib.hid hq2
  have G2 : Hid (false = true → decide (limit (vD v).c b ≤ limit v.c b) = false) := Lib.hid fun h => by
    have h1 : limit v.c b < limit (vD v).c b := cD_limit hm b
    exact decide_eq_false (by omega)
  have G3 : Hid (false = true → decide (back (vD v).c b ≤ back v.c b) = false) := Lib.hid fun h => by
    have h1 : back v.c b < back (vD v).c b := cD_back (c := v.c) b
    exact decide_eq_false (by omega)
  have G5 : Hid (true = true → decide (limit (cE v.c) b ≤ limit v.c b) = false) := Lib.hid fun h => by have := cE_limit hm b; simp; omega
  have G6 : Hid (true = true → decide (mo (cE v.c).banks < mo v.c.banks) = false) := Lib.hid fun h => by have := cE_most v.c; simp; omega
  have G7 : Hid (decide (limit v.c b < 1073741824) = true) := Lib.hid (by simp; omega)
  have E1 : Hid (IntKind.i64.wrap (limit v.c 0 + b) = limit v.c b) := Lib.hid (by rw [IntWalk.i64_in _ (by omega)]; omega)
  have E2 : Hid (IntKind.i64.wrap (back v.c 0 + b) = back v.c b) := Lib.hid (by rw [IntWalk.i64_in _ (by omega)]; omega)
  have hcb := cars_bd _ hm.bs
  have HCC := Lib.hid (fun W (h : V.In W v) => Cars_any v hm.bs (by omega) W h)
  have hf1 : v.c.floors + 1 ≤ 100 := by have := hm.fl; omega
  have hf0 : 2 ≤ v.c.floors := hm.fl.1
  have HB8 : Hid (v.c.banks.length ≤ 8 ∧ v.c.order.length ≤ 100) := Lib.hid ⟨hnb.2, hlen⟩
  generalize limit (vD v).c b = ld at *
  generalize back (vD v).c b = bd at *
  generalize limit (cE v.c) b = le at *
  generalize mo (cE v.c).banks = me at *
  generalize limit v.c b = lc at *
  generalize back v.c b = bc at *
  generalize limit v.c 0 = l0 at *
  generalize back v.c 0 = b0 at *
  generalize mo v.c.banks = mc at *
  clear hm hsm hnb hlen hbk hl hbb hq1 hq2 hf hn8 hCD hCD2
  have HCB := Lib.hid hcb
  obtain ⟨nc, hnc⟩ : ∃ n, cars v.c.banks = n := ⟨_, rfl⟩
  have HNC := Lib.hid hnc
  rw [hnc] at HCC
  clear hcb hnc
  unfold V.val
  go_enter Try.func5, Try.ntmps5
  go_wp2_with (first
      | (go_at_call 9; refine (lj_awake H0).mono ?_; clear H0; rintro e w1 ⟨rfl, h1⟩; obtain ⟨a0, a1, a2, a3, a4, a5, a6, a7, a8, a9, a10, a11, a12⟩ := lj_all h1)
      | (go_at_call 10; refine (lj_small HS h1).mono ?_; clear h1 a0 a1 a2 a3 a4 a5 a6 a7 a8 a9 a10 a11 a12; rintro e w2 ⟨rfl, h2⟩; obtain ⟨a0, a1, a2, a3, a4, a5, a6, a7, a8, a9, a10, a11, a12⟩ := lj_all h2)
      | (go_at_call 11; refine (lj_check HS HQ h2).mono ?_; clear h2 a0 a1 a2 a3 a4 a5 a6 a7 a8 a9 a10 a11 a12; rintro e w3 ⟨rfl, h3⟩; obtain ⟨a0, a1, a2, a3, a4, a5, a6, a7, a8, a9, a10, a11, a12⟩ := lj_all h3; have hlt3 : w.heap.size < w3.heap.size := h3.out.box.lt; obtain ⟨W1, hW1⟩ : ∃ W1, w3.alloc (.cells (vD v).arr 25) = W1 := ⟨_, rfl⟩; have HW1 := Lib.hid hW1; have HSZ1 : Hid (W1.heap.size = w3.heap.size + 1) := Lib.hid (by rw [← hW1]; simp); have HLJ1 : Hid (∀ W, Below (w3.heap.size + 1) W1 W → LJ w W w.heap.size v) := Lib.hid (fun W h => by rw [← HSZ1.out] at h; exact (show LJ w W1 w.heap.size v by rw [← hW1]; exact h3.out.next Con.says_box).next h); have HD1 : Hid (∀ W, Below (w3.heap.size + 1) W1 W → CBox W w3.heap.size (vD v)) := Lib.hid (fun W h => by rw [← HSZ1.out] at h; exact (show CBox W1 w3.heap.size (vD v) by rw [← hW1]; exact CBox.new w3 (vD v) _).next h); clear hW1)
      | (at_builtin
         refine wpList_append_seesN _ rfl _ _ 22 rfl (w3.heap.size + 1) 43 i0 _ 7 56 Try.underlying22 hi hz0 hz1 hz2 rfl (by decide) (.slice none 0 0) 0 [] rfl ⟨rfl, .inl ⟨rfl, rfl⟩⟩ w.heap.size v.A v.c.banks.length v.cb (bRow v.c.banks) rfl (bRow_length _) ?hs (bRow_one _) ?h6 ?h5 ?hb ?_
         case hs => exact ((HIN.out.bs.below h3.out.below (Nat.le_refl _)).below Con.says_box (by have := h3.out.below.size; exact this))
         case h6 => have := HB8.out; unfold maxLen; omega
         case h5 => have := HB8.out; omega
         case hb => simp
         clear h3
         intro v1 w4 hown1 hg1
         have hb4 : Below (w3.heap.size + 1) W1 w4 := by rw [← HW1.out]; exact hg1.below (by simp) (fun g hg => by cases hg)
         have HO1 := Lib.hid hown1
         clear hown1 hg1
         have HB4 := Lib.hid hb4
         clear hb4
         obtain ⟨A1, c1, rfl, hc1, hs1, hlt1⟩ := own_form7 HO1.out
         clear hs1)
      | (at_builtin
         refine wpList_append_lies _ rfl _ _ 22 rfl (w3.heap.size + 1) 43 i0 _ 7 56 Try.underlying22 hi hz0 hz1 hz2 rfl (by decide) (.slice A1 (0 + v.c.banks.length) c1) (0 + v.c.banks.length) ([] ++ bRow v.c.banks) ?ha (HO1.out.alloc _) ⟨w4.heap.size, 0, none⟩ 1 1 (bCells one) rfl rfl (bCells_new _ one _) ?h1 (by decide) ?h6 ?h5 ?hb _ rfl ?_
         case ha => simp [Act.eval]
         case h1 => exact fun u h => bRow_one [one] u (by simpa [bRow] using h)
         case h6 => have := HB8.out; unfold maxLen; omega
         case h5 => have := HB8.out; omega
         case hb => have := HB4.out.size; have := HSZ1.out; simp; omega
         intro g2 c2 w5 hown2 hgrow2 hat2 hlt2
         have hb5 : Below (w3.heap.size + 1) W1 w5 := (HB4.out.trans (Con.says_box.mono (by have := HB4.out.size; have := HSZ1.out; omega))).grown hgrow2 (by have := HB4.out.size; have := HSZ1.out; simp; omega) (fun k hk => (HO1.out.lt k hk).1)
         have HB5 := Lib.hid hb5
         have HO2 := Lib.hid hown2
         have HL2 := Lib.hid hlt2
         clear hb5 hown2 hgrow2 hat2 hlt2
         have H5 := Lib.hid (HLJ1.out _ HB5.out)
         obtain ⟨a0, a1, a2, a3, a4, a5, a6, a7, a8, a9, a10, a11, a12⟩ := lj_all H5)
      | (at_builtin
         refine wpList_append_seesN _ rfl _ _ 23 rfl (w3.heap.size + 1) 3 i1 _ 1 8 Try.underlying23 hj hy0 hy1 hy2 rfl (by decide) (.slice none 0 0) 0 [] rfl ⟨rfl, .inl ⟨rfl, rfl⟩⟩ w5.heap.size v.O v.c.order.length v.co (nums .i64 v.c.order) rfl ?hl H5.out.inn.os (nums_one _ _) ?h6 ?h5 ?hb ?_
         case hl => rw [nums_length, Nat.mul_one]
         case h6 => have := HB8.out; unfold maxLen; omega
         case h5 => have := HB8.out; omega
         case hb => have := HB5.out.size; have := HSZ1.out; omega
         intro v3 w6 hown3 hg3
         have HB6 : Hid (Below (w3.heap.size + 1) W1 w6) := Lib.hid (HB5.out.trans (hg3.below (by have := HB5.out.size; have := HSZ1.out; omega) (fun g hg => by cases hg)))
         have HO3 := Lib.hid hown3
         have HO26 := Lib.hid (own_apart HO2.out hg3.by_ (fun g hg => by cases hg))
         obtain ⟨A3, c3, rfl, hc3, _, hlt3'⟩ := own_form HO3.out
         have HAP : Hid (Apart (.slice A3 (0 + v.c.order.length) c3) (.slice (some ⟨g2, 0, none⟩) (0 + v.c.banks.length + 1) c2)) := Lib.hid (fun g hg h2 => by
           have hg2 : g2 = g := by simpa [Value.ownBlock] using h2
           rcases hg3.at_ with e | ⟨g', e, hge⟩
           · rw [e] at hg; cases hg
           · rw [e] at hg; injection hg with hg; have := HL2.out; omega)
         clear hown3 hg3 hlt3' H5 a0 a1 a2 a3 a4 a5 a6 a7 a8 a9 a10 a11 a12
         have H6 := Lib.hid (HLJ1.out _ HB6.out)
         obtain ⟨a0, a1, a2, a3, a4, a5, a6, a7, a8, a9, a10, a11, a12⟩ := lj_all H6)
      | (go_at_call 16; refine (HCC.out _ H6.out.inn).mono ?_; clear a0 a1 a2 a3 a4 a5 a6 a7 a8 a9 a10 a11 a12; rintro e w7 ⟨rfl, b7⟩
         have HB7 : Hid (Below (w3.heap.size + 1) W1 w7) := Lib.hid (HB6.out.trans (b7.mono (by have := HB6.out.size; have := HSZ1.out; omega)))
         have HO37 := Lib.hid (own_below HO3.out b7 (fun k hk => (HO3.out.lt k hk).2))
         have HO27 := Lib.hid (own_below HO26.out b7 (fun k hk => (HO26.out.lt k hk).2))
         clear b7 H6)
      | (at_builtin
         refine wpList_append_lies _ rfl _ _ 23 rfl (w3.heap.size + 1) 3 i1 _ 1 8 Try.underlying23 hj hy0 hy1 hy2 rfl (by decide) (.slice A3 (0 + v.c.order.length) c3) (0 + v.c.order.length) ([] ++ nums .i64 v.c.order) ?ha (HO37.out.alloc _) ⟨w7.heap.size, 0, none⟩ 1 1 [.int .i64 nc] rfl rfl (new_cell _ _ _) (one_cell _ _) (by decide) ?h6 ?h5 ?hb _ rfl ?_
         case ha => simp [Act.eval]
         case h6 => have := HB8.out; unfold maxLen; omega
         case h5 => have := HB8.out; omega
         case hb => have := HB7.out.size; have := HSZ1.out; simp; omega
         intro g4 c4 w8 hown4 hgrow4 hat4 hlt4
         have HO4 := Lib.hid hown4
         have HO28 := Lib.hid (own_apart (HO27.out.alloc _) hgrow4 HAP.out)
         have HB9 : Hid (Below (w3.heap.size + 1) W1 w8) := Lib.hid ((HB7.out.trans (Con.says_box.mono (by have := HB7.out.size; have := HSZ1.out; omega))).grown hgrow4 (by have := HB7.out.size; have := HSZ1.out; simp; omega) (fun k hk => (HO37.out.lt k hk).1))
         clear hown4 hgrow4 hat4 hlt4
         have H8 := Lib.hid (HLJ1.out _ HB9.out)
         obtain ⟨a0, a1, a2, a3, a4, a5, a6, a7, a8, a9, a10, a11, a12⟩ := lj_all H8))
  have hin8 : V.In w8 (vE v (some ⟨g2, 0, none⟩) (some ⟨g4, 0, none⟩) c2 c4) := by
    have hle := vE_len v (some ⟨g2, 0, none⟩) (some ⟨g4, 0, none⟩) c2 c4
    refine ⟨?_, ?_, by have := HB8.out; unfold maxLen; omega, by have := HB8.out; unfold maxLen; omega⟩
    · have hs := sees_own7 HO28.out
      rw [List.nil_append] at hs
      show Sees w8 w8.heap.size (some ⟨g2, 0, none⟩) (bRow (v.c.banks ++ [one]))
      rw [bRow_append, show bRow [one] = bCells one by simp [bRow]]
      exact hs
    · have hs := Sees.own HO4.out
      rw [List.nil_append] at hs
      show Sees w8 w8.heap.size (some ⟨g4, 0, none⟩) (nums .i64 (v.c.order ++ [cars v.c.banks]))
      rw [nums_append, HNC.out]
      exact hs
  have HT : Hid (GJ w (w8.alloc (.cells (vE v (some ⟨g2, 0, none⟩) (some ⟨g4, 0, none⟩) c2 c4).arr 25)) w.heap.size w3.heap.size w8.heap.size v (vE v (some ⟨g2, 0, none⟩) (some ⟨g4, 0, none⟩) c2 c4)) := Lib.hid ⟨H8.out.next Con.says_box, (HD1.out _ HB9.out).next Con.says_box, CBox.new w8 _ _, hin8.box _⟩
  rw [vE_arr] at HT
  have HCE := Lib.hid (HCE0.out (some ⟨g2, 0, none⟩) (some ⟨g4, 0, none⟩) c2 c4)
  have HLE := Lib.hid (HLE0.out (some ⟨g2, 0, none⟩) (some ⟨g4, 0, none⟩) c2 c4)
  have HME := Lib.hid (HME0.out (some ⟨g2, 0, none⟩) (some ⟨g4, 0, none⟩) c2 c4)
  clear hin8 HCE0 HLE0 HME0 H8 a0 a1 a2 a3 a4 a5 a6 a7 a8 a9 a10 a11 a12 HO1 HO2 HO26 HO3 HO37 HO27 HO4 HO28 HAP HB4 HB5 HB6 HB7 HB9 HLJ1 HD1 HSZ1 HW1 HL2 hc1 hlt1 hc3 hf0 hf1
  have d1 := G1.out
  have a1 := HT.out.lj.box.c1
  go_quiet (fail)
  clear d1 a1
  go_wp2
  refine Inv.wp_region_inv (GrowsF2ft w.heap.size w3.heap.size w8.heap.size v (some ⟨g2, 0, none⟩) (some ⟨g4, 0, none⟩) c2 c4 b lc ld le l0 bc bd b0 mc me) (by kernel_rfl) (by kernel_rfl) (by kernel_rfl) ?_ ?_ ?_
  · intro i v W W' _ h hb
    unfold GrowsF2ft at h ⊢
    split at h <;> first | exact h | exact NewRow.next h hb
  · intro i o x W K ho hB hd hK
    match i, ho with
    | 0, ho =>
      obtain rfl := Option.some.inj ho
      simp only [Inv.fill, Act.put, List.setIfInBounds_toArray, List.set_cons_zero, List.set_cons_succ] at hK ⊢
      clear hd ho
      rw [wpOp]
      refine (if_pos rfl).mpr (.inl ?_)
      go_simp
      exact hK _ _ (Below.refl _ _) rfl
    | 1, ho =>
      obtain rfl := Option.some.inj ho
      have e0 : x 0 = .pointer (some ⟨w.heap.size, 0, none⟩) := hd ⟨0, .data⟩ (by simp) rfl
      simp only [Inv.fill, Act.put, List.setIfInBounds_toArray, List.set_cons_zero, List.set_cons_succ, e0] at hK ⊢
      clear hd ho e0
      rw [wpOp]
      refine (if_pos rfl).mpr (.inl ?_)
      have g0 := (HT.out.next (below_undrew hB)).lj.box.c0
      go_simp
      exact hK _ _ (Below.refl _ _) rfl
    | 2, ho =>
      obtain rfl := Option.some.inj ho
      have e1 : x 1 = .slice v.A v.c.banks.length v.cb := hd ⟨1, .data⟩ (by simp) rfl
      simp only [Inv.fill, Act.put, List.setIfInBounds_toArray, List.set_cons_zero, List.set_cons_succ, e1] at hK ⊢
      clear hd ho e1
      rw [wpOp]
      refine (if_pos rfl).mpr (.inl ?_)
      go_simp
      exact hK _ _ (Below.refl _ _) rfl
    | 3, ho =>
      obtain rfl := Option.some.inj ho
      have e2 : x 2 = .int .i64 (v.c.banks.length : Int) := hd ⟨2, .data⟩ (by simp) rfl
      simp only [Inv.fill, Act.put, List.setIfInBounds_toArray, List.set_cons_zero, List.set_cons_succ, e2] at hK ⊢
      clear hd ho e2
      rw [wpOp]
      refine (if_pos rfl).mpr (.inl ?_)
      go_simp
      exact hK _ _ (Below.refl _ _) (by first | exact congrArg Value.bool G4.out | (have g4 := G4.out; simp at g4 ⊢; omega) | simp)
    | 4, ho =>
      obtain rfl := Option.some.inj ho
      have e3 : x 3 = .bool true := hd ⟨3, .data⟩ (by simp) rfl
      simp only [Inv.fill, Act.put, List.setIfInBounds_toArray, List.set_cons_zero, List.set_cons_succ, e3] at hK ⊢
      clear hd ho e3
      rw [wpOp]
      refine (if_pos rfl).mpr (.inl ?_)
      go_simp
      exact hK _ _ (Below.refl _ _) rfl
    | 5, ho =>
      obtain rfl := Option.some.inj ho
      have e4 : x 4 = .bool true := hd ⟨4, .guard⟩ (by simp) rfl
      simp only [Inv.fill, Act.put, List.setIfInBounds_toArray, List.set_cons_zero, List.set_cons_succ, e4] at hK ⊢
      clear hd ho e4
      rw [wpOp]
      refine (if_pos rfl).mpr (.inl ?_)
      have g0 := eb0 (HT.out.next (below_undrew hB)).ebox
      have g1 := (HT.out.next (below_undrew hB)).ebox.c1
      have g2 := (HT.out.next (below_undrew hB)).ebox.c2
      have g3 := eb3 (HT.out.next (below_undrew hB)).ebox
      have g4 := (HT.out.next (below_undrew hB)).ebox.c4
      have g5 := (HT.out.next (below_undrew hB)).ebox.c5
      have g6 := (HT.out.next (below_undrew hB)).ebox.c6
      have g7 := (HT.out.next (below_undrew hB)).ebox.c7
      have g8 := (HT.out.next (below_undrew hB)).ebox.c8
      have g9 := (HT.out.next (below_undrew hB)).ebox.c9
      have g10 := (HT.out.next (below_undrew hB)).ebox.c10
      have g11 := (HT.out.next (below_undrew hB)).ebox.c11
      have g12 := (HT.out.next (below_undrew hB)).ebox.c12
      go_simp
      exact hK _ _ (Below.refl _ _) rfl
    | 6, ho =>
      obtain rfl := Option.some.inj ho
      have e5 : x 5 = .agg #[.slice (some ⟨g2, 0, none⟩) (v.c.banks.length + 1) c2, .int .i64 v.c.floors, .int .i64 v.c.home, .slice (some ⟨g4, 0, none⟩) (v.c.order.length + 1) c4, .int .i64 v.c.speed, .int .i64 v.c.width, .int .i64 v.c.dwell, .int .i64 v.c.good, .int .i64 v.c.dead, .int .i64 v.c.lag, .int .i64 v.c.turn, .int .i64 v.c.cost, .int .i64 v.c.full] := hd ⟨5, .data⟩ (by simp) rfl
      have e4 : x 4 = .bool true := hd ⟨4, .chain⟩ (by simp) rfl
      simp only [Inv.fill, Act.put, List.setIfInBounds_toArray, List.set_cons_zero, List.set_cons_succ, e5, e4] at hK ⊢
      clear hd ho e5 e4
      rw [wpOp]
      refine (if_pos rfl).mpr (.inl ?_)
      have hc := HCE.out (by simp) W (HT.out.next (below_undrew hB)).ein
      go_simp
      refine hc.mono ?_
      rintro e w2 ⟨rfl, hb2⟩
      exact hK _ _ hb2 rfl
    | 7, ho =>
      obtain rfl := Option.some.inj ho
      have e6 : x 6 = .bool true := hd ⟨6, .data⟩ (by simp) rfl
      have e4 : x 4 = .bool true := hd ⟨4, .guard⟩ (by simp) rfl
      simp only [Inv.fill, Act.put, List.setIfInBounds_toArray, List.set_cons_zero, List.set_cons_succ, e6, e4] at hK ⊢
      clear hd ho e6 e4
      rw [wpOp]
      refine (if_pos rfl).mpr (.inl ?_)
      go_simp
      exact hK _ _ (Below.refl _ _) rfl
    | 8, ho =>
      obtain rfl := Option.some.inj ho
      have e7 : x 7 = .bool false := hd ⟨7, .data⟩ (by simp) rfl
      have e4 : x 4 = .bool true := hd ⟨4, .guard⟩ (by simp) rfl
      simp only [Inv.fill, Act.put, List.setIfInBounds_toArray, List.set_cons_zero, List.set_cons_succ, e7, e4] at hK ⊢
      clear hd ho e7 e4
      rw [wpOp]
      refine (if_pos rfl).mpr (.inl ?_)
      go_simp
      exact hK _ _ (Below.refl _ _) rfl
    | 9, ho =>
      obtain rfl := Option.some.inj ho
      have e8 : x 8 = .bool false := hd ⟨8, .guard⟩ (by simp) rfl
      simp only [Inv.fill, Act.put, List.setIfInBounds_toArray, List.set_cons_zero, List.set_cons_succ, e8] at hK ⊢
      clear hd ho e8
      rw [wpOp]
      refine (if_pos rfl).mpr (.inl ?_)
      have g0 := eb0 (HT.out.next (below_undrew hB)).ebox
      have g1 := (HT.out.next (below_undrew hB)).ebox.c1
      have g2 := (HT.out.next (below_undrew hB)).ebox.c2
      have g3 := eb3 (HT.out.next (below_undrew hB)).ebox
      have g4 := (HT.out.next (below_undrew hB)).ebox.c4
      have g5 := (HT.out.next (below_undrew hB)).ebox.c5
      have g6 := (HT.out.next (below_undrew hB)).ebox.c6
      have g7 := (HT.out.next (below_undrew hB)).ebox.c7
      have g8 := (HT.out.next (below_undrew hB)).ebox.c8
      have g9 := (HT.out.next (below_undrew hB)).ebox.c9
      have g10 := (HT.out.next (below_undrew hB)).ebox.c10
      have g11 := (HT.out.next (below_undrew hB)).ebox.c11
      have g12 := (HT.out.next (below_undrew hB)).ebox.c12
      go_simp
      exact hK _ _ (Below.refl _ _) rfl
    | 10, ho =>
      obtain rfl := Option.some.inj ho
      have e8 : x 8 = .bool false := hd ⟨8, .guard⟩ (by simp) rfl
      simp only [Inv.fill, Act.put, List.setIfInBounds_toArray, List.set_cons_zero, List.set_cons_succ, e8] at hK ⊢
      clear hd ho e8
      rw [wpOp]
      refine (if_pos rfl).mpr (.inl ?_)
      go_simp
      exact hK _ _ (Below.refl _ _) rfl
    | 11, ho =>
      obtain rfl := Option.some.inj ho
      have e9 : x 9 = .agg #[.slice (some ⟨g2, 0, none⟩) (v.c.banks.length + 1) c2, .int .i64 v.c.floors, .int .i64 v.c.home, .slice (some ⟨g4, 0, none⟩) (v.c.order.length + 1) c4, .int .i64 v.c.speed, .int .i64 v.c.width, .int .i64 v.c.dwell, .int .i64 v.c.good, .int .i64 v.c.dead, .int .i64 v.c.lag, .int .i64 v.c.turn, .int .i64 v.c.cost, .int .i64 v.c.full] := hd ⟨9, .data⟩ (by simp) rfl
      have e10 : x 10 = .int .i64 b := hd ⟨10, .data⟩ (by simp) rfl
      have e8 : x 8 = .bool false := hd ⟨8, .chain⟩ (by simp) rfl
      simp only [Inv.fill, Act.put, List.setIfInBounds_toArray, List.set_cons_zero, List.set_cons_succ, e9, e10, e8] at hK ⊢
      clear hd ho e9 e10 e8
      rw [wpOp]
      refine (if_pos rfl).mpr (.inl ?_)
      have hc := HLE.out (by simp) W (HT.out.next (below_undrew hB)).ein
      go_simp
      refine hc.mono ?_
      rintro e w2 ⟨rfl, hb2⟩
      exact hK _ _ hb2 rfl
    | 12, ho =>
      obtain rfl := Option.some.inj ho
      have e8 : x 8 = .bool false := hd ⟨8, .guard⟩ (by simp) rfl
      simp only [Inv.fill, Act.put, List.setIfInBounds_toArray, List.set_cons_zero, List.set_cons_succ, e8] at hK ⊢
      clear hd ho e8
      rw [wpOp]
      refine (if_pos rfl).mpr (.inl ?_)
      have g0 := (HT.out.next (below_undrew hB)).lj.box.c0
      have g1 := (HT.out.next (below_undrew hB)).lj.box.c1
      have g2 := (HT.out.next (below_undrew hB)).lj.box.c2
      have g3 := (HT.out.next (below_undrew hB)).lj.box.c3
      have g4 := (HT.out.next (below_undrew hB)).lj.box.c4
      have g5 := (HT.out.next (below_undrew hB)).lj.box.c5
      have g6 := (HT.out.next (below_undrew hB)).lj.box.c6
      have g7 := (HT.out.next (below_undrew hB)).lj.box.c7
      have g8 := (HT.out.next (below_undrew hB)).lj.box.c8
      have g9 := (HT.out.next (below_undrew hB)).lj.box.c9
      have g10 := (HT.out.next (below_undrew hB)).lj.box.c10
      have g11 := (HT.out.next (below_undrew hB)).lj.box.c11
      have g12 := (HT.out.next (below_undrew hB)).lj.box.c12
      go_simp
      exact hK _ _ (Below.refl _ _) rfl
    | 13, ho =>
      obtain rfl := Option.some.inj ho
      have e8 : x 8 = .bool false := hd ⟨8, .guard⟩ (by simp) rfl
      simp only [Inv.fill, Act.put, List.setIfInBounds_toArray, List.set_cons_zero, List.set_cons_succ, e8] at hK ⊢
      clear hd ho e8
      rw [wpOp]
      refine (if_pos rfl).mpr (.inl ?_)
      go_simp
      exact hK _ _ (Below.refl _ _) rfl
    | 14, ho =>
      obtain rfl := Option.some.inj ho
      have e12 : x 12 = .agg #[.slice v.A v.c.banks.length v.cb, .int .i64 v.c.floors, .int .i64 v.c.home, .slice v.O v.c.order.length v.co, .int .i64 v.c.speed, .int .i64 v.c.width, .int .i64 v.c.dwell, .int .i64 v.c.good, .int .i64 v.c.dead, .int .i64 v.c.lag, .int .i64 v.c.turn, .int .i64 v.c.cost, .int .i64 v.c.full] := hd ⟨12, .data⟩ (by simp) rfl
      have e13 : x 13 = .int .i64 b := hd ⟨13, .data⟩ (by simp) rfl
      have e8 : x 8 = .bool false := hd ⟨8, .guard⟩ (by simp) rfl
      simp only [Inv.fill, Act.put, List.setIfInBounds_toArray, List.set_cons_zero, List.set_cons_succ, e12, e13, e8] at hK ⊢
      clear hd ho e12 e13 e8
      rw [wpOp]
      refine (if_pos rfl).mpr (.inl ?_)
      have hc := HLC.out W (HT.out.next (below_undrew hB)).lj.inn
      go_simp
      refine hc.mono ?_
      rintro e w2 ⟨rfl, hb2⟩
      exact hK _ _ hb2 rfl
    | 15, ho =>
      obtain rfl := Option.some.inj ho
      have e11 : x 11 = .int .i64 le := hd ⟨11, .data⟩ (by simp) rfl
      have e14 : x 14 = .int .i64 lc := hd ⟨14, .data⟩ (by simp) rfl
      have e8 : x 8 = .bool false := hd ⟨8, .guard⟩ (by simp) rfl
      simp only [Inv.fill, Act.put, List.setIfInBounds_toArray, List.set_cons_zero, List.set_cons_succ, e11, e14, e8] at hK ⊢
      clear hd ho e11 e14 e8
      rw [wpOp]
      refine (if_pos rfl).mpr (.inl ?_)
      go_simp
      exact hK _ _ (Below.refl _ _) (congrArg Value.bool (G5.out (by simp)))
    | 16, ho =>
      obtain rfl := Option.some.inj ho
      have e8 : x 8 = .bool false := hd ⟨8, .data⟩ (by simp) rfl
      have e15 : x 15 = .bool false := hd ⟨15, .data⟩ (by simp) rfl
      have e4 : x 4 = .bool true := hd ⟨4, .guard⟩ (by simp) rfl
      simp only [Inv.fill, Act.put, List.setIfInBounds_toArray, List.set_cons_zero, List.set_cons_succ, e8, e15, e4] at hK ⊢
      clear hd ho e8 e15 e4
      rw [wpOp]
      refine (if_pos rfl).mpr (.inl ?_)
      go_simp
      exact hK _ _ (Below.refl _ _) rfl
    | 17, ho =>
      obtain rfl := Option.some.inj ho
      have e16 : x 16 = .bool false := hd ⟨16, .data⟩ (by simp) rfl
      have e4 : x 4 = .bool true := hd ⟨4, .guard⟩ (by simp) rfl
      simp only [Inv.fill, Act.put, List.setIfInBounds_toArray, List.set_cons_zero, List.set_cons_succ, e16, e4] at hK ⊢
      clear hd ho e16 e4
      rw [wpOp]
      refine (if_pos rfl).mpr (.inl ?_)
      go_simp
      exact hK _ _ (Below.refl _ _) rfl
    | 18, ho =>
      obtain rfl := Option.some.inj ho
      have e17 : x 17 = .bool false := hd ⟨17, .guard⟩ (by simp) rfl
      simp only [Inv.fill, Act.put, List.setIfInBounds_toArray, List.set_cons_zero, List.set_cons_succ, e17] at hK ⊢
      clear hd ho e17
      rw [wpOp]
      refine (if_pos rfl).mpr (.inl ?_)
      have g0 := eb0 (HT.out.next (below_undrew hB)).ebox
      have g1 := (HT.out.next (below_undrew hB)).ebox.c1
      have g2 := (HT.out.next (below_undrew hB)).ebox.c2
      have g3 := eb3 (HT.out.next (below_undrew hB)).ebox
      have g4 := (HT.out.next (below_undrew hB)).ebox.c4
      have g5 := (HT.out.next (below_undrew hB)).ebox.c5
      have g6 := (HT.out.next (below_undrew hB)).ebox.c6
      have g7 := (HT.out.next (below_undrew hB)).ebox.c7
      have g8 := (HT.out.next (below_undrew hB)).ebox.c8
      have g9 := (HT.out.next (below_undrew hB)).ebox.c9
      have g10 := (HT.out.next (below_undrew hB)).ebox.c10
      have g11 := (HT.out.next (below_undrew hB)).ebox.c11
      have g12 := (HT.out.next (below_undrew hB)).ebox.c12
      go_simp
      exact hK _ _ (Below.refl _ _) rfl
    | 19, ho =>
      obtain rfl := Option.some.inj ho
      have e18 : x 18 = .agg #[.slice (some ⟨g2, 0, none⟩) (v.c.banks.length + 1) c2, .int .i64 v.c.floors, .int .i64 v.c.home, .slice (some ⟨g4, 0, none⟩) (v.c.order.length + 1) c4, .int .i64 v.c.speed, .int .i64 v.c.width, .int .i64 v.c.dwell, .int .i64 v.c.good, .int .i64 v.c.dead, .int .i64 v.c.lag, .int .i64 v.c.turn, .int .i64 v.c.cost, .int .i64 v.c.full] := hd ⟨18, .data⟩ (by simp) rfl
      have e17 : x 17 = .bool false := hd ⟨17, .chain⟩ (by simp) rfl
      simp only [Inv.fill, Act.put, List.setIfInBounds_toArray, List.set_cons_zero, List.set_cons_succ, e18, e17] at hK ⊢
      clear hd ho e18 e17
      rw [wpOp]
      refine (if_pos rfl).mpr (.inl ?_)
      have hc := HME.out (by simp) W (HT.out.next (below_undrew hB)).ein
      go_simp
      refine hc.mono ?_
      rintro e w2 ⟨rfl, hb2⟩
      exact hK _ _ hb2 rfl
    | 20, ho =>
      obtain rfl := Option.some.inj ho
      have e17 : x 17 = .bool false := hd ⟨17, .guard⟩ (by simp) rfl
      simp only [Inv.fill, Act.put, List.setIfInBounds_toArray, List.set_cons_zero, List.set_cons_succ, e17] at hK ⊢
      clear hd ho e17
      rw [wpOp]
      refine (if_pos rfl).mpr (.inl ?_)
      have g0 := (HT.out.next (below_undrew hB)).lj.box.c0
      have g1 := (HT.out.next (below_undrew hB)).lj.box.c1
      have g2 := (HT.out.next (below_undrew hB)).lj.box.c2
      have g3 := (HT.out.next (below_undrew hB)).lj.box.c3
      have g4 := (HT.out.next (below_undrew hB)).lj.box.c4
      have g5 := (HT.out.next (below_undrew hB)).lj.box.c5
      have g6 := (HT.out.next (below_undrew hB)).lj.box.c6
      have g7 := (HT.out.next (below_undrew hB)).lj.box.c7
      have g8 := (HT.out.next (below_undrew hB)).lj.box.c8
      have g9 := (HT.out.next (below_undrew hB)).lj.box.c9
      have g10 := (HT.out.next (below_undrew hB)).lj.box.c10
      have g11 := (HT.out.next (below_undrew hB)).lj.box.c11
      have g12 := (HT.out.next (below_undrew hB)).lj.box.c12
      go_simp
      exact hK _ _ (Below.refl _ _) rfl
    | 21, ho =>
      obtain rfl := Option.some.inj ho
      have e20 : x 20 = .agg #[.slice v.A v.c.banks.length v.cb, .int .i64 v.c.floors, .int .i64 v.c.home, .slice v.O v.c.order.length v.co, .int .i64 v.c.speed, .int .i64 v.c.width, .int .i64 v.c.dwell, .int .i64 v.c.good, .int .i64 v.c.dead, .int .i64 v.c.lag, .int .i64 v.c.turn, .int .i64 v.c.cost, .int .i64 v.c.full] := hd ⟨20, .data⟩ (by simp) rfl
      have e17 : x 17 = .bool false := hd ⟨17, .guard⟩ (by simp) rfl
      simp only [Inv.fill, Act.put, List.setIfInBounds_toArray, List.set_cons_zero, List.set_cons_succ, e20, e17] at hK ⊢
      clear hd ho e20 e17
      rw [wpOp]
      refine (if_pos rfl).mpr (.inl ?_)
      have hc := HMC.out W (HT.out.next (below_undrew hB)).lj.inn
      go_simp
      refine hc.mono ?_
      rintro e w2 ⟨rfl, hb2⟩
      exact hK _ _ hb2 rfl
    | 22, ho =>
      obtain rfl := Option.some.inj ho
      have e19 : x 19 = .int .i64 me := hd ⟨19, .data⟩ (by simp) rfl
      have e21 : x 21 = .int .i64 mc := hd ⟨21, .data⟩ (by simp) rfl
      have e17 : x 17 = .bool false := hd ⟨17, .guard⟩ (by simp) rfl
      simp only [Inv.fill, Act.put, List.setIfInBounds_toArray, List.set_cons_zero, List.set_cons_succ, e19, e21, e17] at hK ⊢
      clear hd ho e19 e21 e17
      rw [wpOp]
      refine (if_pos rfl).mpr (.inl ?_)
      go_simp
      exact hK _ _ (Below.refl _ _) (congrArg Value.bool (G6.out (by simp)))
    | 23, ho =>
      obtain rfl := Option.some.inj ho
      have e17 : x 17 = .bool false := hd ⟨17, .data⟩ (by simp) rfl
      have e22 : x 22 = .bool false := hd ⟨22, .data⟩ (by simp) rfl
      have e4 : x 4 = .bool true := hd ⟨4, .guard⟩ (by simp) rfl
      simp only [Inv.fill, Act.put, List.setIfInBounds_toArray, List.set_cons_zero, List.set_cons_succ, e17, e22, e4] at hK ⊢
      clear hd ho e17 e22 e4
      rw [wpOp]
      refine (if_pos rfl).mpr (.inl ?_)
      go_simp
      exact hK _ _ (Below.refl _ _) rfl
    | 24, ho =>
      obtain rfl := Option.some.inj ho
      have e4 : x 4 = .bool true := hd ⟨4, .data⟩ (by simp) rfl
      have e23 : x 23 = .bool false := hd ⟨23, .data⟩ (by simp) rfl
      simp only [Inv.fill, Act.put, List.setIfInBounds_toArray, List.set_cons_zero, List.set_cons_succ, e4, e23] at hK ⊢
      clear hd ho e4 e23
      rw [wpOp]
      refine (if_pos rfl).mpr (.inl ?_)
      go_simp
      exact hK _ _ (Below.refl _ _) rfl
    | n + 25, ho => simp at ho
  · intro x W hB hx
    have e24 : x 24 = .bool false := hx 24 (by simp)
    simp only [Inv.fill, Act.put, List.setIfInBounds_toArray, List.set_cons_zero, List.set_cons_succ, e24]
    clear hx e24
    have HT2 := Lib.hid (HT.out.next (below_undrew hB))
    clear HT hB
    have HT := HT2
    clear HT2
    go_wp2
    refine Inv.wp_region_inv (GrowsF3ft w.heap.size w3.heap.size w8.heap.size v (some ⟨g2, 0, none⟩) (some ⟨g4, 0, none⟩) c2 c4 b lc ld le l0 bc bd b0 mc me) (by kernel_rfl) (by kernel_rfl) (by kernel_rfl) ?_ ?_ ?_
    · intro i v W W' _ h hb
      unfold GrowsF3ft at h ⊢
      split at h <;> first | exact h | exact NewRow.next h hb
    · intro i o x W K ho hB hd hK
      match i, ho with
      | 0, ho =>
        obtain rfl := Option.some.inj ho
        simp only [Inv.fill, Act.put, List.setIfInBounds_toArray, List.set_cons_zero, List.set_cons_succ] at hK ⊢
        clear hd ho
        rw [wpOp]
        refine (if_pos rfl).mpr (.inl ?_)
        have g0 := (HT.out.next hB).lj.box.c0
        have g1 := (HT.out.next hB).lj.box.c1
        have g2 := (HT.out.next hB).lj.box.c2
        have g3 := (HT.out.next hB).lj.box.c3
        have g4 := (HT.out.next hB).lj.box.c4
        have g5 := (HT.out.next hB).lj.box.c5
        have g6 := (HT.out.next hB).lj.box.c6
        have g7 := (HT.out.next hB).lj.box.c7
        have g8 := (HT.out.next hB).lj.box.c8
        have g9 := (HT.out.next hB).lj.box.c9
        have g10 := (HT.out.next hB).lj.box.c10
        have g11 := (HT.out.next hB).lj.box.c11
        have g12 := (HT.out.next hB).lj.box.c12
        go_simp
        exact hK _ _ (Below.refl _ _) rfl
      | 1, ho =>
        obtain rfl := Option.some.inj ho
        simp only [Inv.fill, Act.put, List.setIfInBounds_toArray, List.set_cons_zero, List.set_cons_succ] at hK ⊢
        clear hd ho
        rw [wpOp]
        refine (if_pos rfl).mpr (.inl ?_)
        go_simp
        exact hK _ _ (Below.refl _ _) rfl
      | 2, ho =>
        obtain rfl := Option.some.inj ho
        have e0 : x 0 = .agg #[.slice v.A v.c.banks.length v.cb, .int .i64 v.c.floors, .int .i64 v.c.home, .slice v.O v.c.order.length v.co, .int .i64 v.c.speed, .int .i64 v.c.width, .int .i64 v.c.dwell, .int .i64 v.c.good, .int .i64 v.c.dead, .int .i64 v.c.lag, .int .i64 v.c.turn, .int .i64 v.c.cost, .int .i64 v.c.full] := hd ⟨0, .data⟩ (by simp) rfl
        have e1 : x 1 = .int .i64 b := hd ⟨1, .data⟩ (by simp) rfl
        simp only [Inv.fill, Act.put, List.setIfInBounds_toArray, List.set_cons_zero, List.set_cons_succ, e0, e1] at hK ⊢
        clear hd ho e0 e1
        rw [wpOp]
        refine (if_pos rfl).mpr (.inl ?_)
        have hc := HLC.out W (HT.out.next hB).lj.inn
        go_simp
        refine hc.mono ?_
        rintro e w2 ⟨rfl, hb2⟩
        exact hK _ _ hb2 rfl
      | 3, ho =>
        obtain rfl := Option.some.inj ho
        simp only [Inv.fill, Act.put, List.setIfInBounds_toArray, List.set_cons_zero, List.set_cons_succ] at hK ⊢
        clear hd ho
        rw [wpOp]
        refine (if_pos rfl).mpr (.inl ?_)
        have g0 := (HT.out.next hB).lj.box.c0
        have g1 := (HT.out.next hB).lj.box.c1
        have g2 := (HT.out.next hB).lj.box.c2
        have g3 := (HT.out.next hB).lj.box.c3
        have g4 := (HT.out.next hB).lj.box.c4
        have g5 := (HT.out.next hB).lj.box.c5
        have g6 := (HT.out.next hB).lj.box.c6
        have g7 := (HT.out.next hB).lj.box.c7
        have g8 := (HT.out.next hB).lj.box.c8
        have g9 := (HT.out.next hB).lj.box.c9
        have g10 := (HT.out.next hB).lj.box.c10
        have g11 := (HT.out.next hB).lj.box.c11
        have g12 := (HT.out.next hB).lj.box.c12
        go_simp
        exact hK _ _ (Below.refl _ _) rfl
      | 4, ho =>
        obtain rfl := Option.some.inj ho
        have e3 : x 3 = .agg #[.slice v.A v.c.banks.length v.cb, .int .i64 v.c.floors, .int .i64 v.c.home, .slice v.O v.c.order.length v.co, .int .i64 v.c.speed, .int .i64 v.c.width, .int .i64 v.c.dwell, .int .i64 v.c.good, .int .i64 v.c.dead, .int .i64 v.c.lag, .int .i64 v.c.turn, .int .i64 v.c.cost, .int .i64 v.c.full] := hd ⟨3, .data⟩ (by simp) rfl
        simp only [Inv.fill, Act.put, List.setIfInBounds_toArray, List.set_cons_zero, List.set_cons_succ, e3] at hK ⊢
        clear hd ho e3
        rw [wpOp]
        refine (if_pos rfl).mpr (.inl ?_)
        have hc := HL0.out W (HT.out.next hB).lj.inn
        go_simp
        refine hc.mono ?_
        rintro e w2 ⟨rfl, hb2⟩
        exact hK _ _ hb2 rfl
      | 5, ho =>
        obtain rfl := Option.some.inj ho
        simp only [Inv.fill, Act.put, List.setIfInBounds_toArray, List.set_cons_zero, List.set_cons_succ] at hK ⊢
        clear hd ho
        rw [wpOp]
        refine (if_pos rfl).mpr (.inl ?_)
        go_simp
        exact hK _ _ (Below.refl _ _) rfl
      | 6, ho =>
        obtain rfl := Option.some.inj ho
        have e4 : x 4 = .int .i64 l0 := hd ⟨4, .data⟩ (by simp) rfl
        have e5 : x 5 = .int .i64 b := hd ⟨5, .data⟩ (by simp) rfl
        simp only [Inv.fill, Act.put, List.setIfInBounds_toArray, List.set_cons_zero, List.set_cons_succ, e4, e5] at hK ⊢
        clear hd ho e4 e5
        rw [wpOp]
        refine (if_pos rfl).mpr (.inl ?_)
        go_simp
        exact hK _ _ (Below.refl _ _) (congrArg (Value.int .i64) E1.out)
      | 7, ho =>
        obtain rfl := Option.some.inj ho
        have e2 : x 2 = .int .i64 lc := hd ⟨2, .data⟩ (by simp) rfl
        have e6 : x 6 = .int .i64 lc := hd ⟨6, .data⟩ (by simp) rfl
        simp only [Inv.fill, Act.put, List.setIfInBounds_toArray, List.set_cons_zero, List.set_cons_succ, e2, e6] at hK ⊢
        clear hd ho e2 e6
        rw [wpOp]
        refine (if_pos rfl).mpr (.inl ?_)
        go_simp
        exact hK _ _ (Below.refl _ _) (show Value.bool _ = Value.bool true by simp)
      | 8, ho =>
        obtain rfl := Option.some.inj ho
        have e7 : x 7 = .bool true := hd ⟨7, .data⟩ (by simp) rfl
        simp only [Inv.fill, Act.put, List.setIfInBounds_toArray, List.set_cons_zero, List.set_cons_succ, e7] at hK ⊢
        clear hd ho e7
        rw [wpOp]
        refine (if_pos rfl).mpr (.inl ?_)
        go_simp
        exact hK _ _ (Below.refl _ _) rfl
      | 9, ho =>
        obtain rfl := Option.some.inj ho
        have e8 : x 8 = .bool true := hd ⟨8, .guard⟩ (by simp) rfl
        simp only [Inv.fill, Act.put, List.setIfInBounds_toArray, List.set_cons_zero, List.set_cons_succ, e8] at hK ⊢
        clear hd ho e8
        rw [wpOp]
        refine (if_pos rfl).mpr (.inl ?_)
        have g0 := (HT.out.next hB).lj.box.c0
        have g1 := (HT.out.next hB).lj.box.c1
        have g2 := (HT.out.next hB).lj.box.c2
        have g3 := (HT.out.next hB).lj.box.c3
        have g4 := (HT.out.next hB).lj.box.c4
        have g5 := (HT.out.next hB).lj.box.c5
        have g6 := (HT.out.next hB).lj.box.c6
        have g7 := (HT.out.next hB).lj.box.c7
        have g8 := (HT.out.next hB).lj.box.c8
        have g9 := (HT.out.next hB).lj.box.c9
        have g10 := (HT.out.next hB).lj.box.c10
        have g11 := (HT.out.next hB).lj.box.c11
        have g12 := (HT.out.next hB).lj.box.c12
        go_simp
        exact hK _ _ (Below.refl _ _) rfl
      | 10, ho =>
        obtain rfl := Option.some.inj ho
        have e8 : x 8 = .bool true := hd ⟨8, .guard⟩ (by simp) rfl
        simp only [Inv.fill, Act.put, List.setIfInBounds_toArray, List.set_cons_zero, List.set_cons_succ, e8] at hK ⊢
        clear hd ho e8
        rw [wpOp]
        refine (if_pos rfl).mpr (.inl ?_)
        go_simp
        exact hK _ _ (Below.refl _ _) rfl
      | 11, ho =>
        obtain rfl := Option.some.inj ho
        have e9 : x 9 = .agg #[.slice v.A v.c.banks.length v.cb, .int .i64 v.c.floors, .int .i64 v.c.home, .slice v.O v.c.order.length v.co, .int .i64 v.c.speed, .int .i64 v.c.width, .int .i64 v.c.dwell, .int .i64 v.c.good, .int .i64 v.c.dead, .int .i64 v.c.lag, .int .i64 v.c.turn, .int .i64 v.c.cost, .int .i64 v.c.full] := hd ⟨9, .data⟩ (by simp) rfl
        have e10 : x 10 = .int .i64 b := hd ⟨10, .data⟩ (by simp) rfl
        have e8 : x 8 = .bool true := hd ⟨8, .chain⟩ (by simp) rfl
        simp only [Inv.fill, Act.put, List.setIfInBounds_toArray, List.set_cons_zero, List.set_cons_succ, e9, e10, e8] at hK ⊢
        clear hd ho e9 e10 e8
        rw [wpOp]
        refine (if_pos rfl).mpr (.inl ?_)
        have hc := HBC.out W
        go_simp
        refine hc.mono ?_
        rintro e w2 ⟨rfl, hb2⟩
        exact hK _ _ hb2 rfl
      | 12, ho =>
        obtain rfl := Option.some.inj ho
        have e8 : x 8 = .bool true := hd ⟨8, .guard⟩ (by simp) rfl
        simp only [Inv.fill, Act.put, List.setIfInBounds_toArray, List.set_cons_zero, List.set_cons_succ, e8] at hK ⊢
        clear hd ho e8
        rw [wpOp]
        refine (if_pos rfl).mpr (.inl ?_)
        have g0 := (HT.out.next hB).lj.box.c0
        have g1 := (HT.out.next hB).lj.box.c1
        have g2 := (HT.out.next hB).lj.box.c2
        have g3 := (HT.out.next hB).lj.box.c3
        have g4 := (HT.out.next hB).lj.box.c4
        have g5 := (HT.out.next hB).lj.box.c5
        have g6 := (HT.out.next hB).lj.box.c6
        have g7 := (HT.out.next hB).lj.box.c7
        have g8 := (HT.out.next hB).lj.box.c8
        have g9 := (HT.out.next hB).lj.box.c9
        have g10 := (HT.out.next hB).lj.box.c10
        have g11 := (HT.out.next hB).lj.box.c11
        have g12 := (HT.out.next hB).lj.box.c12
        go_simp
        exact hK _ _ (Below.refl _ _) rfl
      | 13, ho =>
        obtain rfl := Option.some.inj ho
        have e12 : x 12 = .agg #[.slice v.A v.c.banks.length v.cb, .int .i64 v.c.floors, .int .i64 v.c.home, .slice v.O v.c.order.length v.co, .int .i64 v.c.speed, .int .i64 v.c.width, .int .i64 v.c.dwell, .int .i64 v.c.good, .int .i64 v.c.dead, .int .i64 v.c.lag, .int .i64 v.c.turn, .int .i64 v.c.cost, .int .i64 v.c.full] := hd ⟨12, .data⟩ (by simp) rfl
        have e8 : x 8 = .bool true := hd ⟨8, .guard⟩ (by simp) rfl
        simp only [Inv.fill, Act.put, List.setIfInBounds_toArray, List.set_cons_zero, List.set_cons_succ, e12, e8] at hK ⊢
        clear hd ho e12 e8
        rw [wpOp]
        refine (if_pos rfl).mpr (.inl ?_)
        have hc := HB00.out W
        go_simp
        refine hc.mono ?_
        rintro e w2 ⟨rfl, hb2⟩
        exact hK _ _ hb2 rfl
      | 14, ho =>
        obtain rfl := Option.some.inj ho
        have e8 : x 8 = .bool true := hd ⟨8, .guard⟩ (by simp) rfl
        simp only [Inv.fill, Act.put, List.setIfInBounds_toArray, List.set_cons_zero, List.set_cons_succ, e8] at hK ⊢
        clear hd ho e8
        rw [wpOp]
        refine (if_pos rfl).mpr (.inl ?_)
        go_simp
        exact hK _ _ (Below.refl _ _) rfl
      | 15, ho =>
        obtain rfl := Option.some.inj ho
        have e13 : x 13 = .int .i64 b0 := hd ⟨13, .data⟩ (by simp) rfl
        have e14 : x 14 = .int .i64 b := hd ⟨14, .data⟩ (by simp) rfl
        have e8 : x 8 = .bool true := hd ⟨8, .guard⟩ (by simp) rfl
        simp only [Inv.fill, Act.put, List.setIfInBounds_toArray, List.set_cons_zero, List.set_cons_succ, e13, e14, e8] at hK ⊢
        clear hd ho e13 e14 e8
        rw [wpOp]
        refine (if_pos rfl).mpr (.inl ?_)
        go_simp
        exact hK _ _ (Below.refl _ _) (congrArg (Value.int .i64) E2.out)
      | 16, ho =>
        obtain rfl := Option.some.inj ho
        have e11 : x 11 = .int .i64 bc := hd ⟨11, .data⟩ (by simp) rfl
        have e15 : x 15 = .int .i64 bc := hd ⟨15, .data⟩ (by simp) rfl
        have e8 : x 8 = .bool true := hd ⟨8, .guard⟩ (by simp) rfl
        simp only [Inv.fill, Act.put, List.setIfInBounds_toArray, List.set_cons_zero, List.set_cons_succ, e11, e15, e8] at hK ⊢
        clear hd ho e11 e15 e8
        rw [wpOp]
        refine (if_pos rfl).mpr (.inl ?_)
        go_simp
        exact hK _ _ (Below.refl _ _) (show Value.bool _ = Value.bool true by simp)
      | 17, ho =>
        obtain rfl := Option.some.inj ho
        have e8 : x 8 = .bool true := hd ⟨8, .data⟩ (by simp) rfl
        have e16 : x 16 = .bool true := hd ⟨16, .data⟩ (by simp) rfl
        simp only [Inv.fill, Act.put, List.setIfInBounds_toArray, List.set_cons_zero, List.set_cons_succ, e8, e16] at hK ⊢
        clear hd ho e8 e16
        rw [wpOp]
        refine (if_pos rfl).mpr (.inl ?_)
        go_simp
        exact hK _ _ (Below.refl _ _) rfl
      | 18, ho =>
        obtain rfl := Option.some.inj ho
        have e17 : x 17 = .bool true := hd ⟨17, .data⟩ (by simp) rfl
        simp only [Inv.fill, Act.put, List.setIfInBounds_toArray, List.set_cons_zero, List.set_cons_succ, e17] at hK ⊢
        clear hd ho e17
        rw [wpOp]
        refine (if_pos rfl).mpr (.inl ?_)
        go_simp
        exact hK _ _ (Below.refl _ _) rfl
      | 19, ho =>
        obtain rfl := Option.some.inj ho
        have e18 : x 18 = .bool true := hd ⟨18, .guard⟩ (by simp) rfl
        simp only [Inv.fill, Act.put, List.setIfInBounds_toArray, List.set_cons_zero, List.set_cons_succ, e18] at hK ⊢
        clear hd ho e18
        rw [wpOp]
        refine (if_pos rfl).mpr (.inl ?_)
        have g0 := (HT.out.next hB).lj.box.c0
        have g1 := (HT.out.next hB).lj.box.c1
        have g2 := (HT.out.next hB).lj.box.c2
        have g3 := (HT.out.next hB).lj.box.c3
        have g4 := (HT.out.next hB).lj.box.c4
        have g5 := (HT.out.next hB).lj.box.c5
        have g6 := (HT.out.next hB).lj.box.c6
        have g7 := (HT.out.next hB).lj.box.c7
        have g8 := (HT.out.next hB).lj.box.c8
        have g9 := (HT.out.next hB).lj.box.c9
        have g10 := (HT.out.next hB).lj.box.c10
        have g11 := (HT.out.next hB).lj.box.c11
        have g12 := (HT.out.next hB).lj.box.c12
        go_simp
        exact hK _ _ (Below.refl _ _) rfl
      | 20, ho =>
        obtain rfl := Option.some.inj ho
        have e18 : x 18 = .bool true := hd ⟨18, .guard⟩ (by simp) rfl
        simp only [Inv.fill, Act.put, List.setIfInBounds_toArray, List.set_cons_zero, List.set_cons_succ, e18] at hK ⊢
        clear hd ho e18
        rw [wpOp]
        refine (if_pos rfl).mpr (.inl ?_)
        go_simp
        exact hK _ _ (Below.refl _ _) rfl
      | 21, ho =>
        obtain rfl := Option.some.inj ho
        have e19 : x 19 = .agg #[.slice v.A v.c.banks.length v.cb, .int .i64 v.c.floors, .int .i64 v.c.home, .slice v.O v.c.order.length v.co, .int .i64 v.c.speed, .int .i64 v.c.width, .int .i64 v.c.dwell, .int .i64 v.c.good, .int .i64 v.c.dead, .int .i64 v.c.lag, .int .i64 v.c.turn, .int .i64 v.c.cost, .int .i64 v.c.full] := hd ⟨19, .data⟩ (by simp) rfl
        have e20 : x 20 = .int .i64 b := hd ⟨20, .data⟩ (by simp) rfl
        have e18 : x 18 = .bool true := hd ⟨18, .chain⟩ (by simp) rfl
        simp only [Inv.fill, Act.put, List.setIfInBounds_toArray, List.set_cons_zero, List.set_cons_succ, e19, e20, e18] at hK ⊢
        clear hd ho e19 e20 e18
        rw [wpOp]
        refine (if_pos rfl).mpr (.inl ?_)
        have hc := HLC.out W (HT.out.next hB).lj.inn
        go_simp
        refine hc.mono ?_
        rintro e w2 ⟨rfl, hb2⟩
        exact hK _ _ hb2 rfl
      | 22, ho =>
        obtain rfl := Option.some.inj ho
        have e21 : x 21 = .int .i64 lc := hd ⟨21, .data⟩ (by simp) rfl
        have e18 : x 18 = .bool true := hd ⟨18, .guard⟩ (by simp) rfl
        simp only [Inv.fill, Act.put, List.setIfInBounds_toArray, List.set_cons_zero, List.set_cons_succ, e21, e18] at hK ⊢
        clear hd ho e21 e18
        rw [wpOp]
        refine (if_pos rfl).mpr (.inl ?_)
        go_simp
        exact hK _ _ (Below.refl _ _) (congrArg Value.bool G7.out)
      | 23, ho =>
        obtain rfl := Option.some.inj ho
        have e18 : x 18 = .bool true := hd ⟨18, .data⟩ (by simp) rfl
        have e22 : x 22 = .bool true := hd ⟨22, .data⟩ (by simp) rfl
        simp only [Inv.fill, Act.put, List.setIfInBounds_toArray, List.set_cons_zero, List.set_cons_succ, e18, e22] at hK ⊢
        clear hd ho e18 e22
        rw [wpOp]
        refine (if_pos rfl).mpr (.inl ?_)
        go_simp
        exact hK _ _ (Below.refl _ _) rfl
      | 24, ho =>
        obtain rfl := Option.some.inj ho
        have e23 : x 23 = .bool true := hd ⟨23, .data⟩ (by simp) rfl
        simp only [Inv.fill, Act.put, List.setIfInBounds_toArray, List.set_cons_zero, List.set_cons_succ, e23] at hK ⊢
        clear hd ho e23
        rw [wpOp]
        refine (if_pos rfl).mpr (.inl ?_)
        go_simp
        exact hK _ _ (Below.refl _ _) rfl
      | n + 25, ho => simp at ho
    · intro x W hB hx
      have e24 : x 24 = .bool true := hx 24 (by simp)
      simp only [Inv.fill, Act.put, List.setIfInBounds_toArray, List.set_cons_zero, List.set_cons_succ, e24]
      clear hx e24
      go_wp2
      go_ret
      exact ⟨rfl, (HT.out.next hB).lj.below⟩

end Go.Proofs.Ytkicijgempccfaa.Walk
