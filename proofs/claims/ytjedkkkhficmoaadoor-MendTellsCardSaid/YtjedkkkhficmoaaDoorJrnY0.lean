import Derived.Test.YtjedkkkhficmoaaDoorLgrI
import Derived.Test.YtjedkkkhficmoaaDoorJrnF
import Derived.LoopN
import Derived.Test.YtjedkkkhficmoaaDoorJrnX0
import Derived.Test.YtjedkkkhficmoaaDoorRefX
import Derived.Deep.DeepMust

/- The reference's ledger: power, Find, Sum, Check. -/
namespace Go.Proofs.YtjedkkkhficmoaaDoor.Jrn
open Go.RowKit Go.Proofs.YtjedkkkhficmoaaDoor.Plain Go.Proofs.YtjedkkkhficmoaaDoor.Sees Go.Proofs.YtjedkkkhficmoaaDoor.Oct Go.Proofs.YtjedkkkhficmoaaDoor.Crc Go.Proofs.YtjedkkkhficmoaaDoor.Box Go.Proofs.YtjedkkkhficmoaaDoor.Held Go.Proofs.YtjedkkkhficmoaaDoor.JrnP Go.Proofs.YtjedkkkhficmoaaDoor.Open Go.Proofs.YtjedkkkhficmoaaDoor.LgrP Go.Proofs.YtjedkkkhficmoaaDoor.SatP
set_option linter.unusedVariables false
set_option maxRecDepth 100000

theorem rlPower_any (n : Int) (w : World) : Calls Tryd.prog 70 #[.int .i64 n] w fun e w' => e = .returned (.bool (pwr n)) ∧ Below w.heap.size w w' := by
  unfold pwr
  by_cases h0 : 0 ≤ n
  · by_cases h1 : n ≤ 1048576
    all_goals
      go_enter Tryd.func70, Tryd.ntmps70
      go_wp2
      go_ret
      exact ⟨ret_bool (by simp; omega), Below.refl _ _⟩
  · go_enter Tryd.func70, Tryd.ntmps70
    go_wp2
    go_ret
    exact ⟨ret_bool (by simp; omega), Below.refl _ _⟩

theorem take_at {l : List Pm} {q : Nat} {p : Pm} (h : l[q]? = some p) : l.take (q + 1) = l.take q ++ [p] := by rw [List.take_add_one, h]; rfl

set_option maxHeartbeats 1600000 in
theorem rlFind_any (A : Option Addr) (cap n : Nat) (l : List Pm) (w : World) (h : Sees w w.heap.size A (pms l)) (hl : l.length = n) (hn : n ≤ 200) (b m k car : Int) :
    Calls Tryd.prog 25 #[.agg #[.int .i64 b, .int .i64 m, .int .i64 k, .slice A n cap], .int .i64 car] w fun e w' => e = .returned (.int .i64 (idx l car)) ∧ Below w.heap.size w w' := by
  have HL := Lib.hid hl
  have HS := Lib.hid h
  have hj := Lib.hid (J.one w #[.int .i64 b, .int .i64 m, .int .i64 k, .slice A n cap] 42)
  obtain ⟨a0, a1, a2, a3⟩ := (hj.out.bx 0 rfl).c4
  clear hl h
  go_enter Tryd.func25, Tryd.ntmps25
  go_wp2
  go_loop [5] (fun i => ∃ q : Nat, q ≤ n ∧ i = .int .i64 q ∧ Hid (∀ (j : Nat) (p : Pm), j < q → l[j]? = some p → p.c ≠ car)) (fun i => n - (intOf i).toNat)
  case atStart => exact ⟨0, Nat.zero_le _, rfl, Lib.hid fun j p h => absurd h (Nat.not_lt_zero _)⟩
  case round =>
    obtain ⟨q, hq, rfl, HB⟩ := hrel
    by_cases hlt : q < n
    · obtain ⟨p, bb, o, hp, rfl, hbb, c0, c1⟩ := pm_at (HS.out.below hj.out.below (Nat.le_refl _)) (i := q) (by rw [HL.out]; exact hlt)
      obtain ⟨pc, pp⟩ := p
      simp only at c0 c1
      have i1 : (q : Int) < (n : Int) := by omega
      have e3 : IntKind.i64.wrap ((q : Int) + 1) = ((q + 1 : Nat) : Int) := by rw [IntWalk.i64_in _ (by omega)]; rfl
      have HP := Lib.hid hp
      have HLT := Lib.hid hlt
      clear hp hlt hbb
      by_cases hc : pc = car
      · have d1 : decide (pc = car) = true := decide_eq_true hc
        have d2 : (pc == car) = true := beq_iff_eq.2 hc
        have hidx : Hid (idx l car = (q : Int)) := Lib.hid (idx_hit HP.out hc HB.out)
        go_wp2
        go_ret
        exact ⟨by rw [hidx.out]; rfl, hj.out.below⟩
      · have d1 : decide (pc = car) = false := decide_eq_false hc
        have d2 : (pc == car) = false := beq_eq_false_iff_ne.2 hc
        have HC := Lib.hid hc
        clear hc
        go_wp2
        go_round
        case rel => exact ⟨q + 1, HLT.out, rfl, Lib.hid fun j p hj hp => by
          by_cases e : j = q
          · subst e
            have := HP.out.symm.trans hp
            injection this with this
            subst this
            exact HC.out
          · exact HB.out j p (by omega) hp⟩
        case measure => have := HLT.out; simp [intOf]; omega
    · obtain rfl : q = n := by omega
      have hidx : Hid (idx l car = -1) := Lib.hid (idx_miss fun j p hp => HB.out j p (by
        have := (List.getElem?_eq_some_iff.1 hp).1
        rw [HL.out] at this; exact this) hp)
      go_wp2
      go_ret
      exact ⟨by rw [hidx.out]; rfl, hj.out.below⟩

set_option maxHeartbeats 1600000 in
theorem rlSum_any (A : Option Addr) (cap n : Nat) (l : List Pm) (w : World) (h : Sees w w.heap.size A (pms l)) (hl : l.length = n) (hn : n ≤ 200) (hp : ∀ p ∈ l, 0 ≤ p.p ∧ p.p ≤ 1048576) (b m k : Int) :
    Calls Tryd.prog 26 #[.agg #[.int .i64 b, .int .i64 m, .int .i64 k, .slice A n cap]] w fun e w' => e = .returned (.int .i64 (tot (pk l))) ∧ Below w.heap.size w w' := by
  have HL := Lib.hid hl
  have HS := Lib.hid h
  have HP0 := Lib.hid hp
  have hj := Lib.hid (J.one w #[.int .i64 b, .int .i64 m, .int .i64 k, .slice A n cap] 42)
  obtain ⟨a0, a1, a2, a3⟩ := (hj.out.bx 0 rfl).c4
  clear hl h hp
  go_enter Tryd.func26, Tryd.ntmps26
  go_wp2
  go_loop [3, 4] (fun s i => ∃ q : Nat, q ≤ n ∧ i = .int .i64 q ∧ s = .int .i64 (tot (pk (l.take q)))) (fun _ i => n - (intOf i).toNat)
  case atStart => exact ⟨0, Nat.zero_le _, rfl, rfl⟩
  case round =>
    obtain ⟨q, hq, rfl, rfl⟩ := hrel
    by_cases hlt : q < n
    · obtain ⟨p, bb, o, hp, rfl, hbb, c0, c1⟩ := pm_at (HS.out.below hj.out.below (Nat.le_refl _)) (i := q) (by rw [HL.out]; exact hlt)
      have HT := Lib.hid (tot_take_succ hp)
      have hb1 := tot_ge (l := l.take q) fun p hp => HP0.out p (List.mem_of_mem_take hp)
      have hb2 := HP0.out p (List.mem_of_getElem? hp)
      have hb3 : (l.take q).length ≤ 200 := by rw [List.length_take]; omega
      obtain ⟨pc, pp⟩ := p
      simp only at c0 c1 HT hb2
      obtain ⟨S, hS⟩ : ∃ S, tot (pk (l.take q)) = S := ⟨_, rfl⟩
      rw [hS] at hb1 ⊢
      have i1 : (q : Int) < (n : Int) := by omega
      have e3 : IntKind.i64.wrap ((q : Int) + 1) = ((q + 1 : Nat) : Int) := by rw [IntWalk.i64_in _ (by omega)]; rfl
      have e4 : IntKind.i64.wrap (S + pp) = S + pp := IntWalk.i64_in _ (by omega)
      have HLT := Lib.hid hlt
      have HSS := Lib.hid hS
      clear hp hlt hbb hS hb1 hb2 hb3
      go_wp2
      go_round
      case rel => exact ⟨q + 1, HLT.out, rfl, by rw [HT.out, HSS.out]⟩
      case measure => have := HLT.out; simp [intOf]; omega
    · obtain rfl : q = n := by omega
      have ht : Hid (l.take q = l) := Lib.hid (List.take_of_length_le (by rw [HL.out]; exact Nat.le_refl _))
      rw [ht.out]
      go_wp2
      go_ret
      exact ⟨rfl, hj.out.below⟩

/-- a car's permit is the first one of it -/
theorem idx_first {l : List Pm} {q : Nat} {p : Pm} (h : l[q]? = some p) : idx l p.c = (q : Int) ↔ idx (l.take q) p.c < 0 := by
  constructor
  · intro hi
    have : idx (l.take q) p.c = -1 := idx_miss fun j r hr => by
      rw [List.getElem?_take] at hr
      split at hr
      · rename_i hj
        intro e
        unfold idx at hi
        split at hi
        · rename_i i he
          have hiq : i = q := by omega
          subst hiq
          obtain ⟨hl, _, hbef⟩ := List.findIdx?_eq_some_iff_getElem.1 he
          have := hbef j hj
          obtain ⟨_, h2⟩ := List.getElem?_eq_some_iff.1 hr
          rw [h2] at this
          simp [e] at this
        · omega
      · cases hr
    omega
  · intro hi
    refine idx_hit h rfl fun j r hj hr e => ?_
    unfold idx at hi
    split at hi
    · omega
    · rename_i he
      rw [List.findIdx?_eq_none_iff] at he
      have := he r (List.mem_of_getElem? (i := j) (by rw [List.getElem?_take_of_lt hj]; exact hr))
      simp [e] at this
theorem apart_ok : ∀ (l pre : List Pm), apart pre l = true → ∀ p ∈ l, okP p = true := by
  intro l
  induction l with
  | nil => intro _ _ p hp; cases hp
  | cons q l ih =>
    intro pre h p hp
    simp only [apart, Bool.and_eq_true] at h
    rcases List.mem_cons.1 hp with rfl | hp
    · exact h.1.1
    · exact ih _ h.2 p hp

set_option maxHeartbeats 6400000 in
theorem rlCheck_any (A : Option Addr) (cap n : Nat) (l : List Pm) (w : World) (h : Sees w w.heap.size A (pms l)) (hl : l.length = n) (hn : n ≤ 200) (b m k : Int) :
    Calls Tryd.prog 65 #[.agg #[.int .i64 b, .int .i64 m, .int .i64 k, .slice A n cap]] w fun e w' => e = .returned (.bool (mayB ⟨b, m, k, none, 0, l⟩)) ∧ Below w.heap.size w w' := by
  have hmB : mayB ⟨b, m, k, none, 0, l⟩ = (pwr b && pwr m && pwr k && apart [] l && decide (sm l ≤ b)) := rfl
  rw [hmB]
  clear hmB
  have HL := Lib.hid hl
  have HS := Lib.hid h
  have hj := Lib.hid (J.one w #[.int .i64 b, .int .i64 m, .int .i64 k, .slice A n cap] 42)
  obtain ⟨a0, a1, a2, a3⟩ := (hj.out.bx 0 rfl).c4
  have HF : Hid (∀ car W, Below w.heap.size w W → Calls Tryd.prog 25 #[.agg #[.int .i64 b, .int .i64 m, .int .i64 k, .slice A n cap], .int .i64 car] W fun e w' => e = .returned (.int .i64 (idx l car)) ∧ Below W.heap.size W w') := Lib.hid fun car W hW => rlFind_any A cap n l W ((h.below hW (Nat.le_refl _)).more hW.size) hl hn b m k car
  have HSU : Hid ((∀ p ∈ l, 0 ≤ p.p ∧ p.p ≤ 1048576) → ∀ W, Below w.heap.size w W → Calls Tryd.prog 26 #[.agg #[.int .i64 b, .int .i64 m, .int .i64 k, .slice A n cap]] W fun e w' => e = .returned (.int .i64 (tot (pk l))) ∧ Below W.heap.size W w') := Lib.hid fun hp W hW => rlSum_any A cap n l W ((h.below hW (Nat.le_refl _)).more hW.size) hl hn hp b m k
  have HPb : Hid (∀ W, Calls Tryd.prog 70 #[.int .i64 b] W fun e w' => e = .returned (.bool (pwr b)) ∧ Below W.heap.size W w') := Lib.hid fun W => rlPower_any b W
  have HPm : Hid (∀ W, Calls Tryd.prog 70 #[.int .i64 m] W fun e w' => e = .returned (.bool (pwr m)) ∧ Below W.heap.size W w') := Lib.hid fun W => rlPower_any m W
  have HPk : Hid (∀ W, Calls Tryd.prog 70 #[.int .i64 k] W fun e w' => e = .returned (.bool (pwr k)) ∧ Below W.heap.size W w') := Lib.hid fun W => rlPower_any k W
  clear hl h
  go_enter Tryd.func65, Tryd.ntmps65
  go_wp2
  clear a0 a1 a2 a3
  go_loopw [3] (fun i wr => ∃ q : Nat, q ≤ n ∧ i = .int .i64 q ∧ Hid (apart [] l = apart (l.take q) (l.drop q)) ∧ Hid (J w wr [(w.heap.size, #[.int .i64 b, .int .i64 m, .int .i64 k, .slice A n cap])])) (fun i _ => n - (intOf i).toNat)
  case atStart => exact ⟨0, Nat.zero_le _, rfl, Lib.hid rfl, hj⟩
  case round =>
    clear hj
    obtain ⟨q, hq, rfl, hap, hj⟩ := hrel
    obtain ⟨a0, a1, a2, a3⟩ := (hj.out.bx 0 rfl).c4
    by_cases hlt : q < n
    · obtain ⟨p, bb, o, hp, rfl, hbb, c0, c1⟩ := pm_at (HS.out.below hj.out.below (Nat.le_refl _)) (i := q) (by rw [HL.out]; exact hlt)
      have hfst := idx_first hp
      have hd : l.drop q = p :: l.drop (q + 1) := by
        obtain ⟨h4, h5⟩ := List.getElem?_eq_some_iff.1 hp
        rw [List.drop_eq_getElem_cons h4, h5]
      have hap2 : apart [] l = (okP p && decide (idx (l.take q) p.c < 0) && apart (l.take (q + 1)) (l.drop (q + 1))) := by rw [hap.out, hd, take_at hp]; rfl
      obtain ⟨pc, pp⟩ := p
      simp only at c0 c1 hap2 hfst
      have HFc := Lib.hid (HF.out pc)
      have HFst := Lib.hid hfst
      have HA2 := Lib.hid hap2
      have i1 : (q : Int) < (n : Int) := by omega
      have e3 : IntKind.i64.wrap ((q : Int) + 1) = ((q + 1 : Nat) : Int) := by rw [IntWalk.i64_in _ (by omega)]; rfl
      have hj1 : Hid (J w _ _) := Lib.hid (hj.out.push #[.int .i64 pc, .int .i64 pp] 73)
      obtain ⟨x0, x1⟩ := (hj1.out.bx 0 rfl).c2
      obtain ⟨y0, y1, y2, y3⟩ := (hj1.out.bx 1 rfl).c4
      have HLT := Lib.hid hlt
      clear hp hlt hbb hd hap2 hap hfst hj
      generalize idx l pc = ix at *
      have ways : (pc < 0) ∨ (¬ pc < 0 ∧ 63 < pc) ∨ (¬ pc < 0 ∧ ¬ 63 < pc ∧ pp < 0) ∨ (¬ pc < 0 ∧ ¬ 63 < pc ∧ ¬ pp < 0 ∧ 1048576 < pp) ∨ (¬ pc < 0 ∧ ¬ 63 < pc ∧ ¬ pp < 0 ∧ ¬ 1048576 < pp ∧ ¬ ix = (q : Int)) ∨ (¬ pc < 0 ∧ ¬ 63 < pc ∧ ¬ pp < 0 ∧ ¬ 1048576 < pp ∧ ix = (q : Int)) := by omega
      rcases ways with h1 | ⟨h1, h2⟩ | ⟨h1, h2, h3⟩ | ⟨h1, h2, h3, h4⟩ | ⟨h1, h2, h3, h4, h5⟩ | ⟨h1, h2, h3, h4, h5⟩
      · have HO : Hid (okP ⟨pc, pp⟩ = false) := Lib.hid (by unfold okP; simp; omega)
        go_wp2
        go_ret
        exact ⟨ret_bool (by rw [HA2.out, HO.out]; simp), hj1.out.below⟩
      · have HO : Hid (okP ⟨pc, pp⟩ = false) := Lib.hid (by unfold okP; simp; omega)
        go_wp2
        go_ret
        exact ⟨ret_bool (by rw [HA2.out, HO.out]; simp), hj1.out.below⟩
      · have HO : Hid (okP ⟨pc, pp⟩ = false) := Lib.hid (by unfold okP pwr; simp; omega)
        go_wp2
        go_ret
        exact ⟨ret_bool (by rw [HA2.out, HO.out]; simp), hj1.out.below⟩
      · have HO : Hid (okP ⟨pc, pp⟩ = false) := Lib.hid (by unfold okP pwr; simp; omega)
        go_wp2
        go_ret
        exact ⟨ret_bool (by rw [HA2.out, HO.out]; simp), hj1.out.below⟩
      · have d5 : decide (ix = (q : Int)) = false := decide_eq_false h5
        have d6 : (ix == (q : Int)) = false := beq_eq_false_iff_ne.2 h5
        have HO : Hid (decide (idx (l.take q) pc < 0) = false) := Lib.hid (decide_eq_false fun h => h5 (HFst.out.2 h))
        go_wp2_with (go_at_call 25; (with_reducible refine (HFc.out _ hj1.out.below).mono ?_); rintro e w2 ⟨rfl, g2⟩; have hj2 := Lib.hid (hj1.out.next g2); clear g2)
        go_ret
        exact ⟨ret_bool (by rw [HA2.out, HO.out]; simp), hj2.out.below⟩
      · have d5 : decide (ix = (q : Int)) = true := decide_eq_true h5
        have d6 : (ix == (q : Int)) = true := beq_iff_eq.2 h5
        have HO : Hid (okP ⟨pc, pp⟩ = true ∧ decide (idx (l.take q) pc < 0) = true) := Lib.hid ⟨okP_iff.2 (by simp only; omega), decide_eq_true (HFst.out.1 h5)⟩
        have HIX := Lib.hid h5
        clear h5
        go_wp2_with (go_at_call 25; (with_reducible refine (HFc.out _ hj1.out.below).mono ?_); rintro e w2 ⟨rfl, g2⟩; have hj2 := Lib.hid (hj1.out.next g2); clear g2 HFc)
        go_roundw
        case rel => exact ⟨q + 1, HLT.out, rfl, Lib.hid (by rw [HA2.out, HO.out.1, HO.out.2]; rfl), Lib.hid (hj2.out.less (by simp))⟩
        case measure => have := HLT.out; simp [intOf]; omega
    · obtain rfl : q = n := by omega
      have hap2 : apart [] l = true := by rw [hap.out, List.drop_eq_nil_of_le (by rw [HL.out]; exact Nat.le_refl _)]; simp [apart]
      have hpp : ∀ p ∈ l, 0 ≤ p.p ∧ p.p ≤ 1048576 := fun p hp => (okP_iff.1 (apart_ok l [] hap2 p hp)).2
      have HSc := Lib.hid (HSU.out hpp)
      rw [← sm_tot (by rw [HL.out]; exact hn) hpp] at HSc
      have HA2 := Lib.hid hap2
      clear hap2 hpp HSU hap HF
      obtain ⟨S, hS⟩ : ∃ S, sm l = S := ⟨_, rfl⟩
      obtain ⟨pb, hpb⟩ : ∃ y, pwr b = y := ⟨_, rfl⟩
      obtain ⟨pm, hpm⟩ : ∃ y, pwr m = y := ⟨_, rfl⟩
      obtain ⟨pk, hpk⟩ : ∃ y, pwr k = y := ⟨_, rfl⟩
      rw [hS] at HSc
      rw [hpb] at HPb
      rw [hpm] at HPm
      rw [hpk] at HPk
      have HE := Lib.hid (And.intro hpb (And.intro hpm (And.intro hpk hS)))
      clear hS hpb hpm hpk
      have hl1 := (hj.out.bx 0 rfl).lt
      have hjS : Hid (JS wr [] wr) := Lib.hid (J.start wr)
      go_wp2
      rcases pb with _ | _
      all_goals rcases pm with _ | _
      all_goals rcases pk with _ | _
      all_goals
        refine wp_region_all _ JS.closed hjS.out (by kernel_rfl) (by kernel_rfl) ?_
        apply Exists.intro
        refine ⟨fun w10 h10 => ?_, fun W1 hJ1 hb1 => ?_⟩
        · haveI := Ext.some h10
          have q0 := ext_old h10 (a := ⟨w.heap.size, 0, none⟩) hl1 a0
          have q1 := ext_old h10 (a := ⟨w.heap.size, 1, none⟩) hl1 a1
          have q2 := ext_old h10 (a := ⟨w.heap.size, 2, none⟩) hl1 a2
          have q3 := ext_old h10 (a := ⟨w.heap.size, 3, none⟩) hl1 a3
          have cB := Lib.hid (Ext.calls h10 JS.closed (fun W hW => HPb.out W))
          have cM := Lib.hid (Ext.calls h10 JS.closed (fun W hW => HPm.out W))
          have cK := Lib.hid (Ext.calls h10 JS.closed (fun W hW => HPk.out W))
          have cS := Lib.hid (Ext.calls h10 JS.closed (fun W hW => HSc.out W (hj.out.below.trans ((J.below hW).mono hj.out.below.size))))
          repeat go_big_quiet_step (first | (go_at_call 70; with_reducible exact cB.out _) | (go_at_call 70; with_reducible exact cM.out _) | (go_at_call 70; with_reducible exact cK.out _) | (go_at_call 26; with_reducible exact cS.out _))
          exact wpQuiet_nil rfl
        have hj10 := Lib.hid (hj.out.next (J.below hJ1))
        go_wp2
        go_ret
        exact ⟨ret_bool (by rw [HA2.out, HE.out.1, HE.out.2.1, HE.out.2.2.1, HE.out.2.2.2]; simp), hj10.out.below⟩

end Go.Proofs.YtjedkkkhficmoaaDoor.Jrn

/- The reference's journal: num. -/
namespace Go.Proofs.YtjedkkkhficmoaaDoor.Jrn
open Go.RowKit Go.Proofs.YtjedkkkhficmoaaDoor.Plain Go.Proofs.YtjedkkkhficmoaaDoor.Sees Go.Proofs.YtjedkkkhficmoaaDoor.Oct Go.Proofs.YtjedkkkhficmoaaDoor.Crc Go.Proofs.YtjedkkkhficmoaaDoor.Box Go.Proofs.YtjedkkkhficmoaaDoor.Held Go.Proofs.YtjedkkkhficmoaaDoor.JrnP Go.Proofs.YtjedkkkhficmoaaDoor.Open Go.Proofs.YtjedkkkhficmoaaDoor.LgrP
set_option linter.unusedVariables false
set_option maxRecDepth 100000

theorem rjNum_any (n : Nat) (bs : List Int) (w : World) (h1 : 1 ≤ n) (h8 : n ≤ 8) (hl : n ≤ bs.length) (hm : bs.length ≤ 100000) (hb : ∀ b ∈ bs, 0 ≤ b ∧ b ≤ 255) :
    Calls Tryd.prog 64 #[.string (strOfNums bs), .int .i64 n] w fun e w' => e = .returned (.int .u64 (ofB (bs.take n))) ∧ Below w.heap.size w w' := by
  have hto := fun W => run_str_to W bs n hl
  have hg : grp 1 n (bs.take n) = [ofB (bs.take n)] := by simp [grp, List.take_take]
  have HG : Hid (∀ W, Calls Tryd.prog 69 #[.int .i64 n, .string (strOfNums (bs.take n))] W fun e w' => ∃ g6 c6, e = .returned (.tuple #[.slice (some ⟨g6, 0, none⟩) 1 c6, .int .i64 0]) ∧ w'.cell? ⟨g6, 0, none⟩ = some (.int .u64 (ofB (bs.take n))) ∧ Below W.heap.size W w') := Lib.hid fun W => by
    have := rget_any n 1 (bs.take n) W h1 h8 (by rw [List.length_take]; omega) (by omega) (fun b hh => hb b (List.mem_of_mem_take hh))
    rw [hg] at this
    refine this.mono ?_
    rintro e w' ⟨v, rfl, ho, h2⟩
    obtain ⟨g6, c6, rfl⟩ := ownsRow_succ ho
    have h9 := ho.cells (g := g6) rfl 0 (.int .u64 (ofB (bs.take n))) rfl
    exact ⟨g6, c6, rfl, by simpa [Addr.add] using h9, h2⟩
  clear hg hb
  generalize ofB (bs.take n) = x at *
  generalize strOfNums (bs.take n) = t at *
  generalize strOfNums bs = s at *
  clear hl hm
  go_enter Tryd.func64, Tryd.ntmps64
  go_wp2_with (go_at_call 69; (with_reducible refine (HG.out _).mono ?_); rintro e w2 ⟨g6, c6, rfl, h9, h2⟩)
  go_ret
  exact ⟨rfl, h2⟩

end Go.Proofs.YtjedkkkhficmoaaDoor.Jrn

/- The reference's Get of layer 16. -/
namespace Go.Proofs.YtjedkkkhficmoaaDoor.Jrn
open Go.RowKit Go.Proofs.YtjedkkkhficmoaaDoor.Plain Go.Proofs.YtjedkkkhficmoaaDoor.Sees Go.Proofs.YtjedkkkhficmoaaDoor.Oct Go.Proofs.YtjedkkkhficmoaaDoor.Crc Go.Proofs.YtjedkkkhficmoaaDoor.Box Go.Proofs.YtjedkkkhficmoaaDoor.Held Go.Proofs.YtjedkkkhficmoaaDoor.JrnP Go.Proofs.YtjedkkkhficmoaaDoor.Open Go.Proofs.YtjedkkkhficmoaaDoor.LgrP
set_option linter.unusedVariables false
set_option maxRecDepth 100000

theorem info_rp : (Tryd.prog.info? 73).map (fun i => (i.zero, i.size, i.bytes)) = some (some (.agg #[.int .i64 0, .int .i64 0]), 2, 16) := by kernel_rfl
/-- what the reference's Get answers -/
def RGP (w : World) (g : G) (e : Ending) (w' : World) : Prop :=
  ∃ A c, e = .returned (.tuple #[.agg #[.int .i64 g.b, .int .i64 g.m, .int .i64 0, .slice A g.l.length c], .int .u64 g.s, .int .i64 g.e]) ∧ g.l.length ≤ c ∧ c ≤ maxLen ∧ TS w' 73 A (pms g.l) ∧ Below w.heap.size w w'

theorem ropen_none (bs : List Int) (w : World) (hn : bs.length ≤ 800000) (hb : ∀ b ∈ bs, 0 ≤ b ∧ b ≤ 255) (ho : opn bs = none) :
    Calls Tryd.prog 62 #[.string (strOfNums bs)] w fun e w' => e = .returned (.tuple #[.string ⟨#[]⟩, .bool false]) ∧ Below w.heap.size w w' := by
  by_cases h4 : bs.length < 4
  · exact (refOpen_short _ w (by rw [strOfNums_size]; exact h4)).mono fun e w' ⟨h1, h2⟩ => ⟨h1, h2 ▸ Below.refl _ _⟩
  · have h4' : 4 ≤ bs.length := by omega
    have hne := opn_none h4' ho
    have hcut := cut4 h4'
    have hlt : (bs.take (bs.length - 4)).length = bs.length - 4 := by rw [List.length_take]; omega
    have hld : (bs.drop (bs.length - 4)).length = 4 := by rw [List.length_drop]; omega
    generalize bs.take (bs.length - 4) = pre at *
    generalize bs.drop (bs.length - 4) = q at *
    subst hcut
    exact refOpen_no pre q _ w hlt hld (by omega) hb hne
theorem ropen_some (bs x : List Int) (w : World) (hn : bs.length ≤ 800000) (hb : ∀ b ∈ bs, 0 ≤ b ∧ b ≤ 255) (ho : opn bs = some x) :
    Calls Tryd.prog 62 #[.string (strOfNums bs)] w fun e w' => e = .returned (.tuple #[.string (strOfNums x), .bool true]) ∧ Below w.heap.size w w' := by
  have h1 := opn_some ho
  have h2 := opn_len ho
  have h3 := opn_in ho hb
  unfold sea at h1
  rw [h1]
  exact refOpen_yes x _ w rfl (by omega) h3
theorem rpart_none (bs : List Int) (w : World) (hlen : bs.length ≤ 1000000) (hb : ∀ b ∈ bs, 0 ≤ b ∧ b ≤ 255) (hp : parts bs = none) :
    Calls Tryd.prog 63 #[.string (strOfNums bs)] w fun e w' => e = .returned (.tuple #[.slice none 0 0, .int .i64 10]) ∧ Below w.heap.size w w' := by
  refine (rpart_any bs w hlen hb).mono fun e w' h => ?_
  rcases h with ⟨_, h1, h2⟩ | ⟨v, ps, h, _⟩
  · exact ⟨h1, h2⟩
  · rw [hp] at h; cases h
/-- how many rows there are -/
theorem rpart_few (bs : List Int) (ps : List (List Int)) (n : Nat) (w : World) (hlen : bs.length ≤ 1000000) (hb : ∀ b ∈ bs, 0 ≤ b ∧ b ≤ 255) (hp : parts bs = some ps) (hn : ps.length = n) :
    Calls Tryd.prog 63 #[.string (strOfNums bs)] w fun e w' => ∃ A c, e = .returned (.tuple #[.slice A n c, .int .i64 0]) ∧ Below w.heap.size w w' := by
  refine (rpart_any bs w hlen hb).mono fun e w' h => ?_
  rcases h with ⟨h, _⟩ | ⟨v, ps', h, h1, h2, h3⟩
  · rw [hp] at h; cases h
  · rw [hp] at h
    injection h with h
    subst h hn
    obtain ⟨A, c, rfl, _⟩ := own_form h2
    exact ⟨A, c, h1, h3⟩
/-- three rows -/
theorem rpart_three (bs r0 r1 r2 : List Int) (w : World) (hlen : bs.length ≤ 1000000) (hb : ∀ b ∈ bs, 0 ≤ b ∧ b ≤ 255) (hp : parts bs = some [r0, r1, r2]) :
    Calls Tryd.prog 63 #[.string (strOfNums bs)] w fun e w' => ∃ g c, e = .returned (.tuple #[.slice (some ⟨g, 0, none⟩) 3 c, .int .i64 0]) ∧ (g < w'.heap.size ∧ w'.cell? ⟨g, 0, none⟩ = some (.string (strOfNums r0)) ∧ w'.cell? ⟨g, 1, none⟩ = some (.string (strOfNums r1)) ∧ w'.cell? ⟨g, 2, none⟩ = some (.string (strOfNums r2))) ∧ Below w.heap.size w w' := by
  refine (rpart_any bs w hlen hb).mono fun e w' h => ?_
  rcases h with ⟨h, _⟩ | ⟨v, ps', h, h1, h2, h3⟩
  · rw [hp] at h; cases h
  · rw [hp] at h
    injection h with h
    subst h
    obtain ⟨g, c, rfl⟩ := ownsRow_succ h2
    have k0 := h2.cells (g := g) rfl 0 (.string (strOfNums r0)) rfl
    have k1 := h2.cells (g := g) rfl 1 (.string (strOfNums r1)) rfl
    have k2 := h2.cells (g := g) rfl 2 (.string (strOfNums r2)) rfl
    exact ⟨g, c, h1, ⟨(h2.lt g rfl).2, by simpa [Addr.add] using k0, by simpa [Addr.add] using k1, by simpa [Addr.add] using k2⟩, h3⟩

/-- while the reference's Get makes up a ledger -/
structure GQR (w w4 wr : World) (B : Nat) (b m : Int) (v : Value) : Prop where
  j : J w wr [(B, #[.int .i64 b, .int .i64 m, .int .i64 0, v]), (w.heap.size + 1, #[.int .i64 0, .int .i64 0, .int .i64 0, .slice none 0 0]), (w.heap.size, #[.int .i64 0, .int .i64 0, .int .i64 0, .slice none 0 0])]
  bel : Below w4.heap.size w4 wr

set_option maxHeartbeats 25600000 in
theorem rjGet_three (bs x r0 r1 r2 : List Int) (q : Nat) (w : World) (hn : bs.length ≤ 1500) (hb : ∀ b ∈ bs, 0 ≤ b ∧ b ≤ 255) (ho : opn bs = some x) (hp : parts x = some [r0, r1, r2]) (l0 : r0.length = 8) (l1 : r1.length = 8) (l2 : r2.length = 8 * q) :
    Calls Tryd.prog 50 #[.string (strOfNums bs)] w (RGP w (getR [r0, r1, r2])) := by
  have hj := Lib.hid ((J.one w #[.int .i64 0, .int .i64 0, .int .i64 0, .slice none 0 0] 42).push #[.int .i64 0, .int .i64 0, .int .i64 0, .slice none 0 0] 42)
  simp only [World.size_alloc] at hj
  obtain ⟨a0, a1, a2, a3⟩ := (hj.out.bx 1 rfl).c4
  obtain ⟨f0, f1, f2, f3⟩ := (hj.out.bx 1 rfl).f4
  obtain ⟨b0, b1, b2, b3⟩ := (hj.out.bx 0 rfl).c4
  obtain ⟨g0, g1, g2, g3⟩ := (hj.out.bx 0 rfl).f4
  have hne : ∀ x ∈ ([] : List (Nat × Array Value)), x.1 ≠ w.heap.size := fun x hx => by cases hx
  have hxl := opn_len ho
  have hxb := opn_in ho hb
  have HO : Hid (∀ W, Calls Tryd.prog 62 #[.string (strOfNums bs)] W fun e w' => e = .returned (.tuple #[.string (strOfNums x), .bool true]) ∧ Below W.heap.size W w') := Lib.hid fun W => ropen_some bs x W (by omega) hb ho
  have HP : Hid (∀ W, Calls Tryd.prog 63 #[.string (strOfNums x)] W fun e w' => ∃ g c, e = .returned (.tuple #[.slice (some ⟨g, 0, none⟩) 3 c, .int .i64 0]) ∧ (g < w'.heap.size ∧ w'.cell? ⟨g, 0, none⟩ = some (.string (strOfNums r0)) ∧ w'.cell? ⟨g, 1, none⟩ = some (.string (strOfNums r1)) ∧ w'.cell? ⟨g, 2, none⟩ = some (.string (strOfNums r2))) ∧ Below W.heap.size W w') := Lib.hid fun W => rpart_three x r0 r1 r2 W (by omega) hxb hp
  obtain ⟨hrl, hrr⟩ := parts_small _ x _ (Nat.le_refl _) hxb hp
  have hr0 := hrr r0 (by simp)
  have hr1 := hrr r1 (by simp)
  have hr2 := hrr r2 (by simp)
  have z0 : (strOfNums r0).size = 8 := by rw [strOfNums_size]; exact l0
  have z1 : (strOfNums r1).size = 8 := by rw [strOfNums_size]; exact l1
  obtain ⟨n2, hn2⟩ : ∃ n2, 8 * q = n2 := ⟨_, rfl⟩
  rw [hn2] at l2
  have z2 : (strOfNums r2).size = n2 := by rw [strOfNums_size]; exact l2
  have hq2 : n2 ≤ 1500 := by have := hr2.1; omega
  have hq3 : n2 / 8 = q := by omega
  have d1 : (n2 : Int) % 8 = 0 := by omega
  rw [getR_yes l0 l1 (by omega), l2, hq3]
  have HN1 : Hid (∀ W, Calls Tryd.prog 64 #[.string (strOfNums r1), .int .i64 4] W fun e w' => e = .returned (.int .u64 (ofB (r1.take 4))) ∧ Below W.heap.size W w') := Lib.hid fun W => rjNum_any 4 r1 W (by omega) (by omega) (by omega) (by omega) hr1.2
  have HN2 : Hid (∀ W, Calls Tryd.prog 64 #[.string (strOfNums (r1.drop 4)), .int .i64 4] W fun e w' => e = .returned (.int .u64 (ofB ((r1.drop 4).take 4))) ∧ Below W.heap.size W w') := Lib.hid fun W => rjNum_any 4 (r1.drop 4) W (by omega) (by omega) (by rw [List.length_drop]; omega) (by rw [List.length_drop]; omega) (fun b h => hr1.2 b (List.mem_of_mem_drop h))
  have HN0 : Hid (∀ W, Calls Tryd.prog 64 #[.string (strOfNums r0), .int .i64 8] W fun e w' => e = .returned (.int .u64 (ofB r0)) ∧ Below W.heap.size W w') := Lib.hid fun W => by
    have := rjNum_any 8 r0 W (by omega) (by omega) (by omega) (by omega) hr0.2
    rwa [List.take_of_length_le (by omega : r0.length ≤ 8)] at this
  have HNr : Hid (∀ p W, p + 4 ≤ n2 → Calls Tryd.prog 64 #[.string (strOfNums (r2.drop p)), .int .i64 4] W fun e w' => e = .returned (.int .u64 (ofB ((r2.drop p).take 4))) ∧ Below W.heap.size W w') := Lib.hid fun p W hp => rjNum_any 4 (r2.drop p) W (by omega) (by omega) (by rw [List.length_drop]; omega) (by rw [List.length_drop]; omega) (fun b h => hr2.2 b (List.mem_of_mem_drop h))
  have w4b : ∀ (r : List Int) (p : Nat), (∀ b ∈ r, 0 ≤ b ∧ b ≤ 255) → 0 ≤ ofB ((r.drop p).take 4) ∧ ofB ((r.drop p).take 4) < 4294967296 := fun r p hb => by
    have h1 := ofB_bounds ((r.drop p).take 4) (fun b hb' => hb b (List.mem_of_mem_drop (List.mem_of_mem_take hb')))
    have h2 : (256 : Int) ^ ((r.drop p).take 4).length ≤ 4294967296 := by
      have h3 : ((r.drop p).take 4).length ≤ 4 := by simp; omega
      generalize ((r.drop p).take 4).length = d at *
      have : d = 0 ∨ d = 1 ∨ d = 2 ∨ d = 3 ∨ d = 4 := by omega
      rcases this with h | h | h | h | h <;> rw [h] <;> decide
    omega
  have hb1 := w4b r1 0 hr1.2
  rw [List.drop_zero] at hb1
  have hb2 := w4b r1 4 hr1.2
  have HB4 := Lib.hid fun p => w4b r2 p hr2.2
  have e1 : IntKind.i64.wrap (ofB (r1.take 4)) = ofB (r1.take 4) := IntWalk.i64_in _ (by omega)
  have e2 : IntKind.i64.wrap (ofB ((r1.drop 4).take 4)) = ofB ((r1.drop 4).take 4) := IntWalk.i64_in _ (by omega)
  have hfr : ∀ W, (Instr.slice 9 (.string (strOfNums r1)) (some (.int .i64 4)) none none).run Tryd.prog W = .ok (.string (strOfNums (r1.drop 4))) W := fun W => run_str_from W r1 4 (by omega)
  have HFr := Lib.hid fun p W (h : p ≤ n2) => run_str_from W r2 p (by omega)
  have hgl := gp_len q r2
  have HCk : Hid (∀ (b m : Int) (A : Option Addr) (c : Nat) W, TS W 73 A (pms (gp q r2)) → Calls Tryd.prog 65 #[.agg #[.int .i64 b, .int .i64 m, .int .i64 0, .slice A q c]] W fun e w' => e = .returned (.bool (may b m (gp q r2))) ∧ Below W.heap.size W w') := Lib.hid fun b m A c W h => rlCheck_any A c q (gp q r2) W h.sees hgl (by omega) b m 0
  have HGS := Lib.hid fun k => gp_snoc k r2
  have HNQ := Lib.hid hn2
  clear hb ho hp hxl hxb hrl hrr hr0 hr1 hr2 l0 l1 l2 hq3 hb1 hb2 w4b hn
  generalize ofB (r1.take 4) = b at *
  generalize ofB ((r1.drop 4).take 4) = m at *
  generalize ofB r0 = s at *
  generalize strOfNums bs = S at *
  generalize strOfNums x = X at *
  generalize strOfNums r0 = S0 at *
  generalize strOfNums r1 = S1 at *
  generalize strOfNums (r1.drop 4) = S3 at *
  generalize strOfNums r2 = S2 at *
  obtain ⟨gg, hgg⟩ : ∃ gg, (if may b m (gp q r2) = true then (⟨0, b, m, gp q r2, s⟩ : G) else bad 11) = gg := ⟨_, rfl⟩
  rw [hgg]
  have HGG := Lib.hid hgg
  clear hgg
  go_enter Tryd.func50, Tryd.ntmps50
  go_wp2_with (first
    | (go_at_call 62; (with_reducible refine (HO.out _).mono ?_); rintro e w1 ⟨rfl, h1⟩; have hj1 := Lib.hid (hj.out.next h1))
    | (go_at_call 63; (with_reducible refine (HP.out _).mono ?_); rintro e w4 ⟨g, c, rfl, ⟨hgl', c0, c1, c2⟩, h2⟩; have hj4 := Lib.hid (hj1.out.next h2)))
  have HG4 := Lib.hid (And.intro hgl' (And.intro c0 (And.intro c1 c2)))
  have hjS : Hid (JS w4 [] w4) := Lib.hid (J.start w4)
  have hl4 : w.heap.size + 1 < w4.heap.size := (hj4.out.bx 0 rfl).lt
  clear hj hj1 h1 h2 a0 a1 a2 a3 f0 f1 f2 f3 b0 b1 b2 b3 g0 g1 g2 g3
  refine wp_region_lay 12 _ #[.int .i64 0, .int .i64 0, .int .i64 0, .slice none 0 0] 42 _ 10 JS.closed hjS.out (by kernel_rfl) (by kernel_rfl) rfl rfl rfl (fun ρ w' => by simp [execOp, go_sem]) ?_
  simp only [List.take_succ_cons, List.take_zero, List.drop_succ_cons, List.drop_zero]
  apply Exists.intro
  refine ⟨fun w3 h3 => ?_, fun B W3 hJ3 hz3 hB hbx => ?_⟩
  · haveI := Ext.some h3
    have m1 := ext_old h3 (a := ⟨g, 1, none⟩) hgl' c1
    have k1 := Lib.hid (Ext.calls h3 JS.closed (fun W _ => HN1.out W))
    have k2 := Lib.hid (Ext.calls h3 JS.closed (fun W _ => HN2.out W))
    repeat go_big_quiet_step (first | (go_at_call 64; with_reducible exact k1.out _) | (go_at_call 64; with_reducible exact k2.out _))
    exact wpQuiet_nil rfl
  have hB3 : Below w4.heap.size w4 W3 := J.below hJ3
  have hne4 : ∀ x ∈ [(w.heap.size + 1, (#[.int .i64 0, .int .i64 0, .int .i64 0, .slice none 0 0] : Array Value)), (w.heap.size, #[.int .i64 0, .int .i64 0, .int .i64 0, .slice none 0 0])], x.1 ≠ B := fun x hx => by
    simp at hx; rcases hx with rfl | rfl <;> simp only <;> omega
  obtain ⟨f0, f1, f2, f3⟩ := hbx.f4
  obtain ⟨y0, y1, y2, y3⟩ := hbx.c4
  have hw4B : w.heap.size ≤ B := by omega
  have hj5 : J w W3 [(B, #[.int .i64 0, .int .i64 0, .int .i64 0, .slice none 0 0]), (w.heap.size + 1, #[.int .i64 0, .int .i64 0, .int .i64 0, .slice none 0 0]), (w.heap.size, #[.int .i64 0, .int .i64 0, .int .i64 0, .slice none 0 0])] := (hj4.out.next hB3).more hbx
  have hQ : Hid (GQR w w4 ((((W3.setCell ⟨B, 0, none⟩ (.int .i64 b)).setCell ⟨B, 1, none⟩ (.int .i64 m)).setCell ⟨B, 2, none⟩ (.int .i64 0)).setCell ⟨B, 3, none⟩ (.slice none 0 0)) B b m (.slice none 0 0)) := Lib.hid ⟨((((hj5.put hw4B hne4 0 (.int .i64 b)).put hw4B hne4 1 (.int .i64 m)).put hw4B hne4 2 (.int .i64 0)).put hw4B hne4 3 (.slice none 0 0)), ((((hB3.setCell (p := ⟨B, 0, none⟩) hB _).setCell (p := ⟨B, 1, none⟩) hB _).setCell (p := ⟨B, 2, none⟩) hB _).setCell (p := ⟨B, 3, none⟩) hB _)⟩
  have HBB := Lib.hid (And.intro hB hl4)
  have hW3 := hbx.lt
  clear hJ3 hB3 hj5 hj4 hne4 hw4B hB hjS hz3 hbx
  change wpList _ _ _ _ _ _
  go_wp2
  generalize hW5 : (((W3.setCell ⟨B, 0, none⟩ (.int .i64 b)).setCell ⟨B, 1, none⟩ (.int .i64 m)).setCell ⟨B, 2, none⟩ (.int .i64 0)).setCell ⟨B, 3, none⟩ (.slice none 0 0) = W5 at hQ ⊢
  clear hW5 f0 f1 f2 f3 y0 y1 y2 y3 hW3
  obtain ⟨i0, hi, hz0, hz1, hz2⟩ := info_parts info_rp
  go_loopw [11] (fun i wr => ∃ (k : Nat) (v : Value), k ≤ q ∧ i = .int .i64 ((8 * k : Nat) : Int) ∧ Hid (GQR w w4 wr B b m v) ∧ Hid (wr.ownsRow (B + 1) 73 2 v k (pms (gp k r2)))) (fun i _ => n2 - (intOf i).toNat)
  case atStart => exact ⟨0, _, Nat.zero_le _, rfl, hQ, Lib.hid (by simpa [pms, gp] using World.ownsRow_nil _ _ _ _)⟩
  case round =>
    clear hQ
    obtain ⟨k, v, hk, rfl, hQ, HRow⟩ := hrel
    obtain ⟨x0, x1, x2, x3⟩ := (hQ.out.j.bx 0 rfl).c4
    have hBw : B < wr.heap.size := (hQ.out.j.bx 0 rfl).lt
    have c2 := (hQ.out.bel.cell (p := ⟨g, 2, none⟩) HG4.out.1).trans HG4.out.2.2.2
    have hgw : g < wr.heap.size := Nat.lt_of_lt_of_le HG4.out.1 hQ.out.bel.size
    by_cases hlt : k < q
    · obtain ⟨p, hp⟩ : ∃ p, 8 * k = p := ⟨_, rfl⟩
      have hp8 : p + 8 ≤ n2 := by have := HNQ.out; omega
      have i1 : (p : Int) < (n2 : Int) := by omega
      have e3 : IntKind.i64.wrap ((p : Int) + 8) = ((8 * (k + 1) : Nat) : Int) := by rw [IntWalk.i64_in _ (by omega)]; omega
      have e4 : IntKind.i64.wrap ((p : Int) + 4) = ((p + 4 : Nat) : Int) := by rw [IntWalk.i64_in _ (by omega)]; omega
      have s1 := HFr.out p
      have s2 := HFr.out (p + 4)
      have s1 : ∀ W, (Instr.slice 9 (.string S2) (some (.int .i64 (p : Int))) none none).run Tryd.prog W = .ok (.string (strOfNums (r2.drop p))) W := fun W => HFr.out p W (by omega)
      have s2 : ∀ W, (Instr.slice 9 (.string S2) (some (.int .i64 ((p + 4 : Nat) : Int))) none none).run Tryd.prog W = .ok (.string (strOfNums (r2.drop (p + 4)))) W := fun W => HFr.out (p + 4) W (by omega)
      have N1 := Lib.hid fun W => HNr.out p W (by omega)
      have N2 := Lib.hid fun W => HNr.out (p + 4) W (by omega)
      have HT : pms (gp (k + 1) r2) = pms (gp k r2) ++ pms [⟨ofB ((r2.drop p).take 4), ofB ((r2.drop (p + 4)).take 4)⟩] := by rw [HGS.out k, pms_append, hp]
      have v1 := IntWalk.i64_in (ofB ((r2.drop p).take 4)) (by have := HB4.out p; omega)
      have v2 := IntWalk.i64_in (ofB ((r2.drop (p + 4)).take 4)) (by have := HB4.out (p + 4); omega)
      rw [hp]
      obtain ⟨p4, hp4⟩ : ∃ p4, p + 4 = p4 := ⟨_, rfl⟩
      rw [hp4] at e4 s2 N2 HT v2
      have HT := Lib.hid HT
      have HLT := Lib.hid (And.intro hlt (And.intro hp hp8))
      have hjS : Hid (JS wr [] wr) := Lib.hid (J.start wr)
      have hmx : Tryd.prog.follows .mixedOrders = true := by kernel_rfl
      clear hlt hp hp8 hp4 x0 x1 x2
      generalize ofB ((r2.drop p).take 4) = pc at *
      generalize ofB ((r2.drop p4).take 4) = pp at *
      generalize strOfNums (r2.drop p) = S5 at *
      generalize strOfNums (r2.drop p4) = S6 at *
      go_wp2
      refine wp_region_build 18 _ #[.int .i64 pc, .int .i64 pp] 73 1 _ 95 JS.closed hjS.out hmx (by kernel_rfl) (by kernel_rfl) rfl rfl rfl ?_
      simp only [List.take_succ_cons, List.take_zero, List.drop_succ_cons, List.drop_zero]
      apply Exists.intro
      refine ⟨fun w10 h10 => ?_, ?_, fun B5 W1 hJ1 hb1 hB5 hBx => ?_⟩
      · haveI := Ext.some h10
        have q0 := ext_old h10 (a := ⟨B, 3, none⟩) hBw x3
        have q1 := ext_old h10 (a := ⟨g, 2, none⟩) hgw c2
        have k1 := Lib.hid (Ext.calls h10 JS.closed (fun W _ => N1.out W))
        have k2 := Lib.hid (Ext.calls h10 JS.closed (fun W _ => N2.out W))
        repeat go_big_quiet_step (first | (go_at_call 64; with_reducible exact k1.out _) | (go_at_call 64; with_reducible exact k2.out _))
        exact wpQuiet_nil rfl
      · intro w'
        simp [execOp, Act.eval, go_sem]
      have hB1 : Below wr.heap.size wr W1 := J.below hJ1
      have hj1 := Lib.hid (hQ.out.j.next hB1)
      have hown := HRow.out
      have hrow1 := own_below hown hB1 (fun k hk => (hown.lt k hk).2)
      have hW1 : B + 1 ≤ W1.heap.size := by have := hB1.size; omega
      have HBx := Lib.hid hBx
      have HQ1 : Hid (Below w4.heap.size w4 W1) := Lib.hid (hQ.out.bel.trans (hB1.mono hQ.out.bel.size))
      have hkb : k < 100000 := by have := HLT.out; omega
      clear x3 c2 hJ1 hb1 hjS hB1 hown hBx hQ HRow
      change wpList _ _ _ _ _ _
      go_wp2_with (at_builtin; go_must (refine wpList_append_seesN _ rfl _ _ 40 rfl (B + 1) 73 i0 (.agg #[.int .i64 0, .int .i64 0]) 2 16 Tryd.underlying40 hi hz0 hz1 hz2 rfl (by decide) _ _ _ rfl hrow1 (B5 + 1) (some ⟨B5, 0, none⟩) 1 1 (pms [⟨pc, pp⟩]) rfl (by simp [pms, Pm.cells]) (.inr ⟨B5, 0, rfl, by omega, fun j u hu => by rw [Nat.zero_add]; exact HBx.out.cell (by simpa [pms, Pm.cells] using hu)⟩) (pms_one _) (by unfold maxLen; omega) (by omega) (by omega) ?_; intro v' w11 hown11 hg11; obtain ⟨g', c3, rfl⟩ := ownsRow_succ hown11; have hT11 := Lib.hid (j_grew hj1.out hg11.by_ (fun g e => (hrow1.lt g e).1) (by have := HBB.out; omega) (fun x hx => by simp at hx; have := HBB.out; rcases hx with rfl | rfl | rfl <;> simp only <;> omega)); have HQ11 : Hid (Below w4.heap.size w4 w11) := Lib.hid (HQ1.out.grown hg11.by_ (by have := HBB.out; omega) (fun g e => by have := (hrow1.lt g e).1; have := HBB.out; omega)); obtain ⟨b0, b1, b2, b3⟩ := (hT11.out.bx 0 rfl).c4; obtain ⟨f0, f1, f2, f3⟩ := (hT11.out.bx 0 rfl).f4))
      go_roundw
      case rel =>
        refine ⟨k + 1, .slice (some ⟨g', 0, none⟩) (k + 1) c3, HLT.out.1, rfl, Lib.hid ⟨hT11.out.put (by have := HBB.out; omega) (fun x hx => by simp at hx; have := HBB.out; rcases hx with rfl | rfl <;> simp only <;> omega) 3 (.slice (some ⟨g', 0, none⟩) (k + 1) c3), HQ11.out.setCell (p := ⟨B, 3, none⟩) HBB.out.1 _⟩, Lib.hid ?_⟩
        rw [HT.out]
        exact ownsRow_setCell_other hown11 (a := ⟨B, 3, none⟩) (fun e => by have := (hown11.lt B e).1; omega) _
      case measure => have := HLT.out; simp [intOf]; omega
    · obtain rfl : k = q := by omega
      have hown := HRow.out
      obtain ⟨A, cA, rfl⟩ := own_any hown
      have hcm := own_cap hown
      have HS5 := Lib.hid (And.intro (TS.own hown) hown.lt)
      have HC1 := Lib.hid fun W (hW : Below wr.heap.size wr W) => HCk.out b m A cA W (HS5.out.1.next hW)
      rw [HNQ.out]
      have i1 : ¬ (n2 : Int) < (n2 : Int) := by omega
      obtain ⟨mb, hmb⟩ : ∃ mb, may b m (gp k r2) = mb := ⟨_, rfl⟩
      rw [hmb] at HC1
      have HGG2 := HGG.out
      rw [hmb] at HGG2
      have HMB := Lib.hid hmb
      have HB0 : Hid (Below wr.heap.size wr wr) := Lib.hid (Below.refl _ _)
      have HGk := Lib.hid hgl
      clear hown HRow HCk hmb HGG hgl
      rcases mb with _ | _
      · obtain rfl : bad 11 = gg := by rwa [if_neg (by decide)] at HGG2
        clear HGG2
        go_wp2_with (go_at_call 65; (with_reducible refine (HC1.out _ HB0.out).mono ?_); rintro e w5 ⟨rfl, h5⟩; have hj9 := Lib.hid (hQ.out.j.next h5); obtain ⟨a0, a1, a2, a3⟩ := (hj9.out.bx 2 rfl).c4; obtain ⟨f0, f1, f2, f3⟩ := (hj9.out.bx 2 rfl).f4; obtain ⟨b0, b1, b2, b3⟩ := (hj9.out.bx 1 rfl).c4)
        have hje := (((((hj9.out.less (bs' := [(w.heap.size, #[.int .i64 0, .int .i64 0, .int .i64 0, .slice none 0 0])]) (by simp)).put (Nat.le_refl _) hne 0 (.int .i64 0)).put (Nat.le_refl _) hne 1 (.int .i64 0)).put (Nat.le_refl _) hne 2 (.int .i64 0)).put (Nat.le_refl _) hne 3 (.slice none 0 0))
        obtain ⟨k0, k1, k2, k3⟩ := (hje.bx 0 rfl).c4
        refine bodyPost_ret (v := .tuple #[.agg #[.int .i64 0, .int .i64 0, .int .i64 0, .slice none 0 0], .int .u64 0, .int .i64 11]) (by simp [results, Tryd.results50, go_sem, k0, k1, k2, k3]) rfl ⟨none, 0, rfl, Nat.le_refl _, Nat.zero_le _, .inl rfl, hje.below⟩
      · obtain rfl : (⟨0, b, m, gp k r2, s⟩ : G) = gg := by rwa [if_pos rfl] at HGG2
        clear HGG2
        go_wp2_with (go_at_call 65; (with_reducible refine (HC1.out _ HB0.out).mono ?_); rintro e w5 ⟨rfl, h5⟩; have hj9 := Lib.hid (hQ.out.j.next h5); have HT9 := Lib.hid (HS5.out.1.next h5); have HQ9 := Lib.hid (hQ.out.bel.trans (h5.mono hQ.out.bel.size)); clear h5)
        obtain ⟨x0, x1, x2, x3⟩ := (hj9.out.bx 0 rfl).c4
        have hBw5 : B < w5.heap.size := (hj9.out.bx 0 rfl).lt
        have c0 := (HQ9.out.cell (p := ⟨g, 0, none⟩) HG4.out.1).trans HG4.out.2.1
        have hgw5 : g < w5.heap.size := Nat.lt_of_lt_of_le HG4.out.1 HQ9.out.size
        have hjS : Hid (JS w5 [] w5) := Lib.hid (J.start w5)
        have hmx : Tryd.prog.follows .mixedOrders = true := by kernel_rfl
        refine wp_region_tail 5 _ JS.closed hjS.out hmx (by kernel_rfl) ?_
        simp only [List.take_succ_cons, List.take_zero, List.drop_succ_cons, List.drop_zero]
        apply Exists.intro
        refine ⟨fun w10 h10 => ?_, fun W1 hJ1 hB1 => ?_⟩
        · haveI := Ext.some h10
          have q0 := ext_old h10 (a := ⟨B, 0, none⟩) hBw5 x0
          have q1 := ext_old h10 (a := ⟨B, 1, none⟩) hBw5 x1
          have q2 := ext_old h10 (a := ⟨B, 2, none⟩) hBw5 x2
          have q3 := ext_old h10 (a := ⟨B, 3, none⟩) hBw5 x3
          have q4 := ext_old h10 (a := ⟨g, 0, none⟩) hgw5 c0
          have k1 := Lib.hid (Ext.calls h10 JS.closed (fun W _ => HN0.out W))
          repeat go_big_quiet_step (first | (go_at_call 64; with_reducible exact k1.out _))
          exact wpQuiet_nil rfl
        have hj10 := Lib.hid (hj9.out.next hB1)
        have HT10 := Lib.hid (HT9.out.next hB1)
        obtain ⟨a0, a1, a2, a3⟩ := (hj10.out.bx 2 rfl).c4
        obtain ⟨f0, f1, f2, f3⟩ := (hj10.out.bx 2 rfl).f4
        clear hJ1 hB1 hjS x0 x1 x2 x3 c0 hj9 HT9 HQ9
        change wpList _ _ _ _ _ _
        go_wp2
        have hje := (((((hj10.out.less (bs' := [(w.heap.size, #[.int .i64 0, .int .i64 0, .int .i64 0, .slice none 0 0])]) (by simp)).put (Nat.le_refl _) hne 0 (.int .i64 b)).put (Nat.le_refl _) hne 1 (.int .i64 m)).put (Nat.le_refl _) hne 2 (.int .i64 0)).put (Nat.le_refl _) hne 3 (.slice A k cA))
        have hTe := ts_sets HT10.out (X := w.heap.size) (fun g hg => by have := (HS5.out.2 g hg).1; have := HBB.out; omega) (.int .i64 b) (.int .i64 m) (.int .i64 0) (.slice A k cA)
        obtain ⟨k0, k1, k2, k3⟩ := (hje.bx 0 rfl).c4
        refine bodyPost_ret (v := .tuple #[.agg #[.int .i64 b, .int .i64 m, .int .i64 0, .slice A k cA], .int .u64 s, .int .i64 0]) (by simp [results, Tryd.results50, go_sem, k0, k1, k2, k3]) rfl ⟨A, cA, by simp only [HGk.out], by simp only [HGk.out]; exact hcm.1, hcm.2, hTe, hje.below⟩


end Go.Proofs.YtjedkkkhficmoaaDoor.Jrn

/- The reference's Get of layer 16, whatever comes. -/
namespace Go.Proofs.YtjedkkkhficmoaaDoor.Jrn
open Go.RowKit Go.Proofs.YtjedkkkhficmoaaDoor.Plain Go.Proofs.YtjedkkkhficmoaaDoor.Sees Go.Proofs.YtjedkkkhficmoaaDoor.Oct Go.Proofs.YtjedkkkhficmoaaDoor.Crc Go.Proofs.YtjedkkkhficmoaaDoor.Box Go.Proofs.YtjedkkkhficmoaaDoor.Held Go.Proofs.YtjedkkkhficmoaaDoor.JrnP Go.Proofs.YtjedkkkhficmoaaDoor.Open Go.Proofs.YtjedkkkhficmoaaDoor.LgrP
set_option linter.unusedVariables false
set_option maxRecDepth 100000


set_option maxHeartbeats 12800000 in
theorem rjGet_any (bs : List Int) (w : World) (hn : bs.length ≤ 1500) (hb : ∀ b ∈ bs, 0 ≤ b ∧ b ≤ 255) :
    Calls Tryd.prog 50 #[.string (strOfNums bs)] w (RGP w (JrnP.get bs)) := by
  have hj := Lib.hid ((J.one w #[.int .i64 0, .int .i64 0, .int .i64 0, .slice none 0 0] 42).push #[.int .i64 0, .int .i64 0, .int .i64 0, .slice none 0 0] 42)
  simp only [World.size_alloc] at hj
  obtain ⟨a0, a1, a2, a3⟩ := (hj.out.bx 1 rfl).c4
  obtain ⟨f0, f1, f2, f3⟩ := (hj.out.bx 1 rfl).f4
  obtain ⟨b0, b1, b2, b3⟩ := (hj.out.bx 0 rfl).c4
  obtain ⟨g0, g1, g2, g3⟩ := (hj.out.bx 0 rfl).f4
  have hne : ∀ x ∈ ([] : List (Nat × Array Value)), x.1 ≠ w.heap.size := fun x hx => by cases hx
  rcases ho : opn bs with _ | x
  · have hg : JrnP.get bs = bad 12 := by unfold JrnP.get; rw [ho]
    rw [hg]
    have HO : Hid (∀ W, Calls Tryd.prog 62 #[.string (strOfNums bs)] W fun e w' => e = .returned (.tuple #[.string ⟨#[]⟩, .bool false]) ∧ Below W.heap.size W w') := Lib.hid fun W => ropen_none bs W (by omega) hb ho
    clear hb ho hg
    generalize strOfNums bs = S at *
    go_enter Tryd.func50, Tryd.ntmps50
    go_wp2_with (go_at_call 62; (with_reducible refine (HO.out _).mono ?_); rintro e w1 ⟨rfl, h1⟩; have hj1 := Lib.hid (hj.out.next h1); obtain ⟨a0, a1, a2, a3⟩ := (hj1.out.bx 1 rfl).c4; obtain ⟨f0, f1, f2, f3⟩ := (hj1.out.bx 1 rfl).f4; obtain ⟨b0, b1, b2, b3⟩ := (hj1.out.bx 0 rfl).c4)
    have hje := (((((hj1.out.less (bs' := [(w.heap.size, #[.int .i64 0, .int .i64 0, .int .i64 0, .slice none 0 0])]) (by simp)).put (Nat.le_refl _) hne 0 (.int .i64 0)).put (Nat.le_refl _) hne 1 (.int .i64 0)).put (Nat.le_refl _) hne 2 (.int .i64 0)).put (Nat.le_refl _) hne 3 (.slice none 0 0))
    obtain ⟨k0, k1, k2, k3⟩ := (hje.bx 0 rfl).c4
    refine bodyPost_ret (v := .tuple #[.agg #[.int .i64 0, .int .i64 0, .int .i64 0, .slice none 0 0], .int .u64 0, .int .i64 12]) (by simp [results, Tryd.results50, go_sem, k0, k1, k2, k3]) rfl ⟨none, 0, rfl, Nat.le_refl _, Nat.zero_le _, .inl rfl, hje.below⟩
  have hxl := opn_len ho
  have hxb := opn_in ho hb
  have HO : Hid (∀ W, Calls Tryd.prog 62 #[.string (strOfNums bs)] W fun e w' => e = .returned (.tuple #[.string (strOfNums x), .bool true]) ∧ Below W.heap.size W w') := Lib.hid fun W => ropen_some bs x W (by omega) hb ho
  rcases hp : parts x with _ | rows
  · have hg : JrnP.get bs = bad 10 := by unfold JrnP.get; rw [ho]; simp only [hp]
    rw [hg]
    have HP : Hid (∀ W, Calls Tryd.prog 63 #[.string (strOfNums x)] W fun e w' => e = .returned (.tuple #[.slice none 0 0, .int .i64 10]) ∧ Below W.heap.size W w') := Lib.hid fun W => rpart_none x W (by omega) hxb hp
    clear hb ho hg hp hxl hxb
    generalize strOfNums bs = S at *
    generalize strOfNums x = X at *
    go_enter Tryd.func50, Tryd.ntmps50
    go_wp2_with (first
      | (go_at_call 62; (with_reducible refine (HO.out _).mono ?_); rintro e w1 ⟨rfl, h1⟩; have hj1 := Lib.hid (hj.out.next h1))
      | (go_at_call 63; (with_reducible refine (HP.out _).mono ?_); rintro e w2 ⟨rfl, h2⟩; have hj2 := Lib.hid (hj1.out.next h2); obtain ⟨a0, a1, a2, a3⟩ := (hj2.out.bx 1 rfl).c4; obtain ⟨f0, f1, f2, f3⟩ := (hj2.out.bx 1 rfl).f4; obtain ⟨b0, b1, b2, b3⟩ := (hj2.out.bx 0 rfl).c4))
    have hje := (((((hj2.out.less (bs' := [(w.heap.size, #[.int .i64 0, .int .i64 0, .int .i64 0, .slice none 0 0])]) (by simp)).put (Nat.le_refl _) hne 0 (.int .i64 0)).put (Nat.le_refl _) hne 1 (.int .i64 0)).put (Nat.le_refl _) hne 2 (.int .i64 0)).put (Nat.le_refl _) hne 3 (.slice none 0 0))
    obtain ⟨k0, k1, k2, k3⟩ := (hje.bx 0 rfl).c4
    refine bodyPost_ret (v := .tuple #[.agg #[.int .i64 0, .int .i64 0, .int .i64 0, .slice none 0 0], .int .u64 0, .int .i64 10]) (by simp [results, Tryd.results50, go_sem, k0, k1, k2, k3]) rfl ⟨none, 0, rfl, Nat.le_refl _, Nat.zero_le _, .inl rfl, hje.below⟩
  have hg : JrnP.get bs = getR rows := by unfold JrnP.get; rw [ho]; simp only [hp]
  rw [hg]
  obtain ⟨hrl, hrr⟩ := parts_small _ x rows (Nat.le_refl _) hxb hp
  obtain ⟨nr, hnr⟩ : ∃ nr, rows.length = nr := ⟨_, rfl⟩
  by_cases h3 : nr = 3
  · subst h3
    obtain ⟨r0, r1, r2, rfl⟩ : ∃ r0 r1 r2, rows = [r0, r1, r2] := by
      match rows, hnr with
      | [r0, r1, r2], _ => exact ⟨r0, r1, r2, rfl⟩
    have HP : Hid (∀ W, Calls Tryd.prog 63 #[.string (strOfNums x)] W fun e w' => ∃ g c, e = .returned (.tuple #[.slice (some ⟨g, 0, none⟩) 3 c, .int .i64 0]) ∧ (g < w'.heap.size ∧ w'.cell? ⟨g, 0, none⟩ = some (.string (strOfNums r0)) ∧ w'.cell? ⟨g, 1, none⟩ = some (.string (strOfNums r1)) ∧ w'.cell? ⟨g, 2, none⟩ = some (.string (strOfNums r2))) ∧ Below W.heap.size W w') := Lib.hid fun W => rpart_three x r0 r1 r2 W (by omega) hxb hp
    have z0 := strOfNums_size r0
    have z1 := strOfNums_size r1
    have z2 := strOfNums_size r2
    have hr0 := hrr r0 (by simp)
    have hr1 := hrr r1 (by simp)
    have hr2 := hrr r2 (by simp)
    by_cases hf : r0.length = 8 ∧ r1.length = 8 ∧ r2.length % 8 = 0
    · exact rjGet_three bs x r0 r1 r2 (r2.length / 8) w hn hb ho hp hf.1 hf.2.1 (by omega)
    · have hgr : getR [r0, r1, r2] = bad 11 := if_neg hf
      rw [hgr]
      have ways : ¬ r0.length = 8 ∨ (r0.length = 8 ∧ ¬ r1.length = 8) ∨ (r0.length = 8 ∧ r1.length = 8 ∧ ¬ r2.length % 8 = 0) := by omega
      generalize r0.length = n0 at *
      generalize r1.length = n1 at *
      obtain ⟨n2, hn2⟩ : ∃ n2, r2.length = n2 := ⟨_, rfl⟩
      rw [hn2] at z2 ways hr2
      have hn2b : n2 ≤ 1500 := by have := hr2.1; omega
      have hn0b : n0 ≤ 1500 := by have := hr0.1; omega
      have hn1b : n1 ≤ 1500 := by have := hr1.1; omega
      clear hb ho hg hp hxl hxb hf hgr hrr hrl hr0 hr1 hr2 hnr hn2
      generalize strOfNums bs = S at *
      generalize strOfNums x = X at *
      generalize strOfNums r0 = S0 at *
      generalize strOfNums r1 = S1 at *
      generalize strOfNums r2 = S2 at *
      have ways2 : (¬ (n0 : Int) = 8) ∨ (n0 = 8 ∧ ¬ (n1 : Int) = 8) ∨ (n0 = 8 ∧ n1 = 8 ∧ ¬ (n2 : Int) % 8 = 0) := by omega
      rcases ways2 with h1 | ⟨rfl, h1⟩ | ⟨rfl, rfl, h1⟩
      all_goals
        go_enter Tryd.func50, Tryd.ntmps50
        go_wp2_with (first
          | (go_at_call 62; (with_reducible refine (HO.out _).mono ?_); rintro e w1 ⟨rfl, h1⟩; have hj1 := Lib.hid (hj.out.next h1))
          | (go_at_call 63; (with_reducible refine (HP.out _).mono ?_); rintro e w2 ⟨g, c, rfl, ⟨hgl, c0, c1, c2⟩, h2⟩; have hj2 := Lib.hid (hj1.out.next h2); obtain ⟨a0, a1, a2, a3⟩ := (hj2.out.bx 1 rfl).c4; obtain ⟨f0, f1, f2, f3⟩ := (hj2.out.bx 1 rfl).f4; obtain ⟨b0, b1, b2, b3⟩ := (hj2.out.bx 0 rfl).c4))
        have hje := (((((hj2.out.less (bs' := [(w.heap.size, #[.int .i64 0, .int .i64 0, .int .i64 0, .slice none 0 0])]) (by simp)).put (Nat.le_refl _) hne 0 (.int .i64 0)).put (Nat.le_refl _) hne 1 (.int .i64 0)).put (Nat.le_refl _) hne 2 (.int .i64 0)).put (Nat.le_refl _) hne 3 (.slice none 0 0))
        obtain ⟨k0, k1, k2, k3⟩ := (hje.bx 0 rfl).c4
        refine bodyPost_ret (v := .tuple #[.agg #[.int .i64 0, .int .i64 0, .int .i64 0, .slice none 0 0], .int .u64 0, .int .i64 11]) (by simp [results, Tryd.results50, go_sem, k0, k1, k2, k3]) rfl ⟨none, 0, rfl, Nat.le_refl _, Nat.zero_le _, .inl rfl, hje.below⟩
  · have hgr : getR rows = bad 11 := by
      match rows, hnr with
      | [], _ => rfl
      | [_], _ => rfl
      | [_, _], _ => rfl
      | [_, _, _], h => exact absurd h.symm h3
      | _ :: _ :: _ :: _ :: _, _ => rfl
    rw [hgr]
    have HP : Hid (∀ W, Calls Tryd.prog 63 #[.string (strOfNums x)] W fun e w' => ∃ A c, e = .returned (.tuple #[.slice A nr c, .int .i64 0]) ∧ Below W.heap.size W w') := Lib.hid fun W => rpart_few x rows nr W (by omega) hxb hp hnr
    have d1 : ¬ (nr : Int) = 3 := by omega
    clear hb ho hg hp hxl hxb hgr hrr hrl hnr
    generalize strOfNums bs = S at *
    generalize strOfNums x = X at *
    go_enter Tryd.func50, Tryd.ntmps50
    go_wp2_with (first
      | (go_at_call 62; (with_reducible refine (HO.out _).mono ?_); rintro e w1 ⟨rfl, h1⟩; have hj1 := Lib.hid (hj.out.next h1))
      | (go_at_call 63; (with_reducible refine (HP.out _).mono ?_); rintro e w2 ⟨A, c, rfl, h2⟩; have hj2 := Lib.hid (hj1.out.next h2); obtain ⟨a0, a1, a2, a3⟩ := (hj2.out.bx 1 rfl).c4; obtain ⟨f0, f1, f2, f3⟩ := (hj2.out.bx 1 rfl).f4; obtain ⟨b0, b1, b2, b3⟩ := (hj2.out.bx 0 rfl).c4))
    have hje := (((((hj2.out.less (bs' := [(w.heap.size, #[.int .i64 0, .int .i64 0, .int .i64 0, .slice none 0 0])]) (by simp)).put (Nat.le_refl _) hne 0 (.int .i64 0)).put (Nat.le_refl _) hne 1 (.int .i64 0)).put (Nat.le_refl _) hne 2 (.int .i64 0)).put (Nat.le_refl _) hne 3 (.slice none 0 0))
    obtain ⟨k0, k1, k2, k3⟩ := (hje.bx 0 rfl).c4
    refine bodyPost_ret (v := .tuple #[.agg #[.int .i64 0, .int .i64 0, .int .i64 0, .slice none 0 0], .int .u64 0, .int .i64 11]) (by simp [results, Tryd.results50, go_sem, k0, k1, k2, k3]) rfl ⟨none, 0, rfl, Nat.le_refl _, Nat.zero_le _, .inl rfl, hje.below⟩

end Go.Proofs.YtjedkkkhficmoaaDoor.Jrn

/- The reference's counts, Load of layer 16. -/
namespace Go.Proofs.YtjedkkkhficmoaaDoor.Jrn
open Go.RowKit Go.Proofs.YtjedkkkhficmoaaDoor.Plain Go.Proofs.YtjedkkkhficmoaaDoor.Sees Go.Proofs.YtjedkkkhficmoaaDoor.Oct Go.Proofs.YtjedkkkhficmoaaDoor.Crc Go.Proofs.YtjedkkkhficmoaaDoor.Box Go.Proofs.YtjedkkkhficmoaaDoor.Held Go.Proofs.YtjedkkkhficmoaaDoor.JrnP Go.Proofs.YtjedkkkhficmoaaDoor.Open Go.Proofs.YtjedkkkhficmoaaDoor.LgrP
set_option linter.unusedVariables false
set_option maxRecDepth 100000

/-- a place's ledger, if it counts -/
def cnt (p : Int) (z : List Int) : G := if (JrnP.get z).e = 0 ∧ (JrnP.get z).s % 2 = p then ⟨0, (JrnP.get z).b, (JrnP.get z).m, (JrnP.get z).l, (JrnP.get z).s⟩ else bad 0
theorem load_cnt {z0 z1 : List Int} (h0 : By z0) (h1 : By z1) : JrnP.load z0 z1 = if (cnt 1 z1).s < (cnt 0 z0).s then cnt 0 z0 else cnt 1 z1 := by
  have g0 := gs_in z0 h0
  have g1 := gs_in z1 h1
  unfold JrnP.load cnt
  generalize JrnP.get z0 = x at *
  generalize JrnP.get z1 = y at *
  by_cases hx : x.e = 0 ∧ x.s % 2 = 0
  · by_cases hy : y.e = 0 ∧ y.s % 2 = 1
    · rw [if_pos hx, if_pos hy]
      simp only
      by_cases hlt : y.s < x.s
      · rw [if_pos hlt, best_yes hx.1 hx.2 (by show (0 : Int) < x.s; omega), best_no (.inr (.inr (by simp only; omega)))]
      · rw [if_neg hlt]
        by_cases hp : 0 < x.s
        · rw [best_yes hx.1 hx.2 (by show (0 : Int) < x.s; omega), best_yes hy.1 hy.2 (by simp only; omega)]
        · have e0 : best 0 (bad 0) x = bad 0 := best_no (.inr (.inr (by show ¬ (0 : Int) < x.s; omega)))
          rw [e0, best_yes hy.1 hy.2 (by show (0 : Int) < y.s; omega)]
    · rw [if_pos hx, if_neg hy]
      simp only
      have hn : ∀ g, best 1 g y = g := fun g => best_no (by
        by_cases h : y.e = 0
        · exact .inr (.inl fun h2 => hy ⟨h, h2⟩)
        · exact .inl h)
      rw [hn]
      by_cases hp : 0 < x.s
      · rw [best_yes hx.1 hx.2 (by show (0 : Int) < x.s; omega), if_pos (by show (0 : Int) < x.s; omega)]
      · rw [best_no (.inr (.inr (by show ¬ (0 : Int) < x.s; omega))), if_neg (by show ¬ (0 : Int) < x.s; omega)]
  · have hn : ∀ g, best 0 g x = g := fun g => best_no (by
      by_cases h : x.e = 0
      · exact .inr (.inl fun h2 => hx ⟨h, h2⟩)
      · exact .inl h)
    rw [if_neg hx, hn]
    by_cases hy : y.e = 0 ∧ y.s % 2 = 1
    · rw [if_pos hy, best_yes hy.1 hy.2 (by show (0 : Int) < y.s; omega), if_neg (by show ¬ y.s < (0 : Int); omega)]
    · rw [if_neg hy, if_neg (by show ¬ (0 : Int) < 0; omega)]
      exact best_no (by
        by_cases h : y.e = 0
        · exact .inr (.inl fun h2 => hy ⟨h, h2⟩)
        · exact .inl h)
theorem cnt_in (p : Int) {z : List Int} (h : By z) : 0 ≤ (cnt p z).s ∧ (cnt p z).s ≤ 18446744073709551615 := by
  unfold cnt
  split
  · exact gs_in z h
  · exact ⟨by decide, by decide⟩

/-- what counts answers -/
def RCP (w : World) (g : G) (e : Ending) (w' : World) : Prop :=
  ∃ A c, e = .returned (.tuple #[.agg #[.int .i64 g.b, .int .i64 g.m, .int .i64 0, .slice A g.l.length c], .int .u64 g.s]) ∧ g.l.length ≤ c ∧ c ≤ maxLen ∧ TS w' 73 A (pms g.l) ∧ Below w.heap.size w w'
def RGQ (w : World) (ge gb gm : Int) (gl : List Pm) (gs : Int) (nl : Nat) (e : Ending) (w' : World) : Prop :=
  ∃ A c, e = .returned (.tuple #[.agg #[.int .i64 gb, .int .i64 gm, .int .i64 0, .slice A nl c], .int .u64 gs, .int .i64 ge]) ∧ nl ≤ c ∧ c ≤ maxLen ∧ TS w' 73 A (pms gl) ∧ Below w.heap.size w w'

set_option maxHeartbeats 6400000 in
theorem rjCounts_any (z : List Int) (p : Int) (hp : p = 0 ∨ p = 1) (w : World) (hz : z.length ≤ 1500) (hb : By z) : Calls Tryd.prog 37 #[.string (strOfNums z), .int .u64 p] w (RCP w (cnt p z)) := by
  have hgs := gs_in z hb
  obtain ⟨c, hc⟩ : ∃ c, cnt p z = c := ⟨_, rfl⟩
  rw [hc]
  have hc2 := hc
  unfold cnt at hc2
  obtain ⟨ge, gb, gm, gl, gs, hg⟩ : ∃ ge gb gm gl gs, JrnP.get z = ⟨ge, gb, gm, gl, gs⟩ := ⟨_, _, _, _, _, rfl⟩
  obtain ⟨nl, hnl⟩ : ∃ nl, gl.length = nl := ⟨_, rfl⟩
  have HG : Hid (∀ W, Calls Tryd.prog 50 #[.string (strOfNums z)] W (RGQ W ge gb gm gl gs nl)) := Lib.hid fun W => by
    have := rjGet_any z W hz hb
    rw [hg] at this
    subst hnl
    exact this
  rw [hg] at hc2 hgs
  simp only at hc2 hgs
  have HC := Lib.hid hc2
  have HNL := Lib.hid hnl
  have hbt := BxT.new w #[.int .i64 0, .int .i64 0, .int .i64 0, .slice none 0 0] 42
  have HBT := Lib.hid hbt
  have hj := Lib.hid (J.one w #[.int .i64 0, .int .i64 0, .int .i64 0, .slice none 0 0] 42)
  have hne : ∀ x ∈ ([] : List (Nat × Array Value)), x.1 ≠ w.heap.size := fun x hx => by cases hx
  have ways : ¬ ge = 0 ∨ (ge = 0 ∧ ¬ gs % 2 = p) ∨ (ge = 0 ∧ gs % 2 = p) := by omega
  clear hc hc2 hg hnl hb hz hbt
  generalize strOfNums z = S at *
  rcases ways with h1 | ⟨rfl, h2⟩ | ⟨rfl, h2⟩
  · have HC2 := Lib.hid (HC.out.symm.trans (if_neg fun h => h1 h.1))
    obtain rfl := HC2.out
    go_enter Tryd.func37, Tryd.ntmps37
    go_wp2_with (go_at_call 50; (with_reducible refine (HG.out _).mono ?_); rintro e w1 ⟨A4, c4, rfl, hc4, hm4, hs4, h1⟩; have hj1 := Lib.hid ((hj.out.next h1).push #[.int .i64 gb, .int .i64 gm, .int .i64 0, .slice A4 nl c4] 42); obtain ⟨a0, a1, a2, a3⟩ := (hj1.out.bx 1 rfl).c4; obtain ⟨f0, f1, f2, f3⟩ := (hj1.out.bx 1 rfl).f4)
    have hje := (((((hj1.out.less (bs' := [(w.heap.size, #[.int .i64 0, .int .i64 0, .int .i64 0, .slice none 0 0])]) (by simp)).put (Nat.le_refl _) hne 0 (.int .i64 0)).put (Nat.le_refl _) hne 1 (.int .i64 0)).put (Nat.le_refl _) hne 2 (.int .i64 0)).put (Nat.le_refl _) hne 3 (.slice none 0 0))
    obtain ⟨k0, k1, k2, k3⟩ := (hje.bx 0 rfl).c4
    refine bodyPost_ret (v := .tuple #[.agg #[.int .i64 0, .int .i64 0, .int .i64 0, .slice none 0 0], .int .u64 0]) (by simp [results, Tryd.results37, go_sem, k0, k1, k2, k3]) rfl ⟨none, 0, rfl, Nat.le_refl _, Nat.zero_le _, .inl rfl, hje.below⟩
  · have HC2 := Lib.hid (HC.out.symm.trans (if_neg fun h => h2 h.2))
    obtain rfl := HC2.out
    have d1 : decide (gs % 2 = p) = false := decide_eq_false h2
    have d2 : (gs % 2 == p) = false := beq_eq_false_iff_ne.2 h2
    go_enter Tryd.func37, Tryd.ntmps37
    go_wp2_with (go_at_call 50; (with_reducible refine (HG.out _).mono ?_); rintro e w1 ⟨A4, c4, rfl, hc4, hm4, hs4, h1⟩; have hj1 := Lib.hid ((hj.out.next h1).push #[.int .i64 gb, .int .i64 gm, .int .i64 0, .slice A4 nl c4] 42); obtain ⟨a0, a1, a2, a3⟩ := (hj1.out.bx 1 rfl).c4; obtain ⟨f0, f1, f2, f3⟩ := (hj1.out.bx 1 rfl).f4)
    have hje := (((((hj1.out.less (bs' := [(w.heap.size, #[.int .i64 0, .int .i64 0, .int .i64 0, .slice none 0 0])]) (by simp)).put (Nat.le_refl _) hne 0 (.int .i64 0)).put (Nat.le_refl _) hne 1 (.int .i64 0)).put (Nat.le_refl _) hne 2 (.int .i64 0)).put (Nat.le_refl _) hne 3 (.slice none 0 0))
    obtain ⟨k0, k1, k2, k3⟩ := (hje.bx 0 rfl).c4
    refine bodyPost_ret (v := .tuple #[.agg #[.int .i64 0, .int .i64 0, .int .i64 0, .slice none 0 0], .int .u64 0]) (by simp [results, Tryd.results37, go_sem, k0, k1, k2, k3]) rfl ⟨none, 0, rfl, Nat.le_refl _, Nat.zero_le _, .inl rfl, hje.below⟩
  · have HC2 := Lib.hid (HC.out.symm.trans (if_pos ⟨rfl, h2⟩))
    obtain rfl := HC2.out
    have d1 : decide (gs % 2 = p) = true := decide_eq_true h2
    have d2 : (gs % 2 == p) = true := beq_iff_eq.2 h2
    go_enter Tryd.func37, Tryd.ntmps37
    go_wp2_with (go_at_call 50; (with_reducible refine (HG.out _).mono ?_); rintro e w1 ⟨A4, c4, rfl, hc4, hm4, hs4, h1⟩; have hj1 := Lib.hid ((hj.out.next h1).push #[.int .i64 gb, .int .i64 gm, .int .i64 0, .slice A4 nl c4] 42); obtain ⟨a0, a1, a2, a3⟩ := (hj1.out.bx 1 rfl).c4; obtain ⟨f0, f1, f2, f3⟩ := (hj1.out.bx 1 rfl).f4; obtain ⟨b0, b1, b2, b3⟩ := (hj1.out.bx 0 rfl).c4; have n1 : w.heap.size ≠ w1.heap.size := ne_of_lt' (hj.out.bx 0 rfl).lt h1.size; have n2 := n1.symm)
    have hje := (((((hj1.out.less (bs' := [(w.heap.size, #[.int .i64 0, .int .i64 0, .int .i64 0, .slice none 0 0])]) (by simp)).put (Nat.le_refl _) hne 0 (.int .i64 gb)).put (Nat.le_refl _) hne 1 (.int .i64 gm)).put (Nat.le_refl _) hne 2 (.int .i64 0)).put (Nat.le_refl _) hne 3 (.slice A4 nl c4))
    obtain ⟨k0, k1, k2, k3⟩ := (hje.bx 0 rfl).c4
    have hb1 := (HBT.out.next h1).next (below_box (o := .cells #[.int .i64 gb, .int .i64 gm, .int .i64 0, .slice A4 nl c4] 42))
    have hT1 := hs4.next (below_box (o := .cells #[.int .i64 gb, .int .i64 gm, .int .i64 0, .slice A4 nl c4] 42))
    have hTe := (((hT1.set hb1 (by decide) 0 (.int .i64 gb)).set (hb1.set 0 (.int .i64 gb)) (by decide) 1 (.int .i64 gm)).set ((hb1.set 0 (.int .i64 gb)).set 1 (.int .i64 gm)) (by decide) 2 (.int .i64 0)).set (((hb1.set 0 (.int .i64 gb)).set 1 (.int .i64 gm)).set 2 (.int .i64 0)) (by decide) 3 (.slice A4 nl c4)
    refine bodyPost_ret (v := .tuple #[.agg #[.int .i64 gb, .int .i64 gm, .int .i64 0, .slice A4 nl c4], .int .u64 gs]) (by simp [results, Tryd.results37, go_sem, k0, k1, k2, k3]) rfl ⟨A4, c4, by simp only [HNL.out], by simp only [HNL.out]; exact hc4, hm4, hTe, hje.below⟩

/-- what Load answers -/
def RLP (w : World) (g : G) (e : Ending) (w' : World) : Prop :=
  ∃ A c, e = .returned (.tuple #[.agg #[.int .i64 g.b, .int .i64 g.m, .int .i64 0, .slice A g.l.length c], .int .u64 g.s, .bool (decide (0 < g.s))]) ∧ g.l.length ≤ c ∧ c ≤ maxLen ∧ TS w' 73 A (pms g.l) ∧ Below w.heap.size w w'
def RCQ (w : World) (gb gm : Int) (gl : List Pm) (gs : Int) (nl : Nat) (e : Ending) (w' : World) : Prop :=
  ∃ A c, e = .returned (.tuple #[.agg #[.int .i64 gb, .int .i64 gm, .int .i64 0, .slice A nl c], .int .u64 gs]) ∧ nl ≤ c ∧ c ≤ maxLen ∧ TS w' 73 A (pms gl) ∧ Below w.heap.size w w'

set_option maxHeartbeats 12800000 in
theorem rjLoad_any (z0 z1 : List Int) (la : Int) (SW : ByteArray) (w : World) (h0 : z0.length ≤ 1500) (h1 : z1.length ≤ 1500) (b0 : By z0) (b1 : By z1) :
    Calls Tryd.prog 24 #[.agg #[.string (strOfNums z0), .string (strOfNums z1), .int .i64 la, .string SW]] w (RLP w (JrnP.load z0 z1)) := by
  have hld := load_cnt b0 b1
  have s0 := cnt_in 0 b0
  have s1 := cnt_in 1 b1
  have C0 := fun W => rjCounts_any z0 0 (.inl rfl) W h0 b0
  have C1 := fun W => rjCounts_any z1 1 (.inr rfl) W h1 b1
  obtain ⟨xe, xb, xm, xl, xs, hx⟩ : ∃ ge gb gm gl gs, cnt 0 z0 = ⟨ge, gb, gm, gl, gs⟩ := ⟨_, _, _, _, _, rfl⟩
  obtain ⟨ye, yb, ym, yl, ys, hy⟩ : ∃ ge gb gm gl gs, cnt 1 z1 = ⟨ge, gb, gm, gl, gs⟩ := ⟨_, _, _, _, _, rfl⟩
  obtain ⟨nx, hnx⟩ : ∃ nl, xl.length = nl := ⟨_, rfl⟩
  obtain ⟨ny, hny⟩ : ∃ nl, yl.length = nl := ⟨_, rfl⟩
  rw [hx] at hld s0 C0
  rw [hy] at hld s1 C1
  simp only at hld s0 s1
  have HX : Hid (∀ W, Calls Tryd.prog 37 #[.string (strOfNums z0), .int .u64 0] W (RCQ W xb xm xl xs nx)) := Lib.hid fun W => by
    have := C0 W
    subst hnx
    exact this
  have HY : Hid (∀ W, Calls Tryd.prog 37 #[.string (strOfNums z1), .int .u64 1] W (RCQ W yb ym yl ys ny)) := Lib.hid fun W => by
    have := C1 W
    subst hny
    exact this
  have HN := Lib.hid (And.intro hnx hny)
  obtain ⟨gL, hgL⟩ : ∃ g, JrnP.load z0 z1 = g := ⟨_, rfl⟩
  rw [hgL] at hld ⊢
  have HLd := Lib.hid hld
  clear hld hgL hx hy hnx hny C0 C1 b0 b1 h0 h1
  generalize strOfNums z0 = S0 at *
  generalize strOfNums z1 = S1 at *
  have hj := Lib.hid ((J.one w #[.string S0, .string S1, .int .i64 la, .string SW] 46).push #[.int .i64 0, .int .i64 0, .int .i64 0, .slice none 0 0] 42)
  have HBT := Lib.hid (BxT.new (w.alloc (.cells #[.string S0, .string S1, .int .i64 la, .string SW] 46)) #[.int .i64 0, .int .i64 0, .int .i64 0, .slice none 0 0] 42)
  simp only [World.size_alloc] at hj HBT
  obtain ⟨a0, a1, a2, a3⟩ := (hj.out.bx 1 rfl).c4
  have hne : ∀ x ∈ ([] : List (Nat × Array Value)), x.1 ≠ w.heap.size + 1 := fun x hx => by cases hx
  have hlt0 := (hj.out.bx 0 rfl).lt
  have ways : xs > ys ∨ ¬ xs > ys := by omega
  rcases ways with hw | hw
  all_goals
    go_enter Tryd.func24, Tryd.ntmps24
    go_wp2_with (first
      | (go_at_call 37; (with_reducible refine (HX.out _).mono ?_); clear HX; rintro e w1 ⟨A4, c4, rfl, hc4, hm4, hs4, h1⟩; have hj1 := Lib.hid ((hj.out.next h1).push #[.int .i64 xb, .int .i64 xm, .int .i64 0, .slice A4 nx c4] 42); have hs5 := Lib.hid (hs4.next (below_box (o := .cells #[.int .i64 xb, .int .i64 xm, .int .i64 0, .slice A4 nx c4] 42))); have HB1 := Lib.hid ((HBT.out.next h1).next (below_box (o := .cells #[.int .i64 xb, .int .i64 xm, .int .i64 0, .slice A4 nx c4] 42))); have l1 := h1.size; clear h1 hs4 a0 a1 a2 a3; obtain ⟨a0, a1, a2, a3⟩ := (hj1.out.bx 2 rfl).c4)
      | (go_at_call 37; (with_reducible refine (HY.out _).mono ?_); clear HY; rintro e w2 ⟨A6, c6, rfl, hc6, hm6, hs6, h2⟩; have hj2 := Lib.hid ((hj1.out.next h2).push #[.int .i64 yb, .int .i64 ym, .int .i64 0, .slice A6 ny c6] 42); have hs7 := Lib.hid (hs6.next (below_box (o := .cells #[.int .i64 yb, .int .i64 ym, .int .i64 0, .slice A6 ny c6] 42))); have hs5' := Lib.hid ((hs5.out.next h2).next (below_box (o := .cells #[.int .i64 yb, .int .i64 ym, .int .i64 0, .slice A6 ny c6] 42))); have HB2 := Lib.hid ((HB1.out.next h2).next (below_box (o := .cells #[.int .i64 yb, .int .i64 ym, .int .i64 0, .slice A6 ny c6] 42))); have l2 := h2.size; have n1 : w.heap.size + 1 ≠ w1.heap.size := (by simp only [World.size_alloc] at l1 l2; omega); have n2 : w.heap.size + 1 ≠ w2.heap.size := (by simp only [World.size_alloc] at l1 l2; omega); have n3 := n1.symm; have n4 := n2.symm; clear h2 hs6 a0 a1 a2 a3 l1 l2; obtain ⟨a0, a1, a2, a3⟩ := (hj2.out.bx 1 rfl).c4; obtain ⟨b0, b1, b2, b3⟩ := (hj2.out.bx 0 rfl).c4; obtain ⟨z0, z1, z2, z3⟩ := (hj2.out.bx 2 rfl).c4; obtain ⟨f0, f1, f2, f3⟩ := (hj2.out.bx 2 rfl).f4))
  · have hje := (((((hj2.out.less (bs' := [(w.heap.size + 1, #[.int .i64 0, .int .i64 0, .int .i64 0, .slice none 0 0])]) (by simp)).put (by omega) hne 0 (.int .i64 xb)).put (by omega) hne 1 (.int .i64 xm)).put (by omega) hne 2 (.int .i64 0)).put (by omega) hne 3 (.slice A4 nx c4))
    obtain ⟨k0, k1, k2, k3⟩ := (hje.bx 0 rfl).c4
    have hb1 := HB2.out
    have hTe := (((hs5'.out.set hb1 (by decide) 0 (.int .i64 xb)).set (hb1.set 0 (.int .i64 xb)) (by decide) 1 (.int .i64 xm)).set ((hb1.set 0 (.int .i64 xb)).set 1 (.int .i64 xm)) (by decide) 2 (.int .i64 0)).set (((hb1.set 0 (.int .i64 xb)).set 1 (.int .i64 xm)).set 2 (.int .i64 0)) (by decide) 3 (.slice A4 nx c4)
    have e := HLd.out
    rw [if_pos hw] at e
    subst e
    refine bodyPost_ret (v := .tuple #[.agg #[.int .i64 xb, .int .i64 xm, .int .i64 0, .slice A4 nx c4], .int .u64 xs, .bool true]) (by simp [results, Tryd.results24, go_sem, k0, k1, k2, k3]) rfl ⟨A4, c4, by simp only [HN.out.1]; rw [decide_eq_true (show 0 < xs by omega)], by simp only [HN.out.1]; exact hc4, hm4, hTe, hje.below⟩
  · have hje := (((((hj2.out.less (bs' := [(w.heap.size + 1, #[.int .i64 0, .int .i64 0, .int .i64 0, .slice none 0 0])]) (by simp)).put (by omega) hne 0 (.int .i64 yb)).put (by omega) hne 1 (.int .i64 ym)).put (by omega) hne 2 (.int .i64 0)).put (by omega) hne 3 (.slice A6 ny c6))
    obtain ⟨k0, k1, k2, k3⟩ := (hje.bx 0 rfl).c4
    have hb1 := HB2.out
    have hTe := (((hs7.out.set hb1 (by decide) 0 (.int .i64 yb)).set (hb1.set 0 (.int .i64 yb)) (by decide) 1 (.int .i64 ym)).set ((hb1.set 0 (.int .i64 yb)).set 1 (.int .i64 ym)) (by decide) 2 (.int .i64 0)).set (((hb1.set 0 (.int .i64 yb)).set 1 (.int .i64 ym)).set 2 (.int .i64 0)) (by decide) 3 (.slice A6 ny c6)
    have e := HLd.out
    rw [if_neg (by omega)] at e
    subst e
    refine bodyPost_ret (v := .tuple #[.agg #[.int .i64 yb, .int .i64 ym, .int .i64 0, .slice A6 ny c6], .int .u64 ys, .bool (decide (0 < ys))]) (by simp [results, Tryd.results24, go_sem, k0, k1, k2, k3]) rfl ⟨A6, c6, by simp only [HN.out.2], by simp only [HN.out.2]; exact hc6, hm6, hTe, hje.below⟩

end Go.Proofs.YtjedkkkhficmoaaDoor.Jrn
