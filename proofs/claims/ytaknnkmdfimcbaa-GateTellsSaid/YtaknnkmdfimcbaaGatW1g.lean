/- The walk of GateTells, where all may be. -/
import Derived.Test.YtaknnkmdfimcbaaGatB
import Derived.OpenShut
import Derived.Deep.CutRange
namespace Go.Proofs.Ytaknnkmdfimcbaa.Walk
open Go.RowKit Go.ChangeShapes Go.Proofs.Ytaknnkmdfimcbaa.CarP Go.Proofs.Ytaknnkmdfimcbaa.LefP Go.Proofs.Ytaknnkmdfimcbaa.LokP Go.Proofs.Ytaknnkmdfimcbaa.GatP Go.Proofs.Ytaknnkmdfimcbaa.Gat Go.Proofs.Ytaknnkmdfimcbaa.Box Go.Proofs.Ytaknnkmdfimcbaa.Held
set_option linter.unusedVariables false

/-- how a Bool of four tests comes -/
theorem chain4 (a b x y z B : Bool) (h : (a && (b && (x && (y && z)))) = B) : (a = false ∧ B = false) ∨ (a = true ∧ b = false ∧ B = false) ∨ (a = true ∧ b = true ∧ x = false ∧ B = false) ∨ (a = true ∧ b = true ∧ x = true ∧ y = false ∧ B = false) ∨ (a = true ∧ b = true ∧ x = true ∧ y = true ∧ z = false ∧ B = false) ∨ (a = true ∧ b = true ∧ x = true ∧ y = true ∧ z = true ∧ B = true) := by
  subst h; revert a b x y z; decide

/-- what is asked, by the law's two tests -/
theorem want_cases (op pw b1 b2 b3 b4 : Bool) : ((pw && (!op && b4)) = true ∧ (if op then (if pw && ((b1 && b2) && !!b3) then (1 : Int) else 0) else (if pw && !!b4 then 2 else 0)) = 2) ∨ ((pw && (!op && b4)) = false ∧ (if op then (if pw && ((b1 && b2) && !!b3) then (1 : Int) else 0) else (if pw && !!b4 then 2 else 0)) = if (pw && (op && (b1 && (b2 && b3)))) then 1 else 0) := by
  revert op pw b1 b2 b3 b4; decide

set_option maxRecDepth 100000 in
set_option maxHeartbeats 6400000 in
theorem gateTells_good (w : World) (c : K) (l m : L) (g : G) (op pw bl : Bool) (dw mo : Int) (w7 : (Lit.int .u8 dw).wf = true) (hb1 : both c l = true) (hb2 : both c m = true) (k0 : ¬ g.w < 0) (k1 : ¬ 200 < g.w) (k2 : ¬ g.t < 0) (k3 : ¬ 1000000 < g.t) :
    Calls Try.prog 3 #[Car.val c, Lef.val l, Lef.val m, Gat.val g, .bool op, .bool pw, .bool bl, .int .u8 dw, .int .i64 mo] w fun e w' => e = .returned (.bool true) ∧ Below w.heap.size w w' := by
  have hdw := bounds_u8 w7
  clear w7
  obtain ⟨f, hf⟩ : ∃ f, dw % 201 = f := ⟨_, rfl⟩
  have t1 : dw.tmod 201 = f := by rw [Int.tmod_eq_emod_of_nonneg (by omega)]; exact hf
  have t2 : IntKind.u8.wrap f = f := IntWalk.u8_in _ (by omega)
  have t3 : IntKind.i64.wrap f = f := IntWalk.i64_in _ (by omega)
  clear hdw hf
  have HA : Hid (∀ W, Calls Try.prog 8 #[] W (Says W (.bool true))) := Lib.hid fun W => awake_any W
  have HM1 : Hid (∀ W, Calls Try.prog 9 #[Car.val c, Lef.val l] W (Says W (.bool (both c l)))) := Lib.hid fun W => may_any c l W
  have HM2 : Hid (∀ W, Calls Try.prog 9 #[Car.val c, Lef.val m] W (Says W (.bool (both c m)))) := Lib.hid fun W => may_any c m W
  have hj := Lib.hid (jfour w (Car.arr c) (Lef.arr l) (Lef.arr m) (Gat.arr g) 23 25 25 27)
  rw [hb1] at HM1
  rw [hb2] at HM2
  have HK : Hid (c.May ∧ l.May ∧ m.May) := Lib.hid ⟨(both_may hb1).1, (both_may hb1).2, (both_may hb2).2⟩
  clear hb1 hb2
  have HWhat : Hid (c.May → ∀ W, Calls Try.prog 12 #[Car.val c, Lef.val l, .bool op, .bool pw] W (Says W (.int .i64 (wh c l op pw)))) := Lib.hid fun hc W => What_any c hc.p0 l op pw W
  have HStep : Hid (0 ≤ g.w → g.w ≤ 200 → ∀ W, Calls Try.prog 10 #[Gat.val g, Lef.val l, Lef.val m, .int .i64 f] W (Says W (Gat.val (gs g l m f)))) := Lib.hid fun h0 h1 W => Step_any g h0 h1 l m f W
  have HAg : Hid (0 ≤ g.t → g.t ≤ 1000000 → ∀ W, Calls Try.prog 11 #[Gat.val g, Lef.val l, .bool bl, .int .i64 mo] W (Says W (.tuple #[Gat.val (gg g l bl mo), .bool (ag g l bl mo)]))) := Lib.hid fun h0 h1 W => Again_any g h0 h1 l bl mo W
  have HR : Hid (∀ W, Calls Try.prog 13 #[Gat.val g, Lef.val l] W (Says W (.bool (rd g l)))) := Lib.hid fun W => Ready_any g l W
  have hwh : wh c l op pw = if op then (if pw && (lv c && !wd l) then 1 else 0) else (if pw && !sh l then 2 else 0) := rfl
  have hlv : lv c = (decide (c.v = 0) && decide (c.p % 8 = 0)) := rfl
  have hwd : wd l = decide (l.o = l.d) := rfl
  have hsh : sh l = decide (l.o = 0) := rfl
  have hwm : wd m = decide (m.o = m.d) := rfl
  have hsm : sh m = decide (m.o = 0) := rfl
  have hgs : gs g l m f = ⟨ws g.w (wd l) (wd m) f, if sh m then 0 else g.t⟩ := rfl
  have hws : ws g.w (wd l) (wd m) f = if wd m then (if wd l then max 0 (g.w - 1) else f) else 0 := rfl
  have hag : ag g l bl mo = ((!sh l && !wd l) && bl && decide (g.t < mo)) := rfl
  have hgg : gg g l bl mo = if ag g l bl mo then ⟨g.w, g.t + 1⟩ else g := rfl
  have hrd : rd g l = (!wd l || decide (g.w = 0)) := rfl
  generalize wh c l op pw = x at *
  generalize gs g l m f = gS at *
  generalize gg g l bl mo = gA at *
  generalize ag g l bl mo = B at *
  generalize rd g l = R at *
  generalize ws g.w (wd l) (wd m) f = sw at *
  generalize lv c = y at *
  generalize wd l = zl at *
  generalize wd m = zm at *
  generalize sh l = sl at *
  generalize sh m = sm at *
  have HE := Lib.hid (And.intro hwh (And.intro hlv (And.intro hwd (And.intro hsh (And.intro hwm (And.intro hsm (And.intro hgs (And.intro hws (And.intro hag (And.intro hgg hrd))))))))))
  clear hwh hlv hwd hsh hwm hsm hgs hws hag hgg hrd
  obtain ⟨p, v, k⟩ := c
  obtain ⟨o, d⟩ := l
  obtain ⟨mo', md⟩ := m
  obtain ⟨u, t⟩ := g
  obtain ⟨sw', sT⟩ := gS
  obtain ⟨au, at_⟩ := gA
  unfold Car.val Car.arr Lef.val Lef.arr Gat.val Gat.arr at *
  simp only at *
  obtain ⟨⟨p0, p1, v0, v1⟩, ⟨o0, o1, d0, d1⟩, ⟨q0, q1, r0, r1⟩⟩ := HK.out
  simp only at p0 p1 v0 v1 o0 o1 d0 d1 q0 q1 r0 r1
  have HWh := Lib.hid (HWhat.out ⟨p0, p1, v0, v1⟩)
  have HSt := Lib.hid (HStep.out (by omega) (by omega))
  have HAg' := Lib.hid (HAg.out (by omega) (by omega))
  clear HWhat HStep HAg HK
  obtain ⟨hwh, hlv, hwd, hsh, hwm, hsm, hgs, hws, hag, hgg, hrd⟩ := HE.out
  clear HE
  obtain ⟨rfl, hsT⟩ := G.mk.inj hgs
  have e1 : p.tmod 8 = p % 8 := Int.tmod_eq_emod_of_nonneg p0
  have e2 : IntKind.i64.wrap (p % 8) = p % 8 := IntWalk.i64_in _ (by omega)
  have e3 : IntKind.i64.wrap (u - 1) = u - 1 := IntWalk.i64_in _ (by omega)
  have e4 : IntKind.i64.wrap (t + 1) = t + 1 := IntWalk.i64_in _ (by omega)
  have m1 : ∀ W, (Builtin.max_ #[3, 3] 3 #[.int .i64 (u - 1), .int .i64 0]).run Try.prog W = .ok (.int .i64 (max 0 (u - 1))) W := fun W => by
    rw [run_max_int2]; congr 2; split <;> omega
  have hz : zl = !decide (o < d) := by rw [hwd, Bool.eq_iff_iff]; simp; omega
  have hs : sl = !decide (0 < o) := by rw [hsh, Bool.eq_iff_iff]; simp; omega
  obtain ⟨B1, hB1⟩ : ∃ B, (pw && (op && (decide (v = 0) && (decide (p % 8 = 0) && decide (o < d))))) = B := ⟨_, rfl⟩
  obtain ⟨B2, hB2⟩ : ∃ B, (pw && (!op && decide (0 < o))) = B := ⟨_, rfl⟩
  have HW1 := Lib.hid (chain4 _ _ _ _ _ _ hB1)
  have HW2 : Hid ((pw = false ∧ B2 = false) ∨ (pw = true ∧ op = true ∧ B2 = false) ∨ (pw = true ∧ op = false ∧ ¬ 0 < o ∧ B2 = false) ∨ (pw = true ∧ op = false ∧ 0 < o ∧ B2 = true)) := Lib.hid (by
    subst hB2
    cases pw <;> cases op <;> simp <;> omega)
  obtain ⟨x1, hx1⟩ : ∃ x1 : Int, (if B1 then 1 else 0) = x1 := ⟨_, rfl⟩
  have HX1 : Hid ((B1 = true ∧ x1 = 1) ∨ (B1 = false ∧ x1 = 0)) := Lib.hid (by cases B1 <;> simp at hx1 <;> simp [hx1])
  have HX : Hid ((B2 = true ∧ x = 2) ∨ (B2 = false ∧ x = x1)) := Lib.hid (by
    subst hx1 hB1 hB2
    rw [hwh, hlv, hz, hs]
    exact want_cases _ _ _ _ _ _)
  have HSw : Hid (((mo' == md) = false ∧ sw' = 0) ∨ ((mo' == md) = true ∧ (o == d) = false ∧ sw' = f) ∨ ((mo' == md) = true ∧ (o == d) = true ∧ sw' = max 0 (u - 1))) := Lib.hid (by
    have k1 : (mo' == md) = zm := by rw [hwm]; exact beq_dec Iff.rfl
    have k2 : (o == d) = zl := by rw [hwd]; exact beq_dec Iff.rfl
    rw [k1, k2, hws]
    cases zm <;> cases zl <;> simp)
  have HST : Hid (((mo' == 0) = true ∧ sT = 0) ∨ ((mo' == 0) = false ∧ sT = t)) := Lib.hid (by
    have k1 : (mo' == 0) = sm := by rw [hsm]; exact beq_dec Iff.rfl
    rw [k1, hsT]
    cases sm <;> simp)
  have HB : Hid ((bl = false ∧ B = false) ∨ (bl = true ∧ ¬ 0 < o ∧ B = false) ∨ (bl = true ∧ 0 < o ∧ ¬ o < d ∧ B = false) ∨ (bl = true ∧ 0 < o ∧ o < d ∧ ¬ t < mo ∧ B = false) ∨ (bl = true ∧ 0 < o ∧ o < d ∧ t < mo ∧ B = true)) := Lib.hid (by
    rw [hag, hz, hs]
    cases bl
    · simp
    · by_cases h1 : 0 < o
      · by_cases h2 : o < d
        · by_cases h3 : t < mo <;> simp [h1, h2, h3]
        · simp [h1, h2]
      · simp [h1])
  have HGG : Hid ((B = true ∧ au = u ∧ at_ = t + 1) ∨ (B = false ∧ au = u ∧ at_ = t)) := Lib.hid (by
    cases B
    · rw [if_neg (by simp)] at hgg
      obtain ⟨h1, h2⟩ := G.mk.inj hgg
      exact .inr ⟨rfl, h1, h2⟩
    · rw [if_pos rfl] at hgg
      obtain ⟨h1, h2⟩ := G.mk.inj hgg
      exact .inl ⟨rfl, h1, h2⟩)
  have HRd : Hid ((decide (o < d) = true ∧ R = true) ∨ (decide (o < d) = false ∧ (u == 0) = R)) := Lib.hid (by
    have k1 : (u == 0) = decide (u = 0) := beq_dec Iff.rfl
    rw [k1, hrd, hz]
    cases decide (o < d) <;> simp)
  clear hwh hlv hwd hsh hwm hsm hgs hws hag hgg hrd hsT hz hs hB1 hB2 hx1
  clear p0 p1 v0 v1 o0 o1 d0 d1 q0 q1 r0 r1
  go_enter Try.func3, Try.ntmps3
  go_upto_region 10 with (first
    | (go_at_call 8; (with_reducible refine (HA.out _).mono ?_); clear HA; rintro e w1 ⟨rfl, h1⟩; have hj1 := Lib.hid (hj.out.next h1); clear h1 hj; obtain ⟨a0, a1, a2⟩ := (hj1.out.bx 3 rfl).c3; obtain ⟨l0, l1⟩ := (hj1.out.bx 2 rfl).c2)
    | (go_at_call 9; (with_reducible refine (HM1.out _).mono ?_); clear HM1 a0 a1 a2 l0 l1; rintro e w2 ⟨rfl, h2⟩; have hj2 := Lib.hid (hj1.out.next h2); clear h2 hj1; obtain ⟨a0, a1, a2⟩ := (hj2.out.bx 3 rfl).c3; obtain ⟨n0, n1⟩ := (hj2.out.bx 1 rfl).c2)
    | (go_at_call 9; (with_reducible refine (HM2.out _).mono ?_); clear HM2 a0 a1 a2 n0 n1; rintro e w3 ⟨rfl, h3⟩; have hj3 := Lib.hid (hj2.out.next h3); clear h3 hj2; obtain ⟨g0, g1⟩ := (hj3.out.bx 0 rfl).c2))
  clear k0 k1 k2 k3 g0 g1
  go_cut [90] from 69 to 90 (fun s90 wx => s90 = .bool B1 ∧ Hid (J w wx [(w.heap.size + 3, #[.int .i64 u, .int .i64 t]), (w.heap.size + 2, #[.int .i64 mo', .int .i64 md]), (w.heap.size + 1, #[.int .i64 o, .int .i64 d]), (w.heap.size, #[.int .i64 p, .int .i64 v, .int .i64 k])]))
  case first =>
    obtain ⟨a0, a1, a2⟩ := (hj3.out.bx 3 rfl).c3
    obtain ⟨l0, l1⟩ := (hj3.out.bx 2 rfl).c2
    have k5 := HW1.out
    clear HW1
    have y1 : (v == 0) = decide (v = 0) := beq_dec Iff.rfl
    have y2 : (p % 8 == 0) = decide (p % 8 = 0) := beq_dec Iff.rfl
    rw [← y1, ← y2] at k5
    clear y1 y2
    rcases k5 with ⟨rfl, rfl⟩ | ⟨rfl, rfl, rfl⟩ | ⟨rfl, rfl, k6, rfl⟩ | ⟨rfl, rfl, k6, k7, rfl⟩ | ⟨rfl, rfl, k6, k7, k8, rfl⟩ | ⟨rfl, rfl, k6, k7, k8, rfl⟩
    all_goals
      go_wp2_with fail
      go_meet
      exact ⟨rfl, hj3⟩
  case rest =>
    clear hj3 HW1
    obtain ⟨rfl, hjA⟩ := hcut
    go_upto_if 90 with fail
    go_cut [23] from 90 to 90 (fun s23 wx => s23 = .int .i64 x1 ∧ Hid (J w wx [(w.heap.size + 3, #[.int .i64 u, .int .i64 t]), (w.heap.size + 2, #[.int .i64 mo', .int .i64 md]), (w.heap.size + 1, #[.int .i64 o, .int .i64 d]), (w.heap.size, #[.int .i64 p, .int .i64 v, .int .i64 k])]))
    case first =>
      rcases HX1.out with ⟨rfl, rfl⟩ | ⟨rfl, rfl⟩
      all_goals
        go_wp2_with fail
        go_meet
        exact ⟨rfl, hjA⟩
    case rest =>
      clear hjA HX1
      obtain ⟨rfl, hjB⟩ := hcut
      go_upto_region 12 with fail
      go_cut [100] from 91 to 100 (fun s100 wx => s100 = .bool B2 ∧ Hid (J w wx [(w.heap.size + 3, #[.int .i64 u, .int .i64 t]), (w.heap.size + 2, #[.int .i64 mo', .int .i64 md]), (w.heap.size + 1, #[.int .i64 o, .int .i64 d]), (w.heap.size, #[.int .i64 p, .int .i64 v, .int .i64 k])]))
      case first =>
        obtain ⟨l0, l1⟩ := (hjB.out.bx 2 rfl).c2
        rcases HW2.out with ⟨rfl, rfl⟩ | ⟨rfl, rfl, rfl⟩ | ⟨rfl, rfl, k6, rfl⟩ | ⟨rfl, rfl, k6, rfl⟩
        all_goals
          go_wp2_with fail
          go_meet
          first
            | exact ⟨rfl, hjB⟩
            | exact ⟨by simp [k6], hjB⟩
      case rest =>
        clear hjB HW2
        obtain ⟨rfl, hjC⟩ := hcut
        go_upto_if 100 with fail
        go_cut [23] from 100 to 100 (fun s23 wx => s23 = .int .i64 x ∧ Hid (J w wx [(w.heap.size + 3, #[.int .i64 u, .int .i64 t]), (w.heap.size + 2, #[.int .i64 mo', .int .i64 md]), (w.heap.size + 1, #[.int .i64 o, .int .i64 d]), (w.heap.size, #[.int .i64 p, .int .i64 v, .int .i64 k])]))
        case first =>
          rcases HX.out with ⟨rfl, rfl⟩ | ⟨rfl, rfl⟩
          all_goals
            go_wp2_with fail
            go_meet
            exact ⟨rfl, hjC⟩
        case rest =>
          clear hjC HX
          obtain ⟨rfl, hjD⟩ := hcut
          obtain ⟨g0, g1⟩ := (hjD.out.bx 0 rfl).c2
          obtain ⟨n0, n1⟩ := (hjD.out.bx 1 rfl).c2
          obtain ⟨l0, l1⟩ := (hjD.out.bx 2 rfl).c2
          go_upto_if 110 with (go_at_call 10; (with_reducible refine (HSt.out _).mono ?_); clear HSt g0 g1 n0 n1 l0 l1; rintro e w5 ⟨rfl, h5⟩; have hj5 := Lib.hid ((hjD.out.next h5).push #[.int .i64 sw', .int .i64 sT] 27); have hb5 := (hjD.out.next h5).below.size; clear h5 hjD; obtain ⟨g0, g1⟩ := (hj5.out.bx 1 rfl).c2; obtain ⟨n0, n1⟩ := (hj5.out.bx 2 rfl).c2; obtain ⟨l0, l1⟩ := (hj5.out.bx 3 rfl).c2)
          go_cut [25] from 106 to 120 (fun s25 wx => s25 = .int .i64 sw' ∧ Hid (J w wx [(w5.heap.size, #[.int .i64 sw', .int .i64 sT]), (w.heap.size + 3, #[.int .i64 u, .int .i64 t]), (w.heap.size + 2, #[.int .i64 mo', .int .i64 md]), (w.heap.size + 1, #[.int .i64 o, .int .i64 d]), (w.heap.size, #[.int .i64 p, .int .i64 v, .int .i64 k])]))
          case first =>
            rcases HSw.out with ⟨k5, rfl⟩ | ⟨k5, k6, rfl⟩ | ⟨k5, k6, rfl⟩
            all_goals
              go_wp2_with fail
              go_meet
              exact ⟨rfl, hj5⟩
          case rest =>
            clear hj5 HSw g0 g1 n0 n1 l0 l1
            obtain ⟨rfl, hjE⟩ := hcut
            obtain ⟨g0, g1⟩ := (hjE.out.bx 1 rfl).c2
            obtain ⟨n0, n1⟩ := (hjE.out.bx 2 rfl).c2
            go_upto_if 125 with fail
            go_cut [26] from 121 to 125 (fun s26 wx => s26 = .int .i64 sT ∧ Hid (J w wx [(w5.heap.size, #[.int .i64 sw', .int .i64 sT]), (w.heap.size + 3, #[.int .i64 u, .int .i64 t]), (w.heap.size + 2, #[.int .i64 mo', .int .i64 md]), (w.heap.size + 1, #[.int .i64 o, .int .i64 d]), (w.heap.size, #[.int .i64 p, .int .i64 v, .int .i64 k])]))
            case first =>
              rcases HST.out with ⟨k5, rfl⟩ | ⟨k5, rfl⟩
              all_goals
                go_wp2_with fail
                go_meet
                exact ⟨rfl, hjE⟩
            case rest =>
              clear hjE HST g0 g1 n0 n1
              obtain ⟨rfl, hjF⟩ := hcut
              obtain ⟨g0, g1⟩ := (hjF.out.bx 1 rfl).c2
              obtain ⟨l0, l1⟩ := (hjF.out.bx 3 rfl).c2
              go_upto_region 24 with (go_at_call 11; (with_reducible refine (HAg'.out _).mono ?_); clear HAg' g0 g1 l0 l1; rintro e w6 ⟨rfl, h6⟩; have hj6 := Lib.hid ((hjF.out.next h6).push #[.int .i64 au, .int .i64 at_] 27); clear h6 hjF; obtain ⟨g0, g1⟩ := (hj6.out.bx 2 rfl).c2; obtain ⟨l0, l1⟩ := (hj6.out.bx 4 rfl).c2)
              go_cut [29] from 134 to 152 (fun s29 wx => s29 = .bool B ∧ Hid (J w wx [(w6.heap.size, #[.int .i64 au, .int .i64 at_]), (w5.heap.size, #[.int .i64 sw', .int .i64 sT]), (w.heap.size + 3, #[.int .i64 u, .int .i64 t]), (w.heap.size + 2, #[.int .i64 mo', .int .i64 md]), (w.heap.size + 1, #[.int .i64 o, .int .i64 d]), (w.heap.size, #[.int .i64 p, .int .i64 v, .int .i64 k])]))
              case first =>
                rcases HB.out with ⟨rfl, rfl⟩ | ⟨rfl, k5, rfl⟩ | ⟨rfl, k5, k6, rfl⟩ | ⟨rfl, k5, k6, k7, rfl⟩ | ⟨rfl, k5, k6, k7, rfl⟩
                all_goals
                  go_wp2_with fail
                  go_meet
                  first
                    | exact ⟨rfl, hj6⟩
                    | exact ⟨by simp [k7], hj6⟩
                    | exact ⟨by simp [k6], hj6⟩
                    | exact ⟨by simp [k5], hj6⟩
              case rest =>
                clear hj6 HB g0 g1 l0 l1
                obtain ⟨rfl, hjG⟩ := hcut
                obtain ⟨g0, g1⟩ := (hjG.out.bx 2 rfl).c2
                go_upto_if 154 with fail
                have hjP := Lib.hid (hjG.out.push #[.int .i64 u, .int .i64 t] 27)
                go_cut [] from 153 to 158 (fun wx => Hid (J w wx [(wc.heap.size, #[.int .i64 au, .int .i64 at_]), (w6.heap.size, #[.int .i64 au, .int .i64 at_]), (w5.heap.size, #[.int .i64 sw', .int .i64 sT]), (w.heap.size + 3, #[.int .i64 u, .int .i64 t]), (w.heap.size + 2, #[.int .i64 mo', .int .i64 md]), (w.heap.size + 1, #[.int .i64 o, .int .i64 d]), (w.heap.size, #[.int .i64 p, .int .i64 v, .int .i64 k])]))
                case first =>
                  obtain ⟨b0, b1⟩ := (hjP.out.bx 0 rfl).c2
                  obtain ⟨f0, f1⟩ := (hjP.out.bx 0 rfl).f2
                  rcases HGG.out with ⟨rfl, rfl, rfl⟩ | ⟨rfl, rfl, rfl⟩
                  · go_wp2_with fail
                    go_meet
                    exact Lib.hid (hjG.out.push #[.int .i64 au, .int .i64 (t + 1)] 27)
                  · go_wp2_with fail
                    go_meet
                    exact hjP
                case rest =>
                  clear hjP hjG HGG g0 g1
                  have hjQ : Hid (JS w _ _) := hcut
                  clear hcut
                  have z1 : (x == x) = true := by simp
                  have z2 : (sw' == sw') = true := by simp
                  have z3 : (sT == sT) = true := by simp
                  have z4 : (B == B) = true := by simp
                  have z5 : (au == au) = true := by simp
                  have z6 : (at_ == at_) = true := by simp
                  have z7 : (R == R) = true := by simp
                  rcases HRd.out with ⟨k5, rfl⟩ | ⟨k5, k6⟩
                  all_goals
                    clear HRd
                    go_wp2_with fail
                    refine wp_region_all _ JS.closed hjQ.out (by kernel_rfl) (by kernel_rfl) ?_
                    apply Exists.intro
                    refine ⟨fun w9 h9 => ?_, fun W9 hJ9 hb9 => ?_⟩
                    · haveI := Ext.some h9
                      obtain ⟨q0, q1⟩ := ext2 h9 0 rfl
                      obtain ⟨q2, q3⟩ := ext2 h9 1 rfl
                      obtain ⟨q4, q5⟩ := ext2 h9 2 rfl
                      obtain ⟨q6, q7⟩ := ext2 h9 3 rfl
                      obtain ⟨q8, q9⟩ := ext2 h9 5 rfl
                      obtain ⟨q10, q11, q12⟩ := ext3 h9 6 rfl
                      have cW := Lib.hid (Ext.calls h9 JS.closed (fun W _ => HWh.out W))
                      have cR := Lib.hid (Ext.calls h9 JS.closed (fun W _ => HR.out W))
                      repeat go_big_quiet_step (first | (go_at_call 12; with_reducible exact cW.out _) | (go_at_call 13; with_reducible exact cR.out _))
                      exact wpQuiet_nil rfl
                    · go_wp2
                      go_ret
                      exact ⟨rfl, J.below hJ9⟩

end Go.Proofs.Ytaknnkmdfimcbaa.Walk
