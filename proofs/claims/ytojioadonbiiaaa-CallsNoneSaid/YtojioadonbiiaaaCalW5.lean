/- The walk of CallsNone. -/
import Derived.Test.YtojioadonbiiaaaCalK
import Derived.Test.YtojioadonbiiaaaCalT
import Derived.Deep.CutRange
import Derived.OpenShut
import Derived.LoopN
namespace Go.Proofs.Ytojioadonbiiaaa.Walk
open Go.RowKit Go.ChangeShapes Go.Proofs.Ytojioadonbiiaaa.Sees Go.Proofs.Ytojioadonbiiaaa.CalP Go.Proofs.Ytojioadonbiiaaa.Cal Go.Proofs.Ytojioadonbiiaaa.Box Go.Proofs.Ytojioadonbiiaaa.Held
set_option linter.unusedVariables false

theorem none_in (cars : Int) : ∃ n : Nat, n ≤ 64 ∧ ((cars = n ∧ n ≤ 64) ∨ (¬ (0 ≤ cars ∧ cars ≤ 64) ∧ n = 0)) := by
  by_cases h : 0 ≤ cars ∧ cars ≤ 64
  · exact ⟨cars.toNat, by omega, .inl ⟨by omega, by omega⟩⟩
  · exact ⟨0, by omega, .inr ⟨h, rfl⟩⟩
theorem isF_ways (f n : Int) : (f < 0 ∧ isF f n = false) ∨ (¬ f < 0 ∧ ¬ f < n ∧ isF f n = false) ∨ (¬ f < 0 ∧ f < n ∧ ¬ f < 32 ∧ isF f n = false) ∨ (¬ f < 0 ∧ f < n ∧ f < 32 ∧ isF f n = true) := by
  by_cases h0 : f < 0
  · exact .inl ⟨h0, isF_no.2 (by omega)⟩
  · by_cases h1 : f < n
    · by_cases h2 : f < 32
      · exact .inr (.inr (.inr ⟨h0, h1, h2, isF_iff.2 (by omega)⟩))
      · exact .inr (.inr (.inl ⟨h0, h1, h2, isF_no.2 (by omega)⟩))
    · exact .inr (.inl ⟨h0, h1, isF_no.2 (by omega)⟩)
theorem hasC_ways (n : Nat) (k : Int) : (k < 0 ∧ hasC n k = false) ∨ (¬ k < 0 ∧ ¬ k < n ∧ hasC n k = false) ∨ (¬ k < 0 ∧ k < n ∧ hasC n k = true) := by
  by_cases h0 : k < 0
  · exact .inl ⟨h0, hasC_no.2 (by omega)⟩
  · by_cases h1 : k < n
    · exact .inr (.inr ⟨h0, h1, hasC_iff.2 (by omega)⟩)
    · exact .inr (.inl ⟨h0, h1, hasC_no.2 (by omega)⟩)

set_option maxRecDepth 100000 in
set_option maxHeartbeats 6400000 in
theorem callsNone_walk (w : World) (cars kr floor floors pos : Int) (w0 : (Lit.int .i64 cars).wf = true) (w1 : (Lit.int .i64 kr).wf = true) (w2 : (Lit.int .i64 floor).wf = true) (w3 : (Lit.int .i64 floors).wf = true) (w4 : (Lit.int .u8 pos).wf = true) :
    Calls Try.prog 7 #[.int .i64 cars, .int .i64 kr, .int .i64 floor, .int .i64 floors, .int .u8 pos] w fun e w' => e = .returned (.bool true) ∧ Below w.heap.size w w' := by
  have hpo := bounds_u8 w4
  clear w0 w1 w2 w3 w4
  obtain ⟨n, hn64, hn⟩ := none_in cars
  have t1 : IntKind.i64.wrap pos = pos := IntWalk.i64_in _ (by omega)
  obtain ⟨p, hp⟩ : ∃ p, pos % 249 = p := ⟨_, rfl⟩
  have t2 : pos.tmod 249 = p := by rw [Int.tmod_eq_emod_of_nonneg (by omega)]; exact hp
  have hp' : 0 ≤ p ∧ p ≤ 248 := by omega
  have t3 : IntKind.i64.wrap p = p := IntWalk.i64_in _ (by omega)
  have HA : Hid (∀ W, Calls Try.prog 8 #[] W (Says W (.bool true))) := Lib.hid fun W => awake_any W
  have HN : Hid (∀ W, JS w [] W → Calls Try.prog 9 #[.int .i64 cars] W fun e W' => ∃ A bs, e = .returned (.agg #[.int .u32 0, .slice A n n]) ∧ Hid (JS w bs W') ∧ Hid (∀ V, JS w bs V → Sees V V.heap.size A (un (List.replicate n 0))) ∧ ∀ x ∈ bs, W.heap.size ≤ x.1) := Lib.hid fun W h => new_gs w n cars hn W h
  have hlast : (((n : Int) == cars) = true) ∨ (((n : Int) == cars) = false ∧ ((n : Int) == 0) = true) := by
    by_cases h : (n : Int) = cars
    · exact .inl (by simpa using h)
    · exact .inr ⟨by simpa using h, by rcases hn with ⟨h1, _⟩ | ⟨_, h2⟩ <;> simp <;> omega⟩
  have HL := Lib.hid hlast
  have HP := Lib.hid hp'
  clear hp hn hlast hpo
  go_enter Try.func7, Try.ntmps7
  go_upto_region 8 with (first
    | (go_at_call 8; (with_reducible refine (HA.out _).mono ?_); clear HA; rintro e w1 ⟨rfl, h1⟩; have hj1 : Hid (JS w [] w1) := Lib.hid ((J.start w).next h1); clear h1)
    | (go_at_call 9; (with_reducible refine (HN.out _ hj1.out).mono ?_); clear HN; rintro e w2 ⟨A, bs, rfl, hj2, hS, hge⟩; have hj3 : Hid (JS w _ _) := Lib.hid (J.push hj2.out #[.int .u32 0, .slice A n n] 27)))
  have hX : w.heap.size ≤ w2.heap.size := hj2.out.below.size
  have HX := Lib.hid hX
  obtain ⟨BS, hBS⟩ : ∃ BS, BS = (w2.heap.size, #[Value.int .u32 0, Value.slice A n n]) :: bs := ⟨_, rfl⟩
  have hj : Hid (JS w BS _) := hBS ▸ hj3
  have hB0 : Hid (BS[0]? = some (w2.heap.size, #[Value.int .u32 0, Value.slice A n n])) := Lib.hid (by rw [hBS]; rfl)
  have hsub : ∀ W, JS w BS W → Sees W W.heap.size A (un (c0 n).l) := fun W h => hS.out W (js_less (hBS ▸ h))
  clear hBS hj3 hj2 hj1 hS hge hX
  -- what is told, whatever has been made
  have HNX : Hid (∀ (k : Int) W, JS w BS W → Calls Try.prog 16 #[.agg #[.int .u32 0, .slice A n n], .int .i64 k, .int .i64 p, .int .u32 4294967295] W (Says W (.int .i64 (-1)))) := Lib.hid fun k => next_gs (c0_ok n) (c0_len n) hsub k p HP.out 4294967295 (by decide) (c0_nx n k p _)
  obtain ⟨d, hd⟩ : ∃ d, hall (c0 n) floor floors = d := ⟨_, rfl⟩
  obtain ⟨e, he⟩ : ∃ e, car (c0 n) kr floor floors = e := ⟨_, rfl⟩
  obtain ⟨f, hf⟩ : ∃ f, dn (c0 n) kr floor true = f := ⟨_, rfl⟩
  have hcok : carOk (c0 n) kr floor floors = (hasC n kr && isF floor floors) := by unfold carOk; rw [c0_len]
  have md := c0_hall n floor floors
  have me := c0_car n kr floor floors
  have mf := c0_dn n kr floor true
  rw [hd] at md
  rw [he, hcok] at me
  rw [hf] at mf
  have od : d.Ok := hd ▸ hall_ok (c0_ok n) _ _
  have oe : e.Ok := he ▸ car_ok (c0_ok n) _ _ _
  have of : f.Ok := hf ▸ dn_ok (c0_ok n) _ _ _
  have ld : d.l.length = n := by rw [← hd, hall_l, c0_len]
  have le : e.l.length = n := by rw [← he, car_len, c0_len]
  have lf : f.l.length = n := by rw [← hf, dn_len, c0_len]
  have HFW := Lib.hid (isF_ways floor floors)
  have HCW := Lib.hid (hasC_ways n kr)
  obtain ⟨I, hI⟩ : ∃ I, isF floor floors = I := ⟨_, rfl⟩
  obtain ⟨T, hT⟩ : ∃ T, hasC n kr = T := ⟨_, rfl⟩
  rw [hI] at HFW hcok md me
  rw [hT] at HCW hcok me
  have HH : Hid (∀ bs', (∀ W, JS w bs' W → JS w BS W) → ∀ W, JS w bs' W → Calls Try.prog 11 #[.agg #[.int .u32 0, .slice A n n], .int .i64 floor, .int .i64 floors] W (Pair w W bs' d n I)) := Lib.hid fun bs' sub => hall_gs (c0_ok n) (c0_len n) (by omega) (fun W h => hsub W (sub W h)) floor floors hd hI
  have HCR : Hid (∀ bs', (∀ W, JS w bs' W → JS w BS W) → ∀ W, JS w bs' W → Calls Try.prog 12 #[.agg #[.int .u32 0, .slice A n n], .int .i64 kr, .int .i64 floor, .int .i64 floors] W (Pair w W bs' e n (T && I))) := Lib.hid fun bs' sub => car_gs (c0_ok n) (c0_len n) (by omega) (fun W h => hsub W (sub W h)) kr floor floors he hcok
  have HDN : Hid (∀ bs', (∀ W, JS w bs' W → JS w BS W) → ∀ W, JS w bs' W → Calls Try.prog 14 #[.agg #[.int .u32 0, .slice A n n], .int .i64 kr, .int .i64 floor, .bool true] W (Sole w W bs' f n)) := Lib.hid fun bs' sub => done_gs (c0_ok n) (c0_len n) (by omega) (fun W h => hsub W (sub W h)) kr floor true hf
  have HMC : Hid (∀ bs', (∀ W, JS w bs' W → JS w BS W) → ∀ W, JS w bs' W → Calls Try.prog 18 #[.agg #[.int .u32 0, .slice A n n]] W (Says W (.int .i64 0))) := Lib.hid fun bs' sub => many_gs (c0_ok n) (c0_len n) (by omega) (fun W h => hsub W (sub W h)) (c0_mn n)
  have HMF : Hid (∀ R bs W, JS w ((R, (un f.l).toArray) :: bs) W → Calls Try.prog 18 #[.agg #[.int .u32 f.h, .slice (some ⟨R, 0, none⟩) n n]] W (Says W (.int .i64 0))) := Lib.hid fun R bs => many_js of lf (by omega) 0 rfl mf
  have HOK := Lib.hid (And.intro od (And.intro oe (And.intro ld (And.intro le (And.intro md me)))))
  clear hd he hf hcok md me mf od oe of ld le lf hI hT hsub hp'
  obtain ⟨d0, d1⟩ := (JS.bx hj.out 0 hB0.out).c2
  go_wp2
  go_loopw [15] (fun x wr => ∃ i : Int, x = .int .i64 i ∧ -1 ≤ i ∧ i ≤ n + 1 ∧ Hid (JS w BS wr)) (fun x _ => ((n : Int) + 1 - intOf x).toNat)
  case atStart => exact ⟨-1, rfl, by omega, by omega, hj⟩
  case round =>
    clear hj d0 d1
    obtain ⟨i, rfl, hi1, hi2, hM⟩ := hrel
    obtain ⟨d0, d1⟩ := (JS.bx hM.out 0 hB0.out).c2
    by_cases hlt : i ≤ n
    · have HX1 := Lib.hid (HNX.out i)
      have e1 : IntKind.i64.wrap (i + 1) = i + 1 := IntWalk.i64_in _ (by omega)
      clear HNX HH HCR HDN HMC HMF HOK HFW HCW HL
      go_wp2_with (go_at_call 16; (with_reducible refine (HX1.out _ hM.out).mono ?_); rintro e' w3 ⟨rfl, h3⟩; have hM3 := Lib.hid (JS.closed _ _ hM.out h3); clear h3)
      go_roundw
      case rel => exact ⟨i + 1, rfl, by omega, by omega, hM3⟩
      case measure => simp [intOf]; omega
    · clear HNX
      go_upto_region 12 with fail
      go_cut [16] from 43 to 53 (fun s16 wx => s16 = .bool I ∧ Hid (JS w BS wx))
      case first =>
        rcases HFW.out with ⟨k1, rfl⟩ | ⟨k1, k2, rfl⟩ | ⟨k1, k2, k3, rfl⟩ | ⟨k1, k2, k3, rfl⟩
        all_goals
          go_wp2_with fail
          go_meet
          first
            | exact ⟨rfl, hM⟩
            | exact ⟨by simp [k3], hM⟩
      case rest =>
        clear hM d0 d1 HFW
        obtain ⟨rfl, hA⟩ := hcut
        obtain ⟨d0, d1⟩ := (JS.bx hA.out 0 hB0.out).c2
        go_upto_region 15 with (first
          | (go_at_call 11; (with_reducible refine (HH.out _ (fun W h => h) _ hA.out).mono ?_); rintro e' w4 ⟨R1, hR1, rfl, hj5⟩; have hj6 : Hid (JS w _ _) := Lib.hid (J.push hj5.out #[.int .u32 d.h, .slice (some ⟨R1, 0, none⟩) n n] 27); obtain ⟨f0, f1⟩ := (JS.bx hj6.out 2 hB0.out).c2; clear hj5 hR1 HH hA d0 d1)
          | (go_at_call 12; (with_reducible refine (HCR.out _ (fun W h => js_less (js_less h)) _ hj6.out).mono ?_); rintro e' w5 ⟨R2, hR2, rfl, hj7⟩; have hj8 : Hid (JS w _ _) := Lib.hid (J.push hj7.out #[.int .u32 e.h, .slice (some ⟨R2, 0, none⟩) n n] 27); clear hj7 hR2 HCR hj6 f0 f1))
        obtain ⟨BT, hBT⟩ : ∃ BT, BT = (w5.heap.size, #[Value.int .u32 e.h, Value.slice (some ⟨R2, 0, none⟩) n n]) :: (R2, (un e.l).toArray) :: (w4.heap.size, #[Value.int .u32 d.h, Value.slice (some ⟨R1, 0, none⟩) n n]) :: (R1, (un d.l).toArray) :: BS := ⟨_, rfl⟩
        have hj : Hid (JS w BT _) := hBT ▸ hj8
        have hT0 : BT[0]? = some (w5.heap.size, #[Value.int .u32 e.h, Value.slice (some ⟨R2, 0, none⟩) n n]) := by rw [hBT]; rfl
        have hT1 : BT[1]? = some (R2, (un e.l).toArray) := by rw [hBT]; rfl
        have hT2 : BT[2]? = some (w4.heap.size, #[Value.int .u32 d.h, Value.slice (some ⟨R1, 0, none⟩) n n]) := by rw [hBT]; rfl
        have hT3 : BT[3]? = some (R1, (un d.l).toArray) := by rw [hBT]; rfl
        have hT4 : BT[4]? = some (w2.heap.size, #[Value.int .u32 0, Value.slice A n n]) := by rw [hBT]; exact hB0.out
        have hsub2 : ∀ W, JS w BT W → JS w BS W := fun W h => js_less (js_less (js_less (js_less (hBT ▸ h))))
        have HME : Hid (∀ W, JS w BT W → Calls Try.prog 18 #[.agg #[.int .u32 e.h, .slice (some ⟨R2, 0, none⟩) n n]] W (Says W (.int .i64 (mn e : Nat)))) := Lib.hid (many_js HOK.out.2.1 HOK.out.2.2.2.1 (by omega) 1 hT1 rfl)
        have HMD : Hid (∀ W, JS w BT W → Calls Try.prog 18 #[.agg #[.int .u32 d.h, .slice (some ⟨R1, 0, none⟩) n n]] W (Says W (.int .i64 (mn d : Nat)))) := Lib.hid (many_js HOK.out.1 HOK.out.2.2.1 (by omega) 3 hT3 rfl)
        rw [HOK.out.2.2.2.2.1] at HMD
        rw [HOK.out.2.2.2.2.2] at HME
        have HT := Lib.hid (And.intro hT0 (And.intro hT2 hT4))
        have HDN2 := Lib.hid (HDN.out BT hsub2)
        have HMC2 := Lib.hid (HMC.out BT hsub2)
        have HMF2 := Lib.hid (fun R => HMF.out R BT)
        clear hBT hj8 hT0 hT1 hT2 hT3 hT4 hsub2 HDN HMC HMF HOK
        go_cut [21] from 69 to 75 (fun s21 wx => s21 = .bool T ∧ Hid (JS w BT wx))
        case first =>
          rcases HCW.out with ⟨k1, rfl⟩ | ⟨k1, k2, rfl⟩ | ⟨k1, k2, rfl⟩
          all_goals
            go_wp2_with fail
            go_meet
            first
              | exact ⟨rfl, hj⟩
              | exact ⟨by simp [k2], hj⟩
        case rest =>
          clear hj HCW
          obtain ⟨rfl, hj⟩ := hcut
          obtain ⟨c0', c1'⟩ := (JS.bx hj.out 0 HT.out.1).c2
          obtain ⟨g0, g1⟩ := (JS.bx hj.out 2 HT.out.2.1).c2
          obtain ⟨l0, l1⟩ := (JS.bx hj.out 4 HT.out.2.2).c2
          cases I
          · rw [Bool.and_false] at HME
            rw [if_neg (by decide)] at HMD HME
            go_upto_region 18 with (first
              | (go_at_call 18; (with_reducible refine (HMD.out _ hj.out).mono ?_); rintro e' w6 ⟨rfl, h6⟩; replace hj := Lib.hid (JS.closed _ _ hj.out h6); clear h6; replace c0' := (JS.bx hj.out 0 HT.out.1).c2.1; replace c1' := (JS.bx hj.out 0 HT.out.1).c2.2; replace g0 := (JS.bx hj.out 2 HT.out.2.1).c2.1; replace g1 := (JS.bx hj.out 2 HT.out.2.1).c2.2; replace l0 := (JS.bx hj.out 4 HT.out.2.2).c2.1; replace l1 := (JS.bx hj.out 4 HT.out.2.2).c2.2)
              | (go_at_call 18; (with_reducible refine (HME.out _ hj.out).mono ?_); rintro e' w6 ⟨rfl, h6⟩; replace hj := Lib.hid (JS.closed _ _ hj.out h6); clear h6; replace c0' := (JS.bx hj.out 0 HT.out.1).c2.1; replace c1' := (JS.bx hj.out 0 HT.out.1).c2.2; replace g0 := (JS.bx hj.out 2 HT.out.2.1).c2.1; replace g1 := (JS.bx hj.out 2 HT.out.2.1).c2.2; replace l0 := (JS.bx hj.out 4 HT.out.2.2).c2.1; replace l1 := (JS.bx hj.out 4 HT.out.2.2).c2.2))
            clear HMD HME
            have i64' : (n : Int) ≤ 64 := by omega
            rcases HL.out with h | ⟨h, h0⟩
            all_goals
              go_wp2_with (first
                | (go_at_call 18; (with_reducible refine (HMC2.out _ hj.out).mono ?_); rintro e' w6 ⟨rfl, h6⟩; replace hj := Lib.hid (JS.closed _ _ hj.out h6); clear h6; replace c0' := (JS.bx hj.out 0 HT.out.1).c2.1; replace c1' := (JS.bx hj.out 0 HT.out.1).c2.2; replace g0 := (JS.bx hj.out 2 HT.out.2.1).c2.1; replace g1 := (JS.bx hj.out 2 HT.out.2.1).c2.2; replace l0 := (JS.bx hj.out 4 HT.out.2.2).c2.1; replace l1 := (JS.bx hj.out 4 HT.out.2.2).c2.2)
                | (go_at_call 14; (with_reducible refine (HDN2.out _ hj.out).mono ?_); rintro e' w7 ⟨R3, hR3, rfl, hj9⟩; clear hR3)
                | (go_at_call 18; (with_reducible refine (HMF2.out _ _ hj9.out).mono ?_); rintro e' w8 ⟨rfl, h8⟩; have hb8 := Lib.hid (JS.closed _ _ hj9.out h8); clear h8))
              go_ret
              exact ⟨ret_bool (by simp [*]), J.below hb8.out⟩
          · rw [Bool.and_true] at HME
            rw [if_pos rfl] at HMD
            cases T
            · rw [if_neg (by decide)] at HME
              go_upto_region 18 with (first
                | (go_at_call 18; (with_reducible refine (HMD.out _ hj.out).mono ?_); rintro e' w6 ⟨rfl, h6⟩; replace hj := Lib.hid (JS.closed _ _ hj.out h6); clear h6; replace c0' := (JS.bx hj.out 0 HT.out.1).c2.1; replace c1' := (JS.bx hj.out 0 HT.out.1).c2.2; replace g0 := (JS.bx hj.out 2 HT.out.2.1).c2.1; replace g1 := (JS.bx hj.out 2 HT.out.2.1).c2.2; replace l0 := (JS.bx hj.out 4 HT.out.2.2).c2.1; replace l1 := (JS.bx hj.out 4 HT.out.2.2).c2.2)
                | (go_at_call 18; (with_reducible refine (HME.out _ hj.out).mono ?_); rintro e' w6 ⟨rfl, h6⟩; replace hj := Lib.hid (JS.closed _ _ hj.out h6); clear h6; replace c0' := (JS.bx hj.out 0 HT.out.1).c2.1; replace c1' := (JS.bx hj.out 0 HT.out.1).c2.2; replace g0 := (JS.bx hj.out 2 HT.out.2.1).c2.1; replace g1 := (JS.bx hj.out 2 HT.out.2.1).c2.2; replace l0 := (JS.bx hj.out 4 HT.out.2.2).c2.1; replace l1 := (JS.bx hj.out 4 HT.out.2.2).c2.2))
              clear HMD HME
              have i64' : (n : Int) ≤ 64 := by omega
              rcases HL.out with h | ⟨h, h0⟩
              all_goals
                go_wp2_with (first
                  | (go_at_call 18; (with_reducible refine (HMC2.out _ hj.out).mono ?_); rintro e' w6 ⟨rfl, h6⟩; replace hj := Lib.hid (JS.closed _ _ hj.out h6); clear h6; replace c0' := (JS.bx hj.out 0 HT.out.1).c2.1; replace c1' := (JS.bx hj.out 0 HT.out.1).c2.2; replace g0 := (JS.bx hj.out 2 HT.out.2.1).c2.1; replace g1 := (JS.bx hj.out 2 HT.out.2.1).c2.2; replace l0 := (JS.bx hj.out 4 HT.out.2.2).c2.1; replace l1 := (JS.bx hj.out 4 HT.out.2.2).c2.2)
                  | (go_at_call 14; (with_reducible refine (HDN2.out _ hj.out).mono ?_); rintro e' w7 ⟨R3, hR3, rfl, hj9⟩; clear hR3)
                  | (go_at_call 18; (with_reducible refine (HMF2.out _ _ hj9.out).mono ?_); rintro e' w8 ⟨rfl, h8⟩; have hb8 := Lib.hid (JS.closed _ _ hj9.out h8); clear h8))
                go_ret
                exact ⟨ret_bool (by simp [*]), J.below hb8.out⟩
            · rw [if_pos rfl] at HME
              go_upto_region 18 with (first
                | (go_at_call 18; (with_reducible refine (HMD.out _ hj.out).mono ?_); rintro e' w6 ⟨rfl, h6⟩; replace hj := Lib.hid (JS.closed _ _ hj.out h6); clear h6; replace c0' := (JS.bx hj.out 0 HT.out.1).c2.1; replace c1' := (JS.bx hj.out 0 HT.out.1).c2.2; replace g0 := (JS.bx hj.out 2 HT.out.2.1).c2.1; replace g1 := (JS.bx hj.out 2 HT.out.2.1).c2.2; replace l0 := (JS.bx hj.out 4 HT.out.2.2).c2.1; replace l1 := (JS.bx hj.out 4 HT.out.2.2).c2.2)
                | (go_at_call 18; (with_reducible refine (HME.out _ hj.out).mono ?_); rintro e' w6 ⟨rfl, h6⟩; replace hj := Lib.hid (JS.closed _ _ hj.out h6); clear h6; replace c0' := (JS.bx hj.out 0 HT.out.1).c2.1; replace c1' := (JS.bx hj.out 0 HT.out.1).c2.2; replace g0 := (JS.bx hj.out 2 HT.out.2.1).c2.1; replace g1 := (JS.bx hj.out 2 HT.out.2.1).c2.2; replace l0 := (JS.bx hj.out 4 HT.out.2.2).c2.1; replace l1 := (JS.bx hj.out 4 HT.out.2.2).c2.2))
              clear HMD HME
              have i64' : (n : Int) ≤ 64 := by omega
              rcases HL.out with h | ⟨h, h0⟩
              all_goals
                go_wp2_with (first
                  | (go_at_call 18; (with_reducible refine (HMC2.out _ hj.out).mono ?_); rintro e' w6 ⟨rfl, h6⟩; replace hj := Lib.hid (JS.closed _ _ hj.out h6); clear h6; replace c0' := (JS.bx hj.out 0 HT.out.1).c2.1; replace c1' := (JS.bx hj.out 0 HT.out.1).c2.2; replace g0 := (JS.bx hj.out 2 HT.out.2.1).c2.1; replace g1 := (JS.bx hj.out 2 HT.out.2.1).c2.2; replace l0 := (JS.bx hj.out 4 HT.out.2.2).c2.1; replace l1 := (JS.bx hj.out 4 HT.out.2.2).c2.2)
                  | (go_at_call 14; (with_reducible refine (HDN2.out _ hj.out).mono ?_); rintro e' w7 ⟨R3, hR3, rfl, hj9⟩; clear hR3)
                  | (go_at_call 18; (with_reducible refine (HMF2.out _ _ hj9.out).mono ?_); rintro e' w8 ⟨rfl, h8⟩; have hb8 := Lib.hid (JS.closed _ _ hj9.out h8); clear h8))
                go_ret
                exact ⟨ret_bool (by simp [*]), J.below hb8.out⟩
end Go.Proofs.Ytojioadonbiiaaa.Walk
