/- The walk of CallsPlay. -/
import Derived.Test.YtojioadonbiiaaaCalV
import Derived.Deep.CutBlock
import Derived.OpenShut
import Derived.LoopN
namespace Go.Proofs.Ytojioadonbiiaaa.Walk
open Go.RowKit Go.ChangeShapes Go.Proofs.Ytojioadonbiiaaa.Open Go.Proofs.Ytojioadonbiiaaa.Sees Go.Proofs.Ytojioadonbiiaaa.CalP Go.Proofs.Ytojioadonbiiaaa.Cal Go.Proofs.Ytojioadonbiiaaa.Box Go.Proofs.Ytojioadonbiiaaa.Held
set_option linter.unusedVariables false

theorem none_in (cars : Int) : ∃ n : Nat, n ≤ 64 ∧ ((cars = n ∧ n ≤ 64) ∨ (¬ (0 ≤ cars ∧ cars ≤ 64) ∧ n = 0)) := by
  by_cases h : 0 ≤ cars ∧ cars ≤ 64
  · exact ⟨cars.toNat, by omega, .inl ⟨by omega, by omega⟩⟩
  · exact ⟨0, by omega, .inr ⟨h, rfl⟩⟩
theorem none_ways {cars : Int} {n : Nat} (h : (cars = n ∧ n ≤ 64) ∨ (¬ (0 ≤ cars ∧ cars ≤ 64) ∧ n = 0)) : (cars < 0 ∧ n = 0) ∨ (¬ cars < 0 ∧ 64 < cars ∧ n = 0) ∨ (¬ cars < 0 ∧ ¬ 64 < cars ∧ cars = n) := by
  rcases h with ⟨h1, h2⟩ | ⟨h1, h2⟩
  · exact .inr (.inr ⟨by omega, by omega, h1⟩)
  · by_cases h3 : cars < 0
    · exact .inl ⟨h3, h2⟩
    · exact .inr (.inl ⟨h3, by omega, h2⟩)
theorem has_ways (n : Nat) (k : Int) : (k < 0 ∧ hasC n k = false) ∨ (¬ k < 0 ∧ ¬ k < n ∧ hasC n k = false) ∨ (¬ k < 0 ∧ k < n ∧ hasC n k = true) := by
  by_cases h0 : k < 0
  · exact .inl ⟨h0, hasC_no.2 (by omega)⟩
  · by_cases h1 : k < n
    · exact .inr (.inr ⟨h0, h1, hasC_iff.2 (by omega)⟩)
    · exact .inr (.inl ⟨h0, h1, hasC_no.2 (by omega)⟩)

set_option maxRecDepth 100000 in
set_option maxHeartbeats 12800000 in
theorem callsPlay_walk (w : World) (cars floors : Int) (A0 : Option Addr) (len cap : Nat) (z : List CAc) (pos halls : Int) (w0 : (Lit.int .i64 cars).wf = true) (w1 : (Lit.int .i64 floors).wf = true)
    (hl : z.length = len) (hcp : len ≤ cap) (hcx : cap ≤ maxLen) (hs : Sees w w.heap.size A0 (cAcs z)) (w3 : (Lit.int .u8 pos).wf = true) (w4 : (Lit.int .u32 halls).wf = true) :
    Calls Try.prog 3 #[.int .i64 cars, .int .i64 floors, .slice A0 len cap, .int .u8 pos, .int .u32 halls] w fun e w' => e = .returned (.bool true) ∧ Below w.heap.size w w' := by
  have hpo := bounds_u8 w3
  have hha := bounds_u32 w4
  clear w0 w1 w3 w4 hcp hcx
  have HA : Hid (∀ W, Calls Try.prog 8 #[] W (Says W (.bool true))) := Lib.hid fun W => awake_any W
  by_cases h150 : 150 < len
  · have i1 : (150 : Int) < (len : Int) := by omega
    clear hs hl
    go_enter Try.func3, Try.ntmps3
    go_wp2_with (go_at_call 8; (with_reducible refine (HA.out _).mono ?_); clear HA; rintro e w1 ⟨rfl, h1⟩)
    go_ret
    exact ⟨rfl, h1⟩
  · have i1 : ¬ (150 : Int) < (len : Int) := by omega
    obtain ⟨q, rfl⟩ : ∃ q : Nat, halls = q := ⟨halls.toNat, by omega⟩
    obtain ⟨n, hn64, hn⟩ := none_in cars
    have t1 : IntKind.i64.wrap pos = pos := IntWalk.i64_in _ (by omega)
    obtain ⟨p, hp⟩ : ∃ p, pos % 249 = p := ⟨_, rfl⟩
    have t2 : pos.tmod 249 = p := by rw [Int.tmod_eq_emod_of_nonneg (by omega)]; exact hp
    have t3 : IntKind.i64.wrap p = p := IntWalk.i64_in _ (by omega)
    have HP : Hid ((0 ≤ p ∧ p ≤ 248) ∧ q < 4294967296) := Lib.hid ⟨by omega, by omega⟩
    have hmk : ∀ W, (Instr.makeSlice 25 (.int .i64 (n : Int)) (.int .i64 (n : Int))).run Try.prog W = .ok (.slice (some ⟨W.heap.size, 0, none⟩) n n) (W.alloc (.cells (un (List.replicate n 0)).toArray 23)) := fun W => by
      rw [← made_un]
      exact run_make_row' (P := Try.prog) 25 23 (.int .u32 0) 4 Try.underlying25 info_u32 rfl .i64 .i64 n (by omega) (by omega) W
    have HN : Hid (∀ W, Calls Try.prog 9 #[.int .i64 cars] W fun e W' => ∃ A, e = .returned (.agg #[.int .u32 0, .slice A n n]) ∧ Below W.heap.size W W' ∧ (List.replicate n 0 = [] ∨ ∃ b, A = some ⟨b, 0, none⟩ ∧ Bx W' b (un (List.replicate n 0)).toArray)) := Lib.hid fun W => new_row n cars hn W
    have hways : ∃ OUT : Bool, ((cars < 0 ∧ OUT = true) ∨ (¬ cars < 0 ∧ 64 < cars ∧ OUT = true) ∨ (¬ cars < 0 ∧ ¬ 64 < cars ∧ OUT = false)) ∧ ((OUT = true ∧ n = 0) ∨ (OUT = false ∧ cars = n)) := by
      rcases none_ways hn with ⟨h1, h2⟩ | ⟨h1, h2, h3⟩ | ⟨h1, h2, h3⟩
      · exact ⟨true, .inl ⟨h1, rfl⟩, .inl ⟨rfl, h2⟩⟩
      · exact ⟨true, .inr (.inl ⟨h1, h2, rfl⟩), .inl ⟨rfl, h3⟩⟩
      · exact ⟨false, .inr (.inr ⟨h1, h2, rfl⟩), .inr ⟨rfl, h3⟩⟩
    obtain ⟨OUT, hnw, hout⟩ := hways
    have HNW := Lib.hid hnw
    have HOUT := Lib.hid hout
    clear hnw hout
    have HS := Lib.hid hs
    have HL := Lib.hid hl
    clear hs hl hn hp hpo hha
    generalize hrep : (un (List.replicate n 0)).toArray = rep at hmk
    have HREP := Lib.hid hrep
    clear hrep
    go_enter Try.func3, Try.ntmps3
    go_upto_region 8 with (first
      | (go_at_call 8; (with_reducible refine (HA.out _).mono ?_); clear HA; rintro e w1 ⟨rfl, h1⟩; have hb1 : Hid (Below w.heap.size w w1) := Lib.hid h1; clear h1)
      | (go_at_call 9; (with_reducible refine (HN.out _).mono ?_); clear HN; rintro e w2 ⟨A, rfl, h2, hrow⟩; have hb2 := Lib.hid (below_more hb1.out h2 (Nat.le_refl _)); clear h2; have HROW := Lib.hid hrow; clear hrow hb1))
    have HQ : Hid (Below w.heap.size w (w2.alloc (.cells #[.int .u32 0, .slice A n n] 27)) ∧ Bx (w2.alloc (.cells #[.int .u32 0, .slice A n n] 27)) w2.heap.size #[.int .u32 0, .slice A n n] ∧ (List.replicate n 0 = [] ∨ ∃ b, A = some ⟨b, 0, none⟩ ∧ b ≠ w2.heap.size ∧ Bx (w2.alloc (.cells #[.int .u32 0, .slice A n n] 27)) b (un (List.replicate n 0)).toArray)) := Lib.hid ⟨below_more hb2.out below_box (Nat.le_refl _), Bx.new _ _ _, HROW.out.imp id fun ⟨b, h1, h2⟩ => ⟨b, h1, Nat.ne_of_lt h2.lt, h2.alloc _⟩⟩
    have hX := Lib.hid hb2.out.size
    clear hb2 HROW
    go_cut [45] from 40 to 45 (fun s45 wx => s45 = .bool OUT ∧ Hid (Below w.heap.size w wx ∧ Bx wx w2.heap.size #[.int .u32 0, .slice A n n] ∧ (List.replicate n 0 = [] ∨ ∃ b, A = some ⟨b, 0, none⟩ ∧ b ≠ w2.heap.size ∧ Bx wx b (un (List.replicate n 0)).toArray)))
    case first =>
      rcases HNW.out with ⟨k1, rfl⟩ | ⟨k1, k2, rfl⟩ | ⟨k1, k2, rfl⟩
      all_goals
        go_wp2_with fail
        go_meet
        first
          | exact ⟨rfl, HQ⟩
          | exact ⟨by simp [k1, k2]; done, HQ⟩
          | exact ⟨by simp; omega, HQ⟩
    case rest =>
     clear HQ HNW
     obtain ⟨rfl, HQ⟩ := hcut
     rename World => w3
     go_upto_if 45 with fail
     go_cut [13] from 45 to 45 (fun s13 wx => s13 = .int .i64 n ∧ Hid (Below w.heap.size w wx ∧ Bx wx w2.heap.size #[.int .u32 0, .slice A n n] ∧ (List.replicate n 0 = [] ∨ ∃ b, A = some ⟨b, 0, none⟩ ∧ b ≠ w2.heap.size ∧ Bx wx b (un (List.replicate n 0)).toArray)))
     case first =>
      rcases HOUT.out with ⟨rfl, k2⟩ | ⟨rfl, k2⟩
      all_goals
        have K2 := Lib.hid k2
        clear k2 HOUT
        go_wp2_with fail
        go_meet
        first
          | exact ⟨by rw [K2.out]; rfl, HQ⟩
          | exact ⟨by rw [K2.out], HQ⟩
     case rest =>
      clear HQ HOUT
      obtain ⟨rfl, HQ⟩ := hcut
      rename World => w3
      have hPS : Hid (PS w w2.heap.size w3.heap.size n 0 (List.replicate n 0) (List.replicate n 0) A (w3.alloc (.cells rep 23))) := Lib.hid ⟨below_more HQ.out.1 below_box (Nat.le_refl _), hX.out, HQ.out.1.size, Nat.ne_of_lt HQ.out.2.1.lt, HQ.out.2.1.alloc _, by rw [← HREP.out]; exact Bx.new _ _ _, HQ.out.2.2.imp id fun ⟨b, h1, h2, h3⟩ => ⟨b, h1, h2, Nat.ne_of_lt h3.lt, h3.alloc _⟩⟩
      clear HQ
      go_upto_region 14 with fail
      have hZ : Hid ((c0 n).Ok ∧ (c0 n).l.length = n) := Lib.hid ⟨c0_ok n, c0_len n⟩
      go_loopw [15, 17] (fun s15 s17 wr => ∃ (i : Nat) (c : C) (A : Option Addr), s15 = .int .u32 c.h ∧ s17 = .int .i64 i ∧ i ≤ len ∧ Hid (c.Ok ∧ c.l.length = n) ∧ Hid (PS w w2.heap.size w3.heap.size n c.h c.l c.l A wr)) (fun _ s17 _ => len - (intOf s17).toNat)
      case atStart => exact ⟨0, c0 n, A, rfl, rfl, Nat.zero_le _, hZ, hPS⟩
      case round =>
        clear hPS hmk HREP t2 t3 t1
        obtain ⟨i, c, A, rfl, rfl, hi, HCO, hM⟩ := hrel
        by_cases hlt : i < len
        · obtain ⟨ac, hac⟩ : ∃ ac, z[i]? = some ac := ⟨_, List.getElem?_eq_getElem (by rw [HL.out]; exact hlt)⟩
          obtain ⟨bl, of, rfl, hbl, k0, k1, k2, k3⟩ := cAc_cells HS.out i ac hac
          have j0 := (hM.out.below.cell (p := ⟨bl, of + i * 4, none⟩) hbl).trans k0
          have j1 := (hM.out.below.cell (p := ⟨bl, of + i * 4 + 1, none⟩) hbl).trans k1
          have j2 := (hM.out.below.cell (p := ⟨bl, of + i * 4 + 2, none⟩) hbl).trans k2
          have j3 := (hM.out.below.cell (p := ⟨bl, of + i * 4 + 3, none⟩) hbl).trans k3
          have i3 : (i : Int) < (len : Int) := by omega
          have e1 : IntKind.i64.wrap ((i : Int) + 1) = ((i + 1 : Nat) : Int) := by rw [IntWalk.i64_in _ (by omega)]; rfl
          obtain ⟨kk, kc, kf, kh⟩ := ac
          simp only at j0 j1 j2 j3
          have HI3 := Lib.hid (And.intro i3 e1)
          clear k0 k1 k2 k3 hac hbl
          obtain ⟨T, hT⟩ : ∃ T, hasC n kc = T := ⟨_, rfl⟩
          have HTW := Lib.hid (has_ways n kc)
          rw [hT] at HTW
          have HT := Lib.hid hT
          clear hT
          have HPA : Hid (PS w w2.heap.size w3.heap.size n c.h c.l c.l A (wr.alloc (.cells #[.int .i64 kk, .int .i64 kc, .int .i64 kf, .bool kh] 30)) ∧ Bx (wr.alloc (.cells #[.int .i64 kk, .int .i64 kc, .int .i64 kf, .bool kh] 30)) wr.heap.size #[.int .i64 kk, .int .i64 kc, .int .i64 kf, .bool kh]) := Lib.hid ⟨hM.out.alloc _, Bx.new _ _ _⟩
          have HDX := Lib.hid (And.intro (Nat.ne_of_gt hM.out.box.lt) (Nat.ne_of_gt hM.out.own.lt))
          clear hM
          go_upto_region 17 with fail
          clear j0 j1 j2 j3
          go_cut [19] from 61 to 69 (fun s19 wx => s19 = .bool T ∧ Hid (PS w w2.heap.size w3.heap.size n c.h c.l c.l A wx ∧ Bx wx wr.heap.size #[.int .i64 kk, .int .i64 kc, .int .i64 kf, .bool kh]))
          case first =>
            obtain ⟨q0, q1, q2, q3⟩ := HPA.out.2.c4
            rcases HTW.out with ⟨k1, rfl⟩ | ⟨k1, k2, rfl⟩ | ⟨k1, k2, rfl⟩
            all_goals
              go_wp2_with fail
              go_meet
              first
                | exact ⟨rfl, HPA⟩
                | exact ⟨by simp [k2], HPA⟩
          case rest =>
            clear HPA HTW
            obtain ⟨rfl, HPA⟩ := hcut
            rename World => w4
            obtain ⟨c', hc'⟩ : ∃ c', actC c kk kc kf floors kh = c' := ⟨_, rfl⟩
            have HCO' : Hid (c'.Ok ∧ c'.l.length = n) := Lib.hid ⟨hc' ▸ act_ok HCO.out.1 _ _ _ _ _, by rw [← hc', act_len]; exact HCO.out.2⟩
            have HC' := Lib.hid hc'
            have hkinds : kk = 0 ∨ kk = 1 ∨ kk = 2 ∨ kk = 3 ∨ kk = 4 ∨ (kk ≠ 0 ∧ kk ≠ 1 ∧ kk ≠ 2 ∧ kk ≠ 3 ∧ kk ≠ 4) := by omega
            have HKI := Lib.hid hkinds
            clear hc' hkinds
            obtain ⟨q0, q1, q2, q3⟩ := HPA.out.2.c4
            go_upto_block 2 with fail
            go_cut [15] from 72 to 160 (fun s15 wx => s15 = .int .u32 c'.h ∧ ∃ A', Hid (PS w w2.heap.size w3.heap.size n c'.h c'.l c'.l A' wx))
            case first =>
              obtain ⟨q0, q1, q2, q3⟩ := HPA.out.2.c4
              obtain ⟨a0, a1⟩ := HPA.out.1.box.c2
              obtain ⟨f0, f1⟩ := HPA.out.1.box.f2
              have hkinds := HKI.out
              clear HI3 HCO' HKI HS HL
              rcases hkinds with rfl | rfl | rfl | rfl | rfl | ⟨n0, n1, n2, n3, n4⟩
              · skip
                have hch : hall c kf floors = c' := (act01 c (.inl rfl) kc kf floors kh).symm.trans HC'.out
                have hcl : c'.l = c.l := by rw [← hch]; exact hall_l c kf floors
                have hwh : c'.h = if isF kf floors = true then wi c.h kf else c.h := by rw [← hch]; exact hall_h c kf floors
                have HH : Hid (∀ W, Sees W W.heap.size A (un c.l) → Calls Try.prog 11 #[.agg #[.int .u32 c.h, .slice A n n], .int .i64 kf, .int .i64 floors] W (PairC W c'.h c'.l n (isF kf floors))) := Lib.hid fun W hS => hall_pc HCO.out.1 HCO.out.2 (by omega) kf floors hch W hS
                have HW : Hid (∀ W, Calls Try.prog 10 #[.int .u32 c.h, .int .i64 kf, .int .i64 floors] W fun e w' => e = .returned (.tuple #[.int .u32 c'.h, .bool (isF kf floors)]) ∧ W = w') := Lib.hid fun W => by rw [hwh]; exact rcWith_any c.h HCO.out.1.1 kf floors W
                have hPB : Hid (PS w w2.heap.size w3.heap.size n c.h c.l c'.l A w4 ∧ Bx w4 wr.heap.size #[.int .i64 0, .int .i64 kc, .int .i64 kf, .bool kh]) := Lib.hid ⟨hcl ▸ HPA.out.1, HPA.out.2⟩
                generalize isF kf floors = I at HH HW
                have hII : (I != I) = false := by cases I <;> rfl
                clear hch hcl hwh HC' HPA
                go_wp2_with (first
                  | (go_at_call 10; (with_reducible refine (HW.out _).mono ?_); rintro e w5 ⟨rfl, rfl⟩; clear HW)
                  | (go_at_call 11; (with_reducible refine (HH.out _ hPB.out.1.row.sees).mono ?_); rintro e w5 ⟨R', rfl, hR', h5, hb5⟩; have hp6 := Lib.hid ((hPB.out.1.next h5).alloc (.cells #[.int .u32 c'.h, .slice (some ⟨R', 0, none⟩) n n] 27)); have hb6 := Lib.hid (hb5.alloc (.cells #[.int .u32 c'.h, .slice (some ⟨R', 0, none⟩) n n] 27)); clear a0 a1 f0 f1; obtain ⟨a0, a1⟩ := hp6.out.box.c2; obtain ⟨f0, f1⟩ := hp6.out.box.f2; have hp7 := Lib.hid (hp6.out.setX c'.h c'.l R' hb6.out (Nat.ne_of_gt (Nat.lt_of_lt_of_le (Bx.lt hPB.out.1.box) hR')) (Nat.ne_of_gt (Nat.lt_of_lt_of_le (Bx.lt hPB.out.1.own) hR'))); clear h5 hb5 hR'))
                go_meet
                exact ⟨rfl, _, hp7⟩
              · skip
                have hch : hall c kf floors = c' := (act01 c (.inr rfl) kc kf floors kh).symm.trans HC'.out
                have hcl : c'.l = c.l := by rw [← hch]; exact hall_l c kf floors
                have hwh : c'.h = if isF kf floors = true then wi c.h kf else c.h := by rw [← hch]; exact hall_h c kf floors
                have HH : Hid (∀ W, Sees W W.heap.size A (un c.l) → Calls Try.prog 11 #[.agg #[.int .u32 c.h, .slice A n n], .int .i64 kf, .int .i64 floors] W (PairC W c'.h c'.l n (isF kf floors))) := Lib.hid fun W hS => hall_pc HCO.out.1 HCO.out.2 (by omega) kf floors hch W hS
                have HW : Hid (∀ W, Calls Try.prog 10 #[.int .u32 c.h, .int .i64 kf, .int .i64 floors] W fun e w' => e = .returned (.tuple #[.int .u32 c'.h, .bool (isF kf floors)]) ∧ W = w') := Lib.hid fun W => by rw [hwh]; exact rcWith_any c.h HCO.out.1.1 kf floors W
                have hPB : Hid (PS w w2.heap.size w3.heap.size n c.h c.l c'.l A w4 ∧ Bx w4 wr.heap.size #[.int .i64 1, .int .i64 kc, .int .i64 kf, .bool kh]) := Lib.hid ⟨hcl ▸ HPA.out.1, HPA.out.2⟩
                generalize isF kf floors = I at HH HW
                have hII : (I != I) = false := by cases I <;> rfl
                clear hch hcl hwh HC' HPA
                go_wp2_with (first
                  | (go_at_call 10; (with_reducible refine (HW.out _).mono ?_); rintro e w5 ⟨rfl, rfl⟩; clear HW)
                  | (go_at_call 11; (with_reducible refine (HH.out _ hPB.out.1.row.sees).mono ?_); rintro e w5 ⟨R', rfl, hR', h5, hb5⟩; have hp6 := Lib.hid ((hPB.out.1.next h5).alloc (.cells #[.int .u32 c'.h, .slice (some ⟨R', 0, none⟩) n n] 27)); have hb6 := Lib.hid (hb5.alloc (.cells #[.int .u32 c'.h, .slice (some ⟨R', 0, none⟩) n n] 27)); clear a0 a1 f0 f1; obtain ⟨a0, a1⟩ := hp6.out.box.c2; obtain ⟨f0, f1⟩ := hp6.out.box.f2; have hp7 := Lib.hid (hp6.out.setX c'.h c'.l R' hb6.out (Nat.ne_of_gt (Nat.lt_of_lt_of_le (Bx.lt hPB.out.1.box) hR')) (Nat.ne_of_gt (Nat.lt_of_lt_of_le (Bx.lt hPB.out.1.own) hR'))); clear h5 hb5 hR'))
                go_meet
                exact ⟨rfl, _, hp7⟩
              · skip
                cases T
                · skip
                  have hch : car c kc kf floors = c' := (act23 c (.inl rfl) kc kf floors kh).symm.trans HC'.out
                  have hch2 : c'.h = c.h := by rw [← hch]; exact car_h c kc kf floors
                  have hno : hasC c.l.length kc = false := by rw [HCO.out.2]; exact HT.out
                  have hcl : c'.l = c.l := by rw [← hch, car_none hno]
                  have hok : carOk c kc kf floors = false := by unfold carOk; rw [hno]; rfl
                  have HH : Hid (∀ W, Sees W W.heap.size A (un c.l) → Calls Try.prog 12 #[.agg #[.int .u32 c.h, .slice A n n], .int .i64 kc, .int .i64 kf, .int .i64 floors] W (PairC W c'.h c'.l n false)) := Lib.hid fun W hS => hok ▸ car_pc HCO.out.1 HCO.out.2 (by omega) kc kf floors hch W hS
                  have hPB : Hid (PS w w2.heap.size w3.heap.size n c.h c.l c'.l A w4 ∧ Bx w4 wr.heap.size #[.int .i64 2, .int .i64 kc, .int .i64 kf, .bool kh]) := Lib.hid ⟨hcl ▸ HPA.out.1, HPA.out.2⟩
                  have HQ2 := Lib.hid hch2
                  clear hch hch2 hno hcl hok HC' HPA HT
                  go_wp2_with (first
                    | (go_at_call 12; (with_reducible refine (HH.out _ hPB.out.1.row.sees).mono ?_); rintro e w5 ⟨R', rfl, hR', h5, hb5⟩; have hp6 := Lib.hid ((hPB.out.1.next h5).alloc (.cells #[.int .u32 c'.h, .slice (some ⟨R', 0, none⟩) n n] 27)); have hb6 := Lib.hid (hb5.alloc (.cells #[.int .u32 c'.h, .slice (some ⟨R', 0, none⟩) n n] 27)); clear a0 a1 f0 f1; obtain ⟨a0, a1⟩ := hp6.out.box.c2; obtain ⟨f0, f1⟩ := hp6.out.box.f2; have hp7 := Lib.hid (hp6.out.setX c'.h c'.l R' hb6.out (Nat.ne_of_gt (Nat.lt_of_lt_of_le (Bx.lt hPB.out.1.box) hR')) (Nat.ne_of_gt (Nat.lt_of_lt_of_le (Bx.lt hPB.out.1.own) hR'))); clear h5 hb5 hR'))
                  go_meet
                  exact ⟨by rw [HQ2.out], _, hp7⟩
                · skip
                  have hch : car c kc kf floors = c' := (act23 c (.inl rfl) kc kf floors kh).symm.trans HC'.out
                  have hch2 : c'.h = c.h := by rw [← hch]; exact car_h c kc kf floors
                  have hyes : hasC c.l.length kc = true := by rw [HCO.out.2]; exact HT.out
                  obtain ⟨k0, k1⟩ := hasC_iff.1 HT.out
                  obtain ⟨k, rfl⟩ : ∃ k : Nat, kc = k := ⟨kc.toNat, by omega⟩
                  have hcl := car_own (f := kf) (m := floors) hyes
                  rw [hch] at hcl
                  have hok : carOk c k kf floors = isF kf floors := by unfold carOk; rw [hyes]; rfl
                  have hat := un_cell (row_at (c := c) (k := k) (by rw [HCO.out.2]; omega))
                  have HH : Hid (∀ W, Sees W W.heap.size A (un c.l) → Calls Try.prog 12 #[.agg #[.int .u32 c.h, .slice A n n], .int .i64 k, .int .i64 kf, .int .i64 floors] W (PairC W c'.h c'.l n (isF kf floors))) := Lib.hid fun W hS => hok ▸ car_pc HCO.out.1 HCO.out.2 (by omega) k kf floors hch W hS
                  have HW0 : ∀ W, Calls Try.prog 10 #[.int .u32 (row c k : Nat), .int .i64 kf, .int .i64 floors] W fun e w' => e = .returned (.tuple #[.int .u32 ((if isF kf floors = true then wi (row c k) kf else row c k) : Nat), .bool (isF kf floors)]) ∧ W = w' := fun W => rcWith_any (row c k) (row_lt HCO.out.1 k) kf floors W
                  generalize (if isF kf floors = true then wi (row c k) kf else row c k) = v at hcl HW0
                  generalize row c k = x at hat HW0
                  generalize isF kf floors = I at HH HW0
                  have HW := Lib.hid HW0
                  have HAT := Lib.hid hat
                  have HCL := Lib.hid hcl
                  have HQ2 := Lib.hid hch2
                  have hII : (I != I) = false := by cases I <;> rfl
                  have k1' : (k : Int) < (n : Int) := k1
                  have HPS : Hid (PB w w2.heap.size w3.heap.size n c.h c.l c.l A wr.heap.size #[.int .i64 2, .int .i64 k, .int .i64 kf, .bool kh] w4) := Lib.hid ⟨HPA.out.1, HPA.out.2⟩
                  clear hch hch2 hyes hcl hok hat HC' HPA HT HW0 k0
                  go_upto_region 31 with fail
                  refine wp_region_all _ PB.closed HPS.out (by kernel_rfl) (by kernel_rfl) ?_
                  apply Exists.intro
                  refine ⟨fun w7 h7 => ?_, fun W7 hJ7 hb7 => ?_⟩
                  · haveI := Ext.some h7
                    have p0 : ∀ m : Ext (PB w w2.heap.size w3.heap.size n c.h c.l c.l A wr.heap.size #[.int .i64 2, .int .i64 k, .int .i64 kf, .bool kh]) w7, m.W.cell? ⟨w3.heap.size, k, none⟩ = some (.int .u32 x) := fun m => m.h.ps.own.cell HAT.out
                    have p1 : ∀ m : Ext (PB w w2.heap.size w3.heap.size n c.h c.l c.l A wr.heap.size #[.int .i64 2, .int .i64 k, .int .i64 kf, .bool kh]) w7, m.W.cell? ⟨wr.heap.size, 1, none⟩ = some (.int .i64 k) := fun m => m.h.bx.c4.2.1
                    have p2 : ∀ m : Ext (PB w w2.heap.size w3.heap.size n c.h c.l c.l A wr.heap.size #[.int .i64 2, .int .i64 k, .int .i64 kf, .bool kh]) w7, m.W.cell? ⟨wr.heap.size, 2, none⟩ = some (.int .i64 kf) := fun m => m.h.bx.c4.2.2.1
                    have cW := Lib.hid (Ext.calls h7 PB.closed (fun W _ => says_of_same (HW.out W)))
                    repeat go_big_quiet_step (first | (go_at_call 10; with_reducible exact cW.out _))
                    exact wpQuiet_nil rfl
                  clear a0 a1 f0 f1 q0 q1 q2 q3
                  have HJ7 := Lib.hid hJ7
                  obtain ⟨q0, q1, q2, q3⟩ := hJ7.bx.c4
                  have x0 := hJ7.ps.own.cell HAT.out
                  have x1 := hJ7.ps.own.fr k
                  have hPB : Hid (PS w w2.heap.size w3.heap.size n c.h c.l c'.l A (W7.setCell ⟨w3.heap.size, k, none⟩ (.int .u32 v)) ∧ Bx (W7.setCell ⟨w3.heap.size, k, none⟩ (.int .u32 v)) wr.heap.size #[.int .i64 2, .int .i64 k, .int .i64 kf, .bool kh]) := Lib.hid ⟨HCL.out ▸ hJ7.ps.setOwn k v, hJ7.bx.off _ HDX.out.2⟩
                  obtain ⟨a0, a1⟩ := hPB.out.1.box.c2
                  obtain ⟨f0, f1⟩ := hPB.out.1.box.f2
                  obtain ⟨r0, r1, r2, r3⟩ := hPB.out.2.c4
                  clear hJ7 hb7 HPS
                  go_wp2_with (first
                    | (go_at_call 12; (with_reducible refine (HH.out _ hPB.out.1.row.sees).mono ?_); rintro e w5 ⟨R', rfl, hR', h5, hb5⟩; have hp6 := Lib.hid ((hPB.out.1.next h5).alloc (.cells #[.int .u32 c'.h, .slice (some ⟨R', 0, none⟩) n n] 27)); have hb6 := Lib.hid (hb5.alloc (.cells #[.int .u32 c'.h, .slice (some ⟨R', 0, none⟩) n n] 27)); clear a0 a1 f0 f1; obtain ⟨a0, a1⟩ := hp6.out.box.c2; obtain ⟨f0, f1⟩ := hp6.out.box.f2; have hp7 := Lib.hid (hp6.out.setX c'.h c'.l R' hb6.out (Nat.ne_of_gt (Nat.lt_of_lt_of_le (Bx.lt hPB.out.1.box) hR')) (Nat.ne_of_gt (Nat.lt_of_lt_of_le (Bx.lt hPB.out.1.own) hR'))); clear h5 hb5 hR'))
                  go_meet
                  exact ⟨by rw [HQ2.out], _, hp7⟩
              · skip
                cases T
                · skip
                  have hch : car c kc kf floors = c' := (act23 c (.inr rfl) kc kf floors kh).symm.trans HC'.out
                  have hch2 : c'.h = c.h := by rw [← hch]; exact car_h c kc kf floors
                  have hno : hasC c.l.length kc = false := by rw [HCO.out.2]; exact HT.out
                  have hcl : c'.l = c.l := by rw [← hch, car_none hno]
                  have hok : carOk c kc kf floors = false := by unfold carOk; rw [hno]; rfl
                  have HH : Hid (∀ W, Sees W W.heap.size A (un c.l) → Calls Try.prog 12 #[.agg #[.int .u32 c.h, .slice A n n], .int .i64 kc, .int .i64 kf, .int .i64 floors] W (PairC W c'.h c'.l n false)) := Lib.hid fun W hS => hok ▸ car_pc HCO.out.1 HCO.out.2 (by omega) kc kf floors hch W hS
                  have hPB : Hid (PS w w2.heap.size w3.heap.size n c.h c.l c'.l A w4 ∧ Bx w4 wr.heap.size #[.int .i64 3, .int .i64 kc, .int .i64 kf, .bool kh]) := Lib.hid ⟨hcl ▸ HPA.out.1, HPA.out.2⟩
                  have HQ2 := Lib.hid hch2
                  clear hch hch2 hno hcl hok HC' HPA HT
                  go_wp2_with (first
                    | (go_at_call 12; (with_reducible refine (HH.out _ hPB.out.1.row.sees).mono ?_); rintro e w5 ⟨R', rfl, hR', h5, hb5⟩; have hp6 := Lib.hid ((hPB.out.1.next h5).alloc (.cells #[.int .u32 c'.h, .slice (some ⟨R', 0, none⟩) n n] 27)); have hb6 := Lib.hid (hb5.alloc (.cells #[.int .u32 c'.h, .slice (some ⟨R', 0, none⟩) n n] 27)); clear a0 a1 f0 f1; obtain ⟨a0, a1⟩ := hp6.out.box.c2; obtain ⟨f0, f1⟩ := hp6.out.box.f2; have hp7 := Lib.hid (hp6.out.setX c'.h c'.l R' hb6.out (Nat.ne_of_gt (Nat.lt_of_lt_of_le (Bx.lt hPB.out.1.box) hR')) (Nat.ne_of_gt (Nat.lt_of_lt_of_le (Bx.lt hPB.out.1.own) hR'))); clear h5 hb5 hR'))
                  go_meet
                  exact ⟨by rw [HQ2.out], _, hp7⟩
                · skip
                  have hch : car c kc kf floors = c' := (act23 c (.inr rfl) kc kf floors kh).symm.trans HC'.out
                  have hch2 : c'.h = c.h := by rw [← hch]; exact car_h c kc kf floors
                  have hyes : hasC c.l.length kc = true := by rw [HCO.out.2]; exact HT.out
                  obtain ⟨k0, k1⟩ := hasC_iff.1 HT.out
                  obtain ⟨k, rfl⟩ : ∃ k : Nat, kc = k := ⟨kc.toNat, by omega⟩
                  have hcl := car_own (f := kf) (m := floors) hyes
                  rw [hch] at hcl
                  have hok : carOk c k kf floors = isF kf floors := by unfold carOk; rw [hyes]; rfl
                  have hat := un_cell (row_at (c := c) (k := k) (by rw [HCO.out.2]; omega))
                  have HH : Hid (∀ W, Sees W W.heap.size A (un c.l) → Calls Try.prog 12 #[.agg #[.int .u32 c.h, .slice A n n], .int .i64 k, .int .i64 kf, .int .i64 floors] W (PairC W c'.h c'.l n (isF kf floors))) := Lib.hid fun W hS => hok ▸ car_pc HCO.out.1 HCO.out.2 (by omega) k kf floors hch W hS
                  have HW0 : ∀ W, Calls Try.prog 10 #[.int .u32 (row c k : Nat), .int .i64 kf, .int .i64 floors] W fun e w' => e = .returned (.tuple #[.int .u32 ((if isF kf floors = true then wi (row c k) kf else row c k) : Nat), .bool (isF kf floors)]) ∧ W = w' := fun W => rcWith_any (row c k) (row_lt HCO.out.1 k) kf floors W
                  generalize (if isF kf floors = true then wi (row c k) kf else row c k) = v at hcl HW0
                  generalize row c k = x at hat HW0
                  generalize isF kf floors = I at HH HW0
                  have HW := Lib.hid HW0
                  have HAT := Lib.hid hat
                  have HCL := Lib.hid hcl
                  have HQ2 := Lib.hid hch2
                  have hII : (I != I) = false := by cases I <;> rfl
                  have k1' : (k : Int) < (n : Int) := k1
                  have HPS : Hid (PB w w2.heap.size w3.heap.size n c.h c.l c.l A wr.heap.size #[.int .i64 3, .int .i64 k, .int .i64 kf, .bool kh] w4) := Lib.hid ⟨HPA.out.1, HPA.out.2⟩
                  clear hch hch2 hyes hcl hok hat HC' HPA HT HW0 k0
                  go_upto_region 31 with fail
                  refine wp_region_all _ PB.closed HPS.out (by kernel_rfl) (by kernel_rfl) ?_
                  apply Exists.intro
                  refine ⟨fun w7 h7 => ?_, fun W7 hJ7 hb7 => ?_⟩
                  · haveI := Ext.some h7
                    have p0 : ∀ m : Ext (PB w w2.heap.size w3.heap.size n c.h c.l c.l A wr.heap.size #[.int .i64 3, .int .i64 k, .int .i64 kf, .bool kh]) w7, m.W.cell? ⟨w3.heap.size, k, none⟩ = some (.int .u32 x) := fun m => m.h.ps.own.cell HAT.out
                    have p1 : ∀ m : Ext (PB w w2.heap.size w3.heap.size n c.h c.l c.l A wr.heap.size #[.int .i64 3, .int .i64 k, .int .i64 kf, .bool kh]) w7, m.W.cell? ⟨wr.heap.size, 1, none⟩ = some (.int .i64 k) := fun m => m.h.bx.c4.2.1
                    have p2 : ∀ m : Ext (PB w w2.heap.size w3.heap.size n c.h c.l c.l A wr.heap.size #[.int .i64 3, .int .i64 k, .int .i64 kf, .bool kh]) w7, m.W.cell? ⟨wr.heap.size, 2, none⟩ = some (.int .i64 kf) := fun m => m.h.bx.c4.2.2.1
                    have cW := Lib.hid (Ext.calls h7 PB.closed (fun W _ => says_of_same (HW.out W)))
                    repeat go_big_quiet_step (first | (go_at_call 10; with_reducible exact cW.out _))
                    exact wpQuiet_nil rfl
                  clear a0 a1 f0 f1 q0 q1 q2 q3
                  have HJ7 := Lib.hid hJ7
                  obtain ⟨q0, q1, q2, q3⟩ := hJ7.bx.c4
                  have x0 := hJ7.ps.own.cell HAT.out
                  have x1 := hJ7.ps.own.fr k
                  have hPB : Hid (PS w w2.heap.size w3.heap.size n c.h c.l c'.l A (W7.setCell ⟨w3.heap.size, k, none⟩ (.int .u32 v)) ∧ Bx (W7.setCell ⟨w3.heap.size, k, none⟩ (.int .u32 v)) wr.heap.size #[.int .i64 3, .int .i64 k, .int .i64 kf, .bool kh]) := Lib.hid ⟨HCL.out ▸ hJ7.ps.setOwn k v, hJ7.bx.off _ HDX.out.2⟩
                  obtain ⟨a0, a1⟩ := hPB.out.1.box.c2
                  obtain ⟨f0, f1⟩ := hPB.out.1.box.f2
                  obtain ⟨r0, r1, r2, r3⟩ := hPB.out.2.c4
                  clear hJ7 hb7 HPS
                  go_wp2_with (first
                    | (go_at_call 12; (with_reducible refine (HH.out _ hPB.out.1.row.sees).mono ?_); rintro e w5 ⟨R', rfl, hR', h5, hb5⟩; have hp6 := Lib.hid ((hPB.out.1.next h5).alloc (.cells #[.int .u32 c'.h, .slice (some ⟨R', 0, none⟩) n n] 27)); have hb6 := Lib.hid (hb5.alloc (.cells #[.int .u32 c'.h, .slice (some ⟨R', 0, none⟩) n n] 27)); clear a0 a1 f0 f1; obtain ⟨a0, a1⟩ := hp6.out.box.c2; obtain ⟨f0, f1⟩ := hp6.out.box.f2; have hp7 := Lib.hid (hp6.out.setX c'.h c'.l R' hb6.out (Nat.ne_of_gt (Nat.lt_of_lt_of_le (Bx.lt hPB.out.1.box) hR')) (Nat.ne_of_gt (Nat.lt_of_lt_of_le (Bx.lt hPB.out.1.own) hR'))); clear h5 hb5 hR'))
                  go_meet
                  exact ⟨by rw [HQ2.out], _, hp7⟩
              · skip
                cases T
                · cases kh
                  · skip
                    have hch : dn c kc kf false = c' := (act4 c kc kf floors false).symm.trans HC'.out
                    have hch2 : c'.h = c.h := by rw [← hch]; rfl
                    have HQ2 := Lib.hid hch2
                    have hno : hasC c.l.length kc = false := by rw [HCO.out.2]; exact HT.out
                    have hcl : c'.l = c.l := by rw [← hch]; exact dn_none hno
                    have HH : Hid (∀ W, Sees W W.heap.size A (un c.l) → Calls Try.prog 14 #[.agg #[.int .u32 c.h, .slice A n n], .int .i64 kc, .int .i64 kf, .bool false] W (SoleC W c'.h c'.l n)) := Lib.hid fun W hS => done_pc HCO.out.1 HCO.out.2 (by omega) kc kf false hch W hS
                    have hPB : Hid (PS w w2.heap.size w3.heap.size n c.h c.l c'.l A w4 ∧ Bx w4 wr.heap.size #[.int .i64 4, .int .i64 kc, .int .i64 kf, .bool false]) := Lib.hid ⟨hcl ▸ HPA.out.1, HPA.out.2⟩
                    clear hch hch2 hno hcl HC' HPA HT
                    go_wp2_with (first
                      | (go_at_call 14; (with_reducible refine (HH.out _ hPB.out.1.row.sees).mono ?_); rintro e w5 ⟨R', rfl, hR', h5, hb5⟩; have hp6 := Lib.hid (hPB.out.1.next h5); have hb6 := Lib.hid hb5; clear a0 a1 f0 f1; obtain ⟨a0, a1⟩ := hp6.out.box.c2; obtain ⟨f0, f1⟩ := hp6.out.box.f2; have hp7 := Lib.hid (hp6.out.setX c'.h c'.l R' hb6.out (Nat.ne_of_gt (Nat.lt_of_lt_of_le (Bx.lt hPB.out.1.box) hR')) (Nat.ne_of_gt (Nat.lt_of_lt_of_le (Bx.lt hPB.out.1.own) hR'))); clear h5 hb5 hR'))
                    go_meet
                    exact ⟨by rw [HQ2.out], _, hp7⟩
                  · skip
                    have hch : dn c kc kf true = c' := (act4 c kc kf floors true).symm.trans HC'.out
                    have hch2 : c'.h = wo c.h kf := by rw [← hch]; rfl
                    have HW2 : Hid (∀ W, Calls Try.prog 13 #[.int .u32 c.h, .int .i64 kf] W fun e w' => e = .returned (.int .u32 c'.h) ∧ W = w') := Lib.hid fun W => by rw [hch2]; exact rcWithout_any c.h HCO.out.1.1 kf W
                    have HQ2 := Lib.hid hch2
                    have hno : hasC c.l.length kc = false := by rw [HCO.out.2]; exact HT.out
                    have hcl : c'.l = c.l := by rw [← hch]; exact dn_none hno
                    have HH : Hid (∀ W, Sees W W.heap.size A (un c.l) → Calls Try.prog 14 #[.agg #[.int .u32 c.h, .slice A n n], .int .i64 kc, .int .i64 kf, .bool true] W (SoleC W c'.h c'.l n)) := Lib.hid fun W hS => done_pc HCO.out.1 HCO.out.2 (by omega) kc kf true hch W hS
                    have hPB : Hid (PS w w2.heap.size w3.heap.size n c.h c.l c'.l A w4 ∧ Bx w4 wr.heap.size #[.int .i64 4, .int .i64 kc, .int .i64 kf, .bool true]) := Lib.hid ⟨hcl ▸ HPA.out.1, HPA.out.2⟩
                    clear hch hch2 hno hcl HC' HPA HT
                    go_wp2_with (first
                      | (go_at_call 13; (with_reducible refine (HW2.out _).mono ?_); rintro e w5 ⟨rfl, rfl⟩; clear HW2)
                      | (go_at_call 14; (with_reducible refine (HH.out _ hPB.out.1.row.sees).mono ?_); rintro e w5 ⟨R', rfl, hR', h5, hb5⟩; have hp6 := Lib.hid (hPB.out.1.next h5); have hb6 := Lib.hid hb5; clear a0 a1 f0 f1; obtain ⟨a0, a1⟩ := hp6.out.box.c2; obtain ⟨f0, f1⟩ := hp6.out.box.f2; have hp7 := Lib.hid (hp6.out.setX c'.h c'.l R' hb6.out (Nat.ne_of_gt (Nat.lt_of_lt_of_le (Bx.lt hPB.out.1.box) hR')) (Nat.ne_of_gt (Nat.lt_of_lt_of_le (Bx.lt hPB.out.1.own) hR'))); clear h5 hb5 hR'))
                    go_meet
                    exact ⟨rfl, _, hp7⟩
                · cases kh
                  · skip
                    have hch : dn c kc kf false = c' := (act4 c kc kf floors false).symm.trans HC'.out
                    have hch2 : c'.h = c.h := by rw [← hch]; rfl
                    have HQ2 := Lib.hid hch2
                    have hyes : hasC c.l.length kc = true := by rw [HCO.out.2]; exact HT.out
                    obtain ⟨k0, k1⟩ := hasC_iff.1 HT.out
                    obtain ⟨k, rfl⟩ : ∃ k : Nat, kc = k := ⟨kc.toNat, by omega⟩
                    have hcl := dn_own (f := kf) (b := false) hyes
                    rw [hch] at hcl
                    have hat := un_cell (row_at (c := c) (k := k) (by rw [HCO.out.2]; omega))
                    have HH : Hid (∀ W, Sees W W.heap.size A (un c.l) → Calls Try.prog 14 #[.agg #[.int .u32 c.h, .slice A n n], .int .i64 k, .int .i64 kf, .bool false] W (SoleC W c'.h c'.l n)) := Lib.hid fun W hS => done_pc HCO.out.1 HCO.out.2 (by omega) k kf false hch W hS
                    have HW0 : ∀ W, Calls Try.prog 13 #[.int .u32 (row c k : Nat), .int .i64 kf] W fun e w' => e = .returned (.int .u32 (wo (row c k) kf : Nat)) ∧ W = w' := fun W => rcWithout_any (row c k) (row_lt HCO.out.1 k) kf W
                    generalize wo (row c k) kf = v at hcl HW0
                    generalize row c k = x at hat HW0
                    have HW := Lib.hid HW0
                    have HAT := Lib.hid hat
                    have HCL := Lib.hid hcl
                    have k1' : (k : Int) < (n : Int) := k1
                    have HPS : Hid (PB w w2.heap.size w3.heap.size n c.h c.l c.l A wr.heap.size #[.int .i64 4, .int .i64 k, .int .i64 kf, .bool false] w4) := Lib.hid ⟨HPA.out.1, HPA.out.2⟩
                    clear hch hch2 hyes hcl hat HC' HPA HT HW0 k0
                    go_upto_region 40 with fail
                    refine wp_region_tail 12 _ PB.closed HPS.out (by kernel_rfl) (by kernel_rfl) ?_
                    simp only [List.take_succ_cons, List.take_zero, List.drop_succ_cons, List.drop_zero]
                    apply Exists.intro
                    refine ⟨fun w7 h7 => ?_, fun W7 hJ7 hb7 => ?_⟩
                    · haveI := Ext.some h7
                      have p0 : ∀ m : Ext (PB w w2.heap.size w3.heap.size n c.h c.l c.l A wr.heap.size #[.int .i64 4, .int .i64 k, .int .i64 kf, .bool false]) w7, m.W.cell? ⟨w3.heap.size, k, none⟩ = some (.int .u32 x) := fun m => m.h.ps.own.cell HAT.out
                      have p1 : ∀ m : Ext (PB w w2.heap.size w3.heap.size n c.h c.l c.l A wr.heap.size #[.int .i64 4, .int .i64 k, .int .i64 kf, .bool false]) w7, m.W.cell? ⟨wr.heap.size, 1, none⟩ = some (.int .i64 k) := fun m => m.h.bx.c4.2.1
                      have p2 : ∀ m : Ext (PB w w2.heap.size w3.heap.size n c.h c.l c.l A wr.heap.size #[.int .i64 4, .int .i64 k, .int .i64 kf, .bool false]) w7, m.W.cell? ⟨wr.heap.size, 2, none⟩ = some (.int .i64 kf) := fun m => m.h.bx.c4.2.2.1
                      have cW := Lib.hid (Ext.calls h7 PB.closed (fun W _ => says_of_same (HW.out W)))
                      repeat go_big_quiet_step (first | (go_at_call 13; with_reducible exact cW.out _))
                      exact wpQuiet_nil rfl
                    clear a0 a1 f0 f1 q0 q1 q2 q3
                    obtain ⟨q0, q1, q2, q3⟩ := hJ7.bx.c4
                    have x0 := hJ7.ps.own.cell HAT.out
                    have x1 := hJ7.ps.own.fr k
                    have hPB : Hid (PS w w2.heap.size w3.heap.size n c.h c.l c'.l A (W7.setCell ⟨w3.heap.size, k, none⟩ (.int .u32 v)) ∧ Bx (W7.setCell ⟨w3.heap.size, k, none⟩ (.int .u32 v)) wr.heap.size #[.int .i64 4, .int .i64 k, .int .i64 kf, .bool false]) := Lib.hid ⟨HCL.out ▸ hJ7.ps.setOwn k v, hJ7.bx.off _ HDX.out.2⟩
                    obtain ⟨a0, a1⟩ := hPB.out.1.box.c2
                    obtain ⟨f0, f1⟩ := hPB.out.1.box.f2
                    obtain ⟨r0, r1, r2, r3⟩ := hPB.out.2.c4
                    clear hJ7 hb7 HPS HW
                    change wpList _ _ _ _ _ _
                    go_wp2_with (first
                      | (go_at_call 14; (with_reducible refine (HH.out _ hPB.out.1.row.sees).mono ?_); rintro e w5 ⟨R', rfl, hR', h5, hb5⟩; have hp6 := Lib.hid (hPB.out.1.next h5); have hb6 := Lib.hid hb5; clear a0 a1 f0 f1; obtain ⟨a0, a1⟩ := hp6.out.box.c2; obtain ⟨f0, f1⟩ := hp6.out.box.f2; have hp7 := Lib.hid (hp6.out.setX c'.h c'.l R' hb6.out (Nat.ne_of_gt (Nat.lt_of_lt_of_le (Bx.lt hPB.out.1.box) hR')) (Nat.ne_of_gt (Nat.lt_of_lt_of_le (Bx.lt hPB.out.1.own) hR'))); clear h5 hb5 hR'))
                    go_meet
                    exact ⟨by rw [HQ2.out], _, hp7⟩
                  · skip
                    have hch : dn c kc kf true = c' := (act4 c kc kf floors true).symm.trans HC'.out
                    have hch2 : c'.h = wo c.h kf := by rw [← hch]; rfl
                    have HW2 : Hid (∀ W, Calls Try.prog 13 #[.int .u32 c.h, .int .i64 kf] W fun e w' => e = .returned (.int .u32 c'.h) ∧ W = w') := Lib.hid fun W => by rw [hch2]; exact rcWithout_any c.h HCO.out.1.1 kf W
                    have HQ2 := Lib.hid hch2
                    have hyes : hasC c.l.length kc = true := by rw [HCO.out.2]; exact HT.out
                    obtain ⟨k0, k1⟩ := hasC_iff.1 HT.out
                    obtain ⟨k, rfl⟩ : ∃ k : Nat, kc = k := ⟨kc.toNat, by omega⟩
                    have hcl := dn_own (f := kf) (b := true) hyes
                    rw [hch] at hcl
                    have hat := un_cell (row_at (c := c) (k := k) (by rw [HCO.out.2]; omega))
                    have HH : Hid (∀ W, Sees W W.heap.size A (un c.l) → Calls Try.prog 14 #[.agg #[.int .u32 c.h, .slice A n n], .int .i64 k, .int .i64 kf, .bool true] W (SoleC W c'.h c'.l n)) := Lib.hid fun W hS => done_pc HCO.out.1 HCO.out.2 (by omega) k kf true hch W hS
                    have HW0 : ∀ W, Calls Try.prog 13 #[.int .u32 (row c k : Nat), .int .i64 kf] W fun e w' => e = .returned (.int .u32 (wo (row c k) kf : Nat)) ∧ W = w' := fun W => rcWithout_any (row c k) (row_lt HCO.out.1 k) kf W
                    generalize wo (row c k) kf = v at hcl HW0
                    generalize row c k = x at hat HW0
                    have HW := Lib.hid HW0
                    have HAT := Lib.hid hat
                    have HCL := Lib.hid hcl
                    have k1' : (k : Int) < (n : Int) := k1
                    have HPS : Hid (PB w w2.heap.size w3.heap.size n c.h c.l c.l A wr.heap.size #[.int .i64 4, .int .i64 k, .int .i64 kf, .bool true] w4) := Lib.hid ⟨HPA.out.1, HPA.out.2⟩
                    clear hch hch2 hyes hcl hat HC' HPA HT HW0 k0
                    go_upto_region 40 with fail
                    refine wp_region_tail 12 _ PB.closed HPS.out (by kernel_rfl) (by kernel_rfl) ?_
                    simp only [List.take_succ_cons, List.take_zero, List.drop_succ_cons, List.drop_zero]
                    apply Exists.intro
                    refine ⟨fun w7 h7 => ?_, fun W7 hJ7 hb7 => ?_⟩
                    · haveI := Ext.some h7
                      have p0 : ∀ m : Ext (PB w w2.heap.size w3.heap.size n c.h c.l c.l A wr.heap.size #[.int .i64 4, .int .i64 k, .int .i64 kf, .bool true]) w7, m.W.cell? ⟨w3.heap.size, k, none⟩ = some (.int .u32 x) := fun m => m.h.ps.own.cell HAT.out
                      have p1 : ∀ m : Ext (PB w w2.heap.size w3.heap.size n c.h c.l c.l A wr.heap.size #[.int .i64 4, .int .i64 k, .int .i64 kf, .bool true]) w7, m.W.cell? ⟨wr.heap.size, 1, none⟩ = some (.int .i64 k) := fun m => m.h.bx.c4.2.1
                      have p2 : ∀ m : Ext (PB w w2.heap.size w3.heap.size n c.h c.l c.l A wr.heap.size #[.int .i64 4, .int .i64 k, .int .i64 kf, .bool true]) w7, m.W.cell? ⟨wr.heap.size, 2, none⟩ = some (.int .i64 kf) := fun m => m.h.bx.c4.2.2.1
                      have cW := Lib.hid (Ext.calls h7 PB.closed (fun W _ => says_of_same (HW.out W)))
                      repeat go_big_quiet_step (first | (go_at_call 13; with_reducible exact cW.out _))
                      exact wpQuiet_nil rfl
                    clear a0 a1 f0 f1 q0 q1 q2 q3
                    obtain ⟨q0, q1, q2, q3⟩ := hJ7.bx.c4
                    have x0 := hJ7.ps.own.cell HAT.out
                    have x1 := hJ7.ps.own.fr k
                    have hPB : Hid (PS w w2.heap.size w3.heap.size n c.h c.l c'.l A (W7.setCell ⟨w3.heap.size, k, none⟩ (.int .u32 v)) ∧ Bx (W7.setCell ⟨w3.heap.size, k, none⟩ (.int .u32 v)) wr.heap.size #[.int .i64 4, .int .i64 k, .int .i64 kf, .bool true]) := Lib.hid ⟨HCL.out ▸ hJ7.ps.setOwn k v, hJ7.bx.off _ HDX.out.2⟩
                    obtain ⟨a0, a1⟩ := hPB.out.1.box.c2
                    obtain ⟨f0, f1⟩ := hPB.out.1.box.f2
                    obtain ⟨r0, r1, r2, r3⟩ := hPB.out.2.c4
                    clear hJ7 hb7 HPS HW
                    change wpList _ _ _ _ _ _
                    go_wp2_with (first
                      | (go_at_call 13; (with_reducible refine (HW2.out _).mono ?_); rintro e w5 ⟨rfl, rfl⟩; clear HW2)
                      | (go_at_call 14; (with_reducible refine (HH.out _ hPB.out.1.row.sees).mono ?_); rintro e w5 ⟨R', rfl, hR', h5, hb5⟩; have hp6 := Lib.hid (hPB.out.1.next h5); have hb6 := Lib.hid hb5; clear a0 a1 f0 f1; obtain ⟨a0, a1⟩ := hp6.out.box.c2; obtain ⟨f0, f1⟩ := hp6.out.box.f2; have hp7 := Lib.hid (hp6.out.setX c'.h c'.l R' hb6.out (Nat.ne_of_gt (Nat.lt_of_lt_of_le (Bx.lt hPB.out.1.box) hR')) (Nat.ne_of_gt (Nat.lt_of_lt_of_le (Bx.lt hPB.out.1.own) hR'))); clear h5 hb5 hR'))
                    go_meet
                    exact ⟨rfl, _, hp7⟩
              · skip
                have hcc : c' = c := HC'.out.symm.trans (act5 c ⟨n0, n1, n2, n3, n4⟩ kc kf floors kh)
                have HCC := Lib.hid hcc
                have b0 : (kk == 0) = false := by simpa using n0
                have b1 : (kk == 1) = false := by simpa using n1
                have b2 : (kk == 2) = false := by simpa using n2
                have b3 : (kk == 3) = false := by simpa using n3
                have b4 : (kk == 4) = false := by simpa using n4
                clear hcc HC' n0 n1 n2 n3 n4
                go_wp2_with fail
                go_meet
                exact ⟨by rw [HCC.out], _, Lib.hid (by rw [HCC.out]; exact HPA.out.1)⟩
            case rest =>
              clear HPA HC' HKI HCO HT q0 q1 q2 q3
              obtain ⟨rfl, A2, hM⟩ := hcut
              rename World => w5
              obtain ⟨a0, a1⟩ := hM.out.box.c2
              have hpcl := pc_le c'.h
              have HRM : Hid (∀ x, x < 4294967296 → ∀ W, Calls Try.prog 15 #[.int .u32 (x : Nat)] W fun e w' => e = .returned (.int .i64 (pc x : Nat)) ∧ W = w') := Lib.hid fun x hx W => rcMany_any x hx W
              have HR0 := Lib.hid (HRM.out c'.h HCO'.out.1.1)
              have hnn : ((n : Int) != (n : Int)) = false := by simp
              have hhh : ((c'.h : Int) != (c'.h : Int)) = false := by simp
              obtain ⟨s0, hs0⟩ : ∃ s0, pc c'.h = s0 := ⟨_, rfl⟩
              rw [hs0] at HR0 hpcl
              have HS0 := Lib.hid hs0
              clear hs0
              go_upto_region 47 with (go_at_call 15; (with_reducible refine (HR0.out _).mono ?_); rintro e w6 ⟨rfl, rfl⟩)
              clear a0 a1 HR0
              have hMC : Hid (∀ W, PS w w2.heap.size w3.heap.size n c'.h c'.l c'.l A2 W → Calls Try.prog 18 #[.agg #[.int .u32 c'.h, .slice A2 n n]] W (Says W (.int .i64 (mn c' : Nat)))) := Lib.hid fun W h => Many_any c' HCO'.out.1 A2 n n HCO'.out.2 (by omega) W h.row.sees
              have hNN : Hid (∀ W, PS w w2.heap.size w3.heap.size n c'.h c'.l c'.l A2 W → Calls Try.prog 16 #[.agg #[.int .u32 c'.h, .slice A2 n n], .int .i64 n, .int .i64 p, .int .u32 q] W (Says W (.int .i64 (-1)))) := Lib.hid fun W h => by
                have := Next_any c' HCO'.out.1 A2 n n HCO'.out.2 n p HP.out.1 q HP.out.2 W h.row.sees
                rwa [nx_no c' n p q (hasC_no.2 (by rw [HCO'.out.2]; omega))] at this
              have hNM : Hid (∀ W, PS w w2.heap.size w3.heap.size n c'.h c'.l c'.l A2 W → Calls Try.prog 16 #[.agg #[.int .u32 c'.h, .slice A2 n n], .int .i64 (-1), .int .i64 p, .int .u32 q] W (Says W (.int .i64 (-1)))) := Lib.hid fun W h => by
                have := Next_any c' HCO'.out.1 A2 n n HCO'.out.2 (-1) p HP.out.1 q HP.out.2 W h.row.sees
                rwa [nx_no c' (-1) p q (hasC_no.2 (by omega))] at this
              go_wp2
              go_loopw [29, 30] (fun s29 s30 wr => ∃ k s : Nat, s29 = .int .i64 s ∧ s30 = .int .i64 k ∧ k ≤ n ∧ s ≤ 32 * (k + 1) ∧ Hid (s = s0 + tot (c'.l.take k)) ∧ Hid (PS w w2.heap.size w3.heap.size n c'.h c'.l c'.l A2 wr)) (fun _ s30 _ => n - (intOf s30).toNat)
              case atStart => exact ⟨0, s0, rfl, rfl, Nat.zero_le _, by omega, Lib.hid (by simp [tot]), hM⟩
              case round =>
                clear hM
                rename World => wv
                obtain ⟨k, s, rfl, rfl, hk, hsl, hS, hM⟩ := hrel
                by_cases hkn : k < n
                · have j1 : (k : Int) < (n : Int) := by omega
                  have hlt2 : k < c'.l.length := by rw [HCO'.out.2]; exact hkn
                  have hat0 := row_at hlt2
                  have hyes : hasC c'.l.length k = true := hasC_iff.2 ⟨by omega, by omega⟩
                  obtain ⟨b, rfl, hbX, hbR, hbw⟩ : ∃ b, A2 = some ⟨b, 0, none⟩ ∧ b ≠ w2.heap.size ∧ b ≠ w3.heap.size ∧ Bx wv b (un c'.l).toArray := by
                    rcases hM.out.row with h | h
                    · rw [h] at hlt2; cases hlt2
                    · exact h
                  have hS' : Hid (PB w w2.heap.size w3.heap.size n c'.h c'.l c'.l (some ⟨b, 0, none⟩) b (un c'.l).toArray wv) := Lib.hid ⟨hM.out, hbw⟩
                  have HAT := Lib.hid (un_cell hat0)
                  have HT := Lib.hid (tot_take hat0)
                  obtain ⟨y, hy⟩ : ∃ y, nx c' k p q = y := ⟨_, rfl⟩
                  have hyr : rnx (row c' k) (c'.h &&& q) p = y := (rnx_nx hyes p q).trans hy
                  have HN1 : Hid (∀ W, PS w w2.heap.size w3.heap.size n c'.h c'.l c'.l (some ⟨b, 0, none⟩) W → Calls Try.prog 16 #[.agg #[.int .u32 c'.h, .slice (some ⟨b, 0, none⟩) n n], .int .i64 k, .int .i64 p, .int .u32 q] W (Says W (.int .i64 y))) := Lib.hid fun W h => by
                    have := Next_any c' HCO'.out.1 (some ⟨b, 0, none⟩) n n HCO'.out.2 k p HP.out.1 q HP.out.2 W h.row.sees
                    rwa [hy] at this
                  have hr32 := row_lt HCO'.out.1 k
                  have HX := Lib.hid (HRM.out (row c' k) hr32)
                  have HR1 : Hid (∀ W, Calls Try.prog 17 #[.int .u32 (row c' k : Nat), .int .u32 (c'.h &&& q : Nat), .int .i64 p] W fun e w' => e = .returned (.int .i64 y) ∧ W = w') := Lib.hid fun W => by
                    have := rcNext_any (row c' k) (c'.h &&& q) p hr32 (and_lt HP.out.2) HP.out.1 W
                    rwa [hyr] at this
                  have hand : bits .and .u32 c'.h q = ((c'.h &&& q : Nat) : Int) := u32_and_nat _ _ HCO'.out.1.1 HP.out.2
                  have hpx := pc_le (row c' k)
                  generalize c'.h &&& q = hq at hand HR1
                  generalize row c' k = x at HAT HT HX HR1 hpx
                  generalize pc x = px at HT HX hpx
                  have e2 : IntKind.i64.wrap ((s : Int) + (px : Int)) = ((s + px : Nat) : Int) := by rw [IntWalk.i64_in _ (by omega)]; omega
                  have e3 : IntKind.i64.wrap ((k : Int) + 1) = ((k + 1 : Nat) : Int) := by rw [IntWalk.i64_in _ (by omega)]; rfl
                  have z1 : ((x : Int) != (x : Int)) = false := by simp
                  have z2 : (y != y) = false := by simp
                  have x0 := hM.out.own.cell HAT.out
                  have HB3 := Lib.hid (And.intro hk (And.intro hkn hsl))
                  clear hy hyr hr32 hat0 hlt2 hyes hbX hbR hbw hMC hNN hNM HRM HI3 HCO' hM
                  go_upto_region 51 with (go_at_call 15; (with_reducible refine (HX.out _).mono ?_); rintro e w6 ⟨rfl, rfl⟩)
                  clear x0
                  refine wp_region_all _ PB.closed hS'.out (by kernel_rfl) (by kernel_rfl) ?_
                  apply Exists.intro
                  refine ⟨fun w7 h7 => ?_, fun W7 hJ7 hb7 => ?_⟩
                  · haveI := Ext.some h7
                    have p0 : ∀ m : Ext (PB w w2.heap.size w3.heap.size n c'.h c'.l c'.l (some ⟨b, 0, none⟩) b (un c'.l).toArray) w7, m.W.cell? ⟨w2.heap.size, 0, none⟩ = some (.int .u32 c'.h) := fun m => m.h.ps.box.c2.1
                    have p1 : ∀ m : Ext (PB w w2.heap.size w3.heap.size n c'.h c'.l c'.l (some ⟨b, 0, none⟩) b (un c'.l).toArray) w7, m.W.cell? ⟨w2.heap.size, 1, none⟩ = some (.slice (some ⟨b, 0, none⟩) n n) := fun m => m.h.ps.box.c2.2
                    have p2 : ∀ m : Ext (PB w w2.heap.size w3.heap.size n c'.h c'.l c'.l (some ⟨b, 0, none⟩) b (un c'.l).toArray) w7, m.W.cell? ⟨w3.heap.size, k, none⟩ = some (.int .u32 x) := fun m => m.h.ps.own.cell HAT.out
                    have p3 : ∀ m : Ext (PB w w2.heap.size w3.heap.size n c'.h c'.l c'.l (some ⟨b, 0, none⟩) b (un c'.l).toArray) w7, m.W.cell? ⟨b, k, none⟩ = some (.int .u32 x) := fun m => m.h.bx.cell HAT.out
                    have k1 := Lib.hid (Ext.calls h7 PB.closed (fun W h => HN1.out W h.ps))
                    have k2 := Lib.hid (Ext.calls h7 PB.closed (fun W _ => says_of_same (HR1.out W)))
                    repeat go_big_quiet_step (first | (go_at_call 16; with_reducible exact k1.out _) | (go_at_call 17; with_reducible exact k2.out _))
                    exact wpQuiet_nil rfl
                  · have hk7 := Lib.hid hJ7.ps
                    clear hJ7 hb7 hS' HN1 HR1 HX
                    go_wp2
                    go_roundw
                    case rel => exact ⟨k + 1, s + px, rfl, rfl, by have := HB3.out; omega, by have := HB3.out; omega, Lib.hid (by rw [HT.out, hS.out]; omega), hk7⟩
                    case measure => have := HB3.out; simp [intOf]; omega
                · obtain rfl : k = n := by omega
                  have htk : c'.l.take k = c'.l := List.take_of_length_le (by rw [HCO'.out.2]; exact Nat.le_refl _)
                  have hsm : s = mn c' := by rw [hS.out, htk, ← HS0.out]; rfl
                  rw [← hsm] at hMC
                  obtain ⟨a0, a1⟩ := hM.out.box.c2
                  have z1 : ((s : Int) != (s : Int)) = false := by simp
                  have i3' := HI3.out.1
                  have e1' := HI3.out.2
                  clear htk hsm hS HRM HS0
                  go_wp2_with (first
                    | (go_at_call 18; (with_reducible refine (hMC.out _ hM.out).mono ?_); rintro e w8 ⟨rfl, h8⟩; have hM8 := Lib.hid (hM.out.next h8); clear h8 a0 a1 hM hMC; obtain ⟨a0, a1⟩ := hM8.out.box.c2)
                    | (go_at_call 16; (with_reducible refine (hNN.out _ hM8.out).mono ?_); rintro e w9 ⟨rfl, h9⟩; have hM9 := Lib.hid (hM8.out.next h9); clear h9 a0 a1 hM8 hNN; obtain ⟨a0, a1⟩ := hM9.out.box.c2)
                    | (go_at_call 16; (with_reducible refine (hNM.out _ hM9.out).mono ?_); rintro e w10 ⟨rfl, h10⟩; have hM10 := Lib.hid (hM9.out.next h10); clear h10 a0 a1 hM9 hNM))
                  go_roundw
                  case rel => exact ⟨i + 1, c', A2, rfl, rfl, by omega, HCO', hM10⟩
                  case measure => simp [intOf]; omega
        · have hlen : ¬ (i : Int) < (len : Int) := by omega
          clear HS HL HP HCO
          go_wp2
          go_ret
          exact ⟨rfl, hM.out.below⟩
end Go.Proofs.Ytojioadonbiiaaa.Walk
