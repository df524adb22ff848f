/- The reference's line of a tick. -/
import Derived.Test.YthpbcbbiampamaaGreatDoorScrD
namespace Go.Proofs.YthpbcbbiampamaaGreatDoor.Scr
open Go.RowKit Go.Proofs.YthpbcbbiampamaaGreatDoor.ScrP Go.Proofs.YthpbcbbiampamaaGreatDoor.Box Go.Proofs.YthpbcbbiampamaaGreatDoor.Held Go.Proofs.YthpbcbbiampamaaGreatDoor.Sees
set_option linter.unusedVariables false
set_option maxRecDepth 100000

/-- events' cells -/
def evc (es : List E) : List Value := es.flatMap fun e => [.int .i64 e.k, .int .i64 e.c, .int .i64 e.n]
theorem evc_snoc (es : List E) (e : E) : evc (es ++ [e]) = evc es ++ [.int .i64 e.k, .int .i64 e.c, .int .i64 e.n] := by simp [evc]
theorem evc_len (es : List E) : (evc es).length = es.length * 3 := by
  induction es with
  | nil => rfl
  | cons e es ih => show (_ :: _ :: _ :: evc es).length = _; simp only [List.length_cons, ih]; omega
theorem evc_at : ∀ {es : List E} {i : Nat} {e : E}, es[i]? = some e → (evc es)[i * 3]? = some (.int .i64 e.k) ∧ (evc es)[i * 3 + 1]? = some (.int .i64 e.c) ∧ (evc es)[i * 3 + 2]? = some (.int .i64 e.n) := by
  intro es
  induction es with
  | nil => intro i e h; cases h
  | cons x es ih =>
    intro i e h
    have hc : evc (x :: es) = .int .i64 x.k :: .int .i64 x.c :: .int .i64 x.n :: evc es := rfl
    rw [hc]
    cases i with
    | zero =>
      simp only [List.getElem?_cons_zero, Option.some.injEq] at h
      subst h
      exact ⟨rfl, rfl, rfl⟩
    | succ i =>
      rw [List.getElem?_cons_succ] at h
      obtain ⟨h1, h2, h3⟩ := ih h
      rw [show (i + 1) * 3 = i * 3 + 3 by omega]
      exact ⟨h1, h2, h3⟩
theorem evc_one (es : List E) : ∀ u ∈ evc es, u.oneCell' = true := by
  intro u hu
  obtain ⟨e, _, h⟩ := List.mem_flatMap.1 hu
  simp only [List.mem_cons, List.not_mem_nil, or_false] at h
  rcases h with rfl | rfl | rfl <;> rfl
/-- where an event lies -/
theorem sees_ev {w W : World} {A : Option Addr} {es : List E} (hs : Sees w w.heap.size A (evc es)) (hb : Below w.heap.size w W) {i : Nat} {e : E} (h : es[i]? = some e) :
    ∃ b o, A = some ⟨b, o, none⟩ ∧ b < w.heap.size ∧ W.cell? ⟨b, o + i * 3, none⟩ = some (.int .i64 e.k) ∧ W.cell? ⟨b, o + i * 3 + 1, none⟩ = some (.int .i64 e.c) ∧ W.cell? ⟨b, o + i * 3 + 2, none⟩ = some (.int .i64 e.n) := by
  obtain ⟨h1, h2, h3⟩ := evc_at h
  rcases hs with hs | ⟨b, o, ha, hlt, hc⟩
  · rw [hs] at h1; cases h1
  · exact ⟨b, o, ha, hlt, (hb.cell (p := ⟨b, _, none⟩) hlt).trans (hc _ _ h1), (hb.cell (p := ⟨b, _, none⟩) hlt).trans (by have := hc _ _ h2; rwa [← Nat.add_assoc] at this), (hb.cell (p := ⟨b, _, none⟩) hlt).trans (by have := hc _ _ h3; rwa [← Nat.add_assoc] at this)⟩
/-- a tick's value -/
def tvc (m g : Bool) (cap : Int) (bl : Nat) (A : Option Addr) (n c : Nat) : Array Value := #[.bool m, .bool g, .int .i64 cap, .int .u64 bl, .slice A n c]
def tv (t : T) (A : Option Addr) (n c : Nat) : Value := .agg (tvc t.m t.g t.cap t.bl A n c)

/-- an event's words, one by one -/
def z1 (y wd : By) : By := y ++ ([32] ++ wd)
def z2 (y wd : By) (b : Bool) (c : Int) : By := if b then z1 y wd ++ ([32] ++ Lib.itoa c) else z1 y wd
def z3 (y wd : By) (b1 b2 : Bool) (c n : Int) : By := if b2 then z2 y wd b1 c ++ ([32] ++ Lib.itoa n) else z2 y wd b1 c
theorem z3_put (t : T) (l : List E) (e : E) (h : isK e = true) : z3 (put { t with es := l }) (kw e.k).1 (kw e.k).2.1 (kw e.k).2.2 e.c e.n = put { t with es := l ++ [e] } := by
  rw [put_snoc, evw_yes h]
  unfold z3 z2 z1 evt
  cases (kw e.k).2.1 <;> cases (kw e.k).2.2 <;> simp [tail_cons, tail_nil]
theorem z_none (t : T) (l : List E) (e : E) (h : isK e = false) : put { t with es := l } = put { t with es := l ++ [e] } := by
  rw [put_snoc, evw_no h, tail_nil, List.append_nil]

set_option maxHeartbeats 12800000 in
theorem rPut_any (t : T) (A : Option Addr) (n c : Nat) (w : World) (ht : t.In) (hn : t.es.length = n) (hN : n ≤ 1000) (hs : Sees w w.heap.size A (evc t.es)) : Calls Tryz.prog 9 #[tv t A n c] w (Says w (.string (S (put t)))) := by
  have hj0 : Hid (JS w _ _) := Lib.hid (J.one w (tvc t.m t.g t.cap t.bl A n c) 31)
  have HNu := Lib.hid (fun W => rNumber_any t.cap ht.cap W)
  have HU := Lib.hid (fun W => rUns_any t.bl ht.bl W)
  have HT := Lib.hid ht
  have HS := Lib.hid hs
  obtain ⟨P, hP⟩ : ∃ P, gv t.m wMains ++ [32] ++ gv t.g wGen ++ [32] = P := ⟨_, rfl⟩
  have HPl : P.length ≤ 12 := by rw [← hP]; cases t.m <;> cases t.g <;> decide
  have h4 := dec_len ht.bl
  have h3 := itoa_len ht.cap
  have ka1 : ∀ W, (Op.stringOp .add (S (Lib.itoa t.cap)) ⟨#[32]⟩).run Tryz.prog W = .ok (.string (S (Lib.itoa t.cap ++ [32]))) W := fun W => run_add W _ [32] (by simp; omega)
  have ka2 : ∀ W, (Op.stringOp .add (S (Lib.itoa t.cap ++ [32])) (S (Lib.decDigits t.bl))).run Tryz.prog W = .ok (.string (S (Lib.itoa t.cap ++ [32] ++ Lib.decDigits t.bl))) W := fun W => run_add W _ _ (by simp; omega)
  have ka3 : ∀ W, (Op.stringOp .add (S P) (S (Lib.itoa t.cap ++ [32] ++ Lib.decDigits t.bl))).run Tryz.prog W = .ok (.string (S (put { t with es := t.es.take 0 }))) W := fun W => by
    rw [run_add W _ _ (by simp; omega), List.take_zero, put_none, ← hP]
    congr 3
    simp only [List.append_assoc]
  have hk : ∀ W, (Op.stringOp .add (if t.m then ⟨#[109, 97, 105, 110, 115, 32]⟩ else ⟨#[110, 111, 110, 101, 32]⟩) (if t.g then ⟨#[103, 101, 110, 32]⟩ else ⟨#[110, 111, 110, 101, 32]⟩)).run Tryz.prog W = .ok (.string (S P)) W := fun W => by
    rw [← hP]
    cases t.m <;> cases t.g
    · exact run_add W [110, 111, 110, 101, 32] [110, 111, 110, 101, 32] (by decide)
    · exact run_add W [110, 111, 110, 101, 32] [103, 101, 110, 32] (by decide)
    · exact run_add W [109, 97, 105, 110, 115, 32] [110, 111, 110, 101, 32] (by decide)
    · exact run_add W [109, 97, 105, 110, 115, 32] [103, 101, 110, 32] (by decide)
  have hend : put { t with es := t.es.take n } = put t := by rw [← hn, List.take_length]
  have HE := Lib.hid hend
  obtain ⟨pt, hpt⟩ : ∃ pt : List E → By, ∀ l, pt l = put { t with es := l } := ⟨_, fun l => rfl⟩
  obtain ⟨q, hq⟩ : ∃ q : Nat → ByteArray, ∀ i, q i = S (put { t with es := t.es.take i }) := ⟨_, fun i => rfl⟩
  have HQ : Hid (∀ i, q i = S (pt (t.es.take i))) := Lib.hid fun i => by rw [hq, hpt]
  have HZ : Hid (∀ l e, isK e = false → pt l = pt (l ++ [e])) := Lib.hid fun l e h => by rw [hpt, hpt]; exact z_none t l e h
  have HZ3 : Hid (∀ l e, isK e = true → z3 (pt l) (kw e.k).1 (kw e.k).2.1 (kw e.k).2.2 e.c e.n = pt (l ++ [e])) := Lib.hid fun l e h => by rw [hpt, hpt]; exact z3_put t l e h
  have HPL : Hid (∀ l, (∀ e ∈ l, e.In) → (pt l).length ≤ 60 + 60 * l.length) := Lib.hid fun l h => by rw [hpt]; exact put_len ht l h
  have HQe : S (put t) = q n := by rw [hq, hend]
  rw [HQe]
  rw [← hq] at ka3
  clear hP HPl h3 h4 hend hq HQe hs hpt HE
  unfold tv tvc
  unfold tvc at hj0
  generalize hm : t.m = m at *
  generalize hg : t.g = g at *
  generalize hcap : t.cap = cap at *
  generalize hbl : t.bl = bl at *
  have HM := Lib.hid (And.intro hm (And.intro hg (And.intro hcap hbl)))
  clear hm hg hcap hbl ht
  generalize S (Lib.itoa cap ++ [32] ++ Lib.decDigits bl) = s3 at *
  generalize S (Lib.itoa cap ++ [32]) = s2 at *
  generalize S (Lib.itoa cap) = s1 at *
  generalize S (Lib.decDigits bl) = s4 at *
  generalize S P = sP at *
  have hb := hj0.out.bx 0 rfl
  obtain ⟨c0, c1, c2, c3, c4⟩ := hb.c5
  obtain ⟨f0, f1, f2, f3, f4⟩ := hb.f5
  clear hb
  cases m <;> cases g
  all_goals
    simp only [Bool.false_eq_true, if_true, if_false] at hk
    go_enter Tryz.func9, Tryz.ntmps9
    go_wp2
    refine wp_region_tail 10 _ JS.closed hj0.out (by kernel_rfl) (by kernel_rfl) ?_
    simp only [List.take_succ_cons, List.take_zero, List.drop_succ_cons, List.drop_zero]
    apply Exists.intro
    refine ⟨fun w3 h3 => ?_, fun W3 hJ3 hb3 => ?_⟩
    · haveI := Ext.some h3
      have q2 := ext_at h3 0 2 (v := .int .i64 cap) rfl rfl
      have q3 := ext_at h3 0 3 (v := .int .u64 bl) rfl rfl
      have cN := Lib.hid (Ext.calls h3 JS.closed (fun W _ => HNu.out W))
      have cU := Lib.hid (Ext.calls h3 JS.closed (fun W _ => HU.out W))
      repeat go_big_quiet_step (first | (go_at_call 22; with_reducible exact cN.out _) | (go_at_call 23; with_reducible exact cU.out _))
      exact wpQuiet_nil rfl
    · have HJ3 := Lib.hid hJ3
      clear hJ3 c0 c1 c2 c3 c4 f0 f1 f2 f3 f4 hj0
      change wpList _ _ _ _ _ _
      go_wp2
      go_loopw [3, 4] (fun s i wr => ∃ (j : Nat), i = .int .i64 j ∧ j ≤ n ∧ s = .string (q j) ∧ Hid (JS w [(w.heap.size, _)] wr)) (fun _ i _ => n - (intOf i).toNat)
      case atStart => exact ⟨0, rfl, Nat.zero_le _, rfl, HJ3⟩
      case round =>
        obtain ⟨j, rfl, hj, rfl, HJ⟩ := hrel
        obtain ⟨c0, c1, c2, c3, c4⟩ := (HJ.out.bx 0 rfl).c5
        by_cases hlt : j < n
        · obtain ⟨e, he⟩ : ∃ e, t.es[j]? = some e := ⟨t.es[j]'(by omega), List.getElem?_eq_getElem _⟩
          obtain ⟨b, o, rfl, hbl, d0, d1, d2⟩ := sees_ev HS.out HJ.out.below he
          have hei : e.In := HT.out.es e (List.mem_of_getElem? he)
          have hpl := HPL.out (t.es.take j) (fun x hx => HT.out.es x (List.mem_of_mem_take hx))
          have htl : (t.es.take j).length ≤ 1000 := by rw [List.length_take]; omega
          have hq0 := HQ.out j
          have hq1 := HQ.out (j + 1)
          rw [List.take_add_one, he, Option.toList_some] at hq1
          have HK := Lib.hid (fun W => rKind_any e.k W)
          have HC := Lib.hid (fun W => rNumber_any e.c hei.1 W)
          have HN := Lib.hid (fun W => rNumber_any e.n hei.2 W)
          have hkl := kw_len e.k
          have hcl := itoa_len hei.1
          have hnl := itoa_len hei.2
          have i1 : (j : Int) < (n : Int) := by omega
          have u1 : IntKind.i64.wrap ((j : Int) + 1) = ((j + 1 : Nat) : Int) := by rw [IntWalk.i64_in _ (by omega)]; omega
          cases hk : isK e
          · rw [← HZ.out _ e hk, ← hq0] at hq1
            have HQ1 := Lib.hid hq1
            rw [kw_no (of_decide_eq_false hk)] at HK
            simp only at HK
            have e1 := s_empty
            clear hq0 hq1 hk HC HN hcl hnl hkl hpl htl he hei
            generalize S [] = s0 at *
            generalize q j = qj at *
            go_wp2_with (go_at_call 14; refine (HK.out _).mono ?_; rintro e' w' ⟨rfl, rfl⟩)
            go_roundw
            case rel => exact ⟨j + 1, rfl, by omega, by rw [HQ1.out], Lib.hid (J.alloc HJ.out _)⟩
            case measure => simp [intOf]; omega
          · rw [← HZ3.out _ e hk] at hq1
            have hne := (kd_kw (of_decide_eq_true hk)).1
            generalize pt (t.es.take j) = y at *
            obtain ⟨⟨wd, b1, b2⟩, hkw⟩ : ∃ x, kw e.k = x := ⟨_, rfl⟩
            rw [hkw] at HK hq1 hne hkl
            simp only at HK hq1 hne hkl
            have hl0 : ¬ (S wd).toList = [] := by rw [s_list]; exact hne
            have hl1 : (S wd).toList.isEmpty = false := by rw [s_list]; cases wd with
              | nil => exact absurd rfl hne
              | cons c r => rfl
            have k1 : ∀ W, (Op.stringOp .add ⟨#[32]⟩ (S wd)).run Tryz.prog W = .ok (.string (S ([32] ++ wd))) W := fun W => run_add W [32] _ (by simp; omega)
            have k2 : ∀ W, (Op.stringOp .add (q j) (S ([32] ++ wd))).run Tryz.prog W = .ok (.string (S (z1 y wd))) W := fun W => by rw [hq0]; exact run_add W _ _ (by simp; omega)
            have k3 : ∀ W, (Op.stringOp .add ⟨#[32]⟩ (S (Lib.itoa e.c))).run Tryz.prog W = .ok (.string (S ([32] ++ Lib.itoa e.c))) W := fun W => run_add W [32] _ (by simp; omega)
            have k4 : ∀ W, (Op.stringOp .add (S (z1 y wd)) (S ([32] ++ Lib.itoa e.c))).run Tryz.prog W = .ok (.string (S (z2 y wd true e.c))) W := fun W => run_add W _ _ (by unfold z1; simp; omega)
            have k5 : ∀ W, (Op.stringOp .add ⟨#[32]⟩ (S (Lib.itoa e.n))).run Tryz.prog W = .ok (.string (S ([32] ++ Lib.itoa e.n))) W := fun W => run_add W [32] _ (by simp; omega)
            have k6 : ∀ W, (Op.stringOp .add (S (z2 y wd b1 e.c)) (S ([32] ++ Lib.itoa e.n))).run Tryz.prog W = .ok (.string (S (z3 y wd b1 true e.c e.n))) W := fun W => run_add W _ _ (by unfold z2 z1; cases b1 <;> simp <;> omega)
            have z2f : z2 y wd false e.c = z1 y wd := rfl
            have z3f : z3 y wd b1 false e.c e.n = z2 y wd b1 e.c := rfl
            have HQ1 := Lib.hid hq1
            clear hq0 hq1 hne hk hkw hcl hnl hkl hpl htl he hei
            generalize S ([32] ++ Lib.itoa e.n) = s5 at *
            generalize S ([32] ++ Lib.itoa e.c) = s6 at *
            generalize S (Lib.itoa e.n) = s7 at *
            generalize S (Lib.itoa e.c) = s8 at *
            generalize S ([32] ++ wd) = s9 at *
            generalize S wd = sw at *
            generalize q j = qj at *
            cases b1 <;> cases b2
            all_goals
              first | rw [z3f] at HQ1 | skip
              first | rw [z2f] at HQ1 | skip
              first | rw [z2f] at k6 | skip
              clear z2f z3f
              go_wp2_with (first
                | (go_at_call 14; refine (HK.out _).mono ?_; rintro e' w' ⟨rfl, rfl⟩)
                | (go_at_call 22; first
                  | ((with_reducible refine (HC.out _).mono ?_); clear HC; rintro e' w1 ⟨rfl, h1⟩; obtain ⟨g0, g1, g2⟩ := ((Bx.new wr #[.int .i64 e.k, .int .i64 e.c, .int .i64 e.n] 45).next h1).c3)
                  | ((with_reducible refine (HN.out _).mono ?_); clear HN; rintro e' w2 ⟨rfl, h2⟩)))
              go_roundw
              all_goals first
                | exact ⟨j + 1, rfl, by omega, by rw [HQ1.out], Lib.hid (J.alloc HJ.out _)⟩
                | exact ⟨j + 1, rfl, by omega, by rw [HQ1.out], Lib.hid ((J.alloc HJ.out _).next h1)⟩
                | exact ⟨j + 1, rfl, by omega, by rw [HQ1.out], Lib.hid ((J.alloc HJ.out _).next h2)⟩
                | exact ⟨j + 1, rfl, by omega, by rw [HQ1.out], Lib.hid (((J.alloc HJ.out _).next h1).next h2)⟩
                | (simp [intOf]; omega)
        · have i1 : ¬ (j : Int) < (n : Int) := by omega
          obtain rfl : j = n := by omega
          generalize q j = qj at *
          go_wp2
          go_ret
          exact ⟨rfl, HJ.out.below⟩
end Go.Proofs.YthpbcbbiampamaaGreatDoor.Scr
