/- Contracts of watch's first with Frees' closure, of Frees. -/
import Derived.Test.YthgfjikhbgippaaDoorWatO
import Derived.Test.YthgfjikhbgippaaDoorWatP
import Derived.Test.YthgfjikhbgippaaDoorPhaE
import Derived.Test.YthgfjikhbgippaaDoorOrdR0
namespace Go.Proofs.YthgfjikhbgippaaDoor.Wat
open Go.RowKit Go.Proofs.YthgfjikhbgippaaDoor.Plain Go.Proofs.YthgfjikhbgippaaDoor.WatP Go.Proofs.YthgfjikhbgippaaDoor.OrdP Go.Proofs.YthgfjikhbgippaaDoor.Open Go.Proofs.YthgfjikhbgippaaDoor.Sees Go.Proofs.YthgfjikhbgippaaDoor.Box Go.Proofs.YthgfjikhbgippaaDoor.Held Go.Proofs.YthgfjikhbgippaaDoor.Pha
set_option linter.unusedVariables false
set_option maxRecDepth 100000

/-- facts as they lie -/
structure Sh (W : World) (A : Option Addr) (l : List Fc) : Prop where
  see : Sees W W.heap.size A (l.map fcc).flatten
  rows : ∀ x ∈ l, Rok W x.r
  bits : ∀ x ∈ l, x.rs < 18446744073709551616
theorem Sh.bw {w W : World} {A : Option Addr} {l : List Fc} (h : Sh w A l) (hW : Bw w W) : Sh W A l := ⟨sees_bw h.see hW, fun x hx => (h.rows x hx).bw hW, h.bits⟩
/-- a fact as a value -/
def fcv (x : Fc) : Value := .agg #[.int .i64 x.pw, .int .i64 x.dr, .int .i64 x.cp, x.r.val, .int .u64 (x.rs : Nat)]
/-- does a car rest in fact t? -/
def rst (l : List Fc) (car : Int) (t : Nat) : Bool := hb (l[t]?.getD default).rs car
theorem rst_at {l : List Fc} {car : Int} {t : Nat} {x : Fc} (h : l[t]? = some x) : rst l car t = hb x.rs car := by unfold rst; rw [h]; rfl
/-- in how many ticks from m on -/
def fz (v : Int) (m : Nat) : Int := if v = -1 then -1 else v - m

theorem frees1_any (x : Fc) (hx : x.rs < 18446744073709551616) (car : Int) (C : Nat) (w : World) (hC : Bx w C #[.int .i64 car]) : Calls Tryd.prog 26 #[fcv x, .pointer (some ⟨C, 0, none⟩)] w (Says w (.bool (hb x.rs car))) := by
  obtain ⟨pw, dr, cp, r, rs⟩ := x
  simp only at hx
  have HH := Lib.hid fun W => Ord.Has_any rs car W hx
  unfold fcv
  simp only
  have hj := Lib.hid (J.one w #[.int .i64 pw, .int .i64 dr, .int .i64 cp, r.val, .int .u64 (rs : Nat)] 40)
  obtain ⟨a0, a1, a2, a3, a4⟩ := (hj.out.bx 0 rfl).c5
  have c0 := (hC.alloc (.cells #[.int .i64 pw, .int .i64 dr, .int .i64 cp, r.val, .int .u64 (rs : Nat)] 40)).c1
  generalize r.val = rv at *
  generalize hb rs car = q at *
  clear hx hC
  go_enter Tryd.func26, Tryd.ntmps26
  go_wp2_with (go_at_call 27; ((with_reducible refine (HH.out _).mono ?_); rintro e w1 ⟨rfl, rfl⟩))
  go_ret
  exact ⟨rfl, hj.out.below⟩

set_option maxHeartbeats 3200000 in
theorem firstF_any (l : List Fc) (A : Option Addr) (n c m : Nat) (car : Int) (C : Nat) (w : World) (hl : l.length = n) (hn : n ≤ maxLen) (hs : Sh w A l) (hC : Bx w C #[.int .i64 car]) (v : Int) (hv : Fi (rst l car) m n v) :
    Calls Tryd.prog 22 #[.slice A n c, .int .i64 m, .func (.func 26) #[] #[.pointer (some ⟨C, 0, none⟩)]] w (Says w (.int .i64 v)) := by
  have HF : Hid (∀ x W, x ∈ l → Hid (Bw w W) → Calls Tryd.prog 26 #[fcv x, .pointer (some ⟨C, 0, none⟩)] W (On w (.bool (hb x.rs car)))) := Lib.hid fun x W hx hW => on_says hW (frees1_any x (hs.bits x hx) car C W (hC.next hW.out))
  have K0 : Hid (Bw w w) := Lib.hid (Bw.refl w)
  have HS := Lib.hid hs
  have HN := Lib.hid hn
  have HL := Lib.hid hl
  have HV := Lib.hid hv
  clear hl hs hn hC hv
  go_enter Tryd.func22, Tryd.ntmps22
  go_wp2
  go_loopw [7] (fun i wr => ∃ k : Nat, i = .int .i64 k ∧ m ≤ k ∧ Hid (Bw w wr) ∧ Hid (∀ t, m ≤ t → t < k → rst l car t = false)) (fun i _ => n - (intOf i).toNat)
  case atStart => exact ⟨m, rfl, Nat.le_refl _, K0, Lib.hid fun t a b => by omega⟩
  case round =>
    clear K0
    obtain ⟨k, rfl, hk, K, hM⟩ := hrel
    by_cases hlt : k < n
    · obtain ⟨x, hx⟩ : ∃ x, l[k]? = some x := ⟨_, List.getElem?_eq_getElem (by rw [HL.out]; omega)⟩
      obtain ⟨b, o, rfl, hbb, c0, c1, c2, c3, c4⟩ := facts_at (HS.out.bw K.out).see k hx
      have HA := Lib.hid fun W hW => HF.out x W (List.mem_of_getElem? hx) hW
      have HR := Lib.hid (rst_at (car := car) hx)
      obtain ⟨pw, dr, cp, r, rs⟩ := x
      unfold fcv at HA
      simp only at HA HR c0 c1 c2 c3 c4
      generalize r.val = rv at *
      have i1 : (k : Int) < (n : Int) := by omega
      have e3 : IntKind.i64.wrap ((k : Int) + 1) = ((k + 1 : Nat) : Int) := by rw [IntWalk.i64_in _ (by have := HN.out; unfold maxLen at this; omega)]; rfl
      clear hx HF
      cases hh : hb rs car
      · rw [hh] at HA HR
        have HM2 : Hid (∀ t, m ≤ t → t < k + 1 → rst l car t = false) := Lib.hid fun t a b => by
          by_cases e : t = k
          · subst e; exact HR.out
          · exact hM.out t a (by omega)
        clear hh
        go_wp2_with (go_at_call 26; ((with_reducible refine (HA.out _ K).mono ?_); rintro e w1 ⟨rfl, K1⟩))
        go_roundw
        case rel => exact ⟨k + 1, rfl, by omega, K1, HM2⟩
        case measure => simp [intOf]; omega
      · rw [hh] at HA HR
        have HE : Hid (v = k) := Lib.hid (HV.out.one ((Fi.here hlt HR.out).from hk hM.out))
        clear hh
        go_wp2_with (go_at_call 26; ((with_reducible refine (HA.out _ K).mono ?_); rintro e w1 ⟨rfl, K1⟩))
        go_ret
        exact ⟨ret_int HE.out.symm, K1.out⟩
    · have i1 : ¬ (k : Int) < (n : Int) := by omega
      have HE : Hid (v = -1) := Lib.hid (HV.out.one ((Fi.none _ (Nat.le_of_not_lt hlt)).from hk hM.out))
      go_wp2
      go_ret
      exact ⟨ret_int HE.out.symm, K.out⟩

set_option maxHeartbeats 1600000 in
theorem Frees_any (l : List Fc) (A : Option Addr) (n c : Nat) (car frm : Int) (hfr : frm < 9223372036854775808) (m : Nat) (hm : frm.toNat = m) (w : World) (hl : l.length = n) (hn : n ≤ maxLen) (hs : Sh w A l) (v : Int) (hv : Fi (rst l car) m n v) :
    Calls Tryd.prog 13 #[.int .i64 car, .int .i64 frm, .slice A n c] w (Says w (.int .i64 (fz v m))) := by
  have HB : Hid (J w (w.alloc (.cells #[.int .i64 car] 3)) _) := Lib.hid (J.one w #[.int .i64 car] 3)
  have HF := Lib.hid (firstF_any l A n c m car w.heap.size (w.alloc (.cells #[.int .i64 car] 3)) hl hn (hs.bw HB.out.below) (HB.out.bx 0 rfl) v hv)
  have hmx : ∀ W, (Builtin.max_ #[3, 3] 3 #[.int .i64 0, .int .i64 frm]).run Tryd.prog W = .ok (.int .i64 (m : Int)) W := fun W => by
    rw [run_max_int2]; congr 2; split <;> omega
  have hv' := hv.lt
  unfold maxLen at hn
  have ew : ¬ v = -1 → IntKind.i64.wrap (v - m) = v - m := fun h => IntWalk.i64_in _ (by omega)
  have EW := Lib.hid ew
  clear hl hs hv ew hm hfr
  by_cases h1 : v = -1
  · subst h1
    go_enter Tryd.func13, Tryd.ntmps13
    go_wp2_with (go_at_call 22; ((with_reducible refine HF.out.mono ?_); rintro e w1 ⟨rfl, k1⟩; have K1 := Lib.hid k1))
    go_ret
    exact ⟨rfl, (HB.out.next K1.out).below⟩
  · have e1 : (v == -1) = false := by simpa using h1
    have e2 := EW.out h1
    have e3 : fz v m = v - m := by unfold fz; rw [if_neg h1]
    rw [e3]
    clear hv'
    go_enter Tryd.func13, Tryd.ntmps13
    go_wp2_with (go_at_call 22; ((with_reducible refine HF.out.mono ?_); rintro e w1 ⟨rfl, k1⟩; have K1 := Lib.hid k1))
    go_ret
    exact ⟨rfl, (HB.out.next K1.out).below⟩
end Go.Proofs.YthgfjikhbgippaaDoor.Wat
