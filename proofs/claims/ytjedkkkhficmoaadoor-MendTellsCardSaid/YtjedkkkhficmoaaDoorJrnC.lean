/- Numbers of a row; whether rows are of a ledger's lengths. -/
import Derived.Test.YtjedkkkhficmoaaDoorJrnA
import Derived.Test.YtjedkkkhficmoaaDoorHeld
import Derived.Test.YtjedkkkhficmoaaDoorOctD
namespace Go.Proofs.YtjedkkkhficmoaaDoor.Jrn
open Go.RowKit Go.Proofs.YtjedkkkhficmoaaDoor.Plain Go.Proofs.YtjedkkkhficmoaaDoor.Sees Go.Proofs.YtjedkkkhficmoaaDoor.Oct Go.Proofs.YtjedkkkhficmoaaDoor.Crc Go.Proofs.YtjedkkkhficmoaaDoor.Box Go.Proofs.YtjedkkkhficmoaaDoor.Held Go.Proofs.YtjedkkkhficmoaaDoor.JrnP
set_option linter.unusedVariables false
set_option maxRecDepth 100000

/-- a row of numbers of the call's own is answered -/
def FN (w : World) (q : Nat) (xs : List Int) (e : Ending) (w' : World) : Prop :=
  ∃ A c, e = .returned (.slice A q c) ∧ q ≤ c ∧ c ≤ maxLen ∧ w'.ownsRow w.heap.size 59 1 (.slice A q c) q (nums .u64 xs) ∧ Below w.heap.size w w'

theorem numbers_any (size q m c : Nat) (a : Option Addr) (bs : List Int) (w : World) (h1 : 1 ≤ size) (h8 : size ≤ 8) (hm : size * q = m) (hlen : bs.length = m) (hq : q ≤ 1000000) (hc : m ≤ c)
    (hsee : Sees w w.heap.size a (nums .u8 bs)) (hb : ∀ b ∈ bs, 0 ≤ b ∧ b ≤ 255) :
    Calls Tryd.prog 49 #[.int .i64 size, .slice a m c] w (FN w q (grp q size bs)) := by
  subst hm
  have HG := Lib.hid (Get_any size q c a bs w h1 h8 hlen hq hc hsee hb)
  generalize grp q size bs = xs at *
  generalize size * q = m at *
  clear hlen hsee
  go_enter Tryd.func49, Tryd.ntmps49
  go_wp2_with (go_at_call 61; (with_reducible refine HG.out.mono ?_); clear HG; rintro e w1 ⟨v, rfl, ho, hb1⟩)
  go_ret
  obtain ⟨A, c', rfl, hc', _, _⟩ := own_form ho
  exact ⟨A, c', rfl, (own_cap ho).1, (own_cap ho).2, ho, hb1⟩

theorem lens3 {rs : List RowV} (h : rs.length = 3) : ∃ r0 r1 r2, rs = [r0, r1, r2] := by
  match rs, h with
  | [r0, r1, r2], _ => exact ⟨r0, r1, r2, rfl⟩

theorem isForm_any (m c : Nat) (a : Option Addr) (rs : List RowV) (w : World) (hl : rs.length = m) (hm : m ≤ 1000000) (hs : Sees w w.heap.size a (rs.map RowV.val)) (hlen : ∀ r ∈ rs, r.bs.length ≤ 1000000) :
    Calls Tryd.prog 47 #[.slice a m c] w fun e w' => e = .returned (.bool (isF (rs.map RowV.bs))) ∧ w = w' := by
  by_cases h3 : m = 3
  · subst h3
    obtain ⟨r0, r1, r2, rfl⟩ := lens3 hl
    obtain ⟨b, o, rfl, _, c0⟩ := hs.at_ (k := 0) (u := r0.val) rfl
    obtain ⟨b1, o1, e1, _, c1⟩ := hs.at_ (k := 1) (u := r1.val) rfl
    obtain ⟨b2, o2, e2, _, c2⟩ := hs.at_ (k := 2) (u := r2.val) rfl
    injection e1 with e1; injection e1 with e1 e1'; subst e1 e1'
    injection e2 with e2; injection e2 with e2 e2'; subst e2 e2'
    have l0 := hlen r0 (by simp)
    have l1 := hlen r1 (by simp)
    have l2 := hlen r2 (by simp)
    obtain ⟨A0, C0, bs0⟩ := r0
    obtain ⟨A1, C1, bs1⟩ := r1
    obtain ⟨A2, C2, bs2⟩ := r2
    simp only [RowV.val] at c0 c1 c2 l0 l1 l2
    have hI : isF ([⟨A0, C0, bs0⟩, ⟨A1, C1, bs1⟩, ⟨A2, C2, bs2⟩].map RowV.bs) = (decide (bs0.length = 8) && decide (bs1.length = 8) && decide (bs2.length % 8 = 0)) := rfl
    rw [hI]
    clear hI hl hs hlen
    rw [Nat.add_zero] at c0
    generalize bs0.length = n0 at *
    generalize bs1.length = n1 at *
    generalize bs2.length = n2 at *
    have ways : n0 ≠ 8 ∨ (n0 = 8 ∧ n1 ≠ 8) ∨ (n0 = 8 ∧ n1 = 8) := by omega
    have e3 : IntKind.i64.wrap ((n2 : Int) % 8) = ((n2 % 8 : Nat) : Int) := by rw [IntWalk.i64_in _ (by omega)]; omega
    rcases ways with h0 | ⟨rfl, h1⟩ | ⟨rfl, rfl⟩
    · have h0' : decide ((n0 : Int) = 8) = false := decide_eq_false (by omega)
      have h0'' : decide (n0 = 8) = false := decide_eq_false h0
      go_enter Tryd.func47, Tryd.ntmps47
      go_wp2
      go_ret
      exact ⟨ret_bool (by simp), rfl⟩
    · have h0' : decide ((n1 : Int) = 8) = false := decide_eq_false (by omega)
      have h0'' : decide (n1 = 8) = false := decide_eq_false h1
      go_enter Tryd.func47, Tryd.ntmps47
      go_wp2
      go_ret
      exact ⟨ret_bool (by simp), rfl⟩
    · go_enter Tryd.func47, Tryd.ntmps47
      go_wp2
      go_ret
      exact ⟨ret_bool (by rw [Bool.eq_iff_iff, beq_iff_eq, decide_eq_true_eq]; omega), rfl⟩
  · have h3' : decide ((m : Int) = 3) = false := decide_eq_false (by omega)
    have h3'' : decide (m = 3) = false := decide_eq_false h3
    have hI : isF (rs.map RowV.bs) = false := by
      match rs, hl with
      | [], _ => rfl
      | [_], _ => rfl
      | [_, _], _ => rfl
      | [_, _, _], hl => simp at hl; omega
      | _ :: _ :: _ :: _ :: _, _ => rfl
    rw [hI]
    clear hI hl hs hlen
    go_enter Tryd.func47, Tryd.ntmps47
    go_wp2
    go_ret
    exact ⟨rfl, rfl⟩

end Go.Proofs.YtjedkkkhficmoaaDoor.Jrn
