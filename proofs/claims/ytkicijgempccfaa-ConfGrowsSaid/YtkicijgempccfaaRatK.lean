/- The contracts of sync.Once at a table, of Most and of Peak. -/
import Derived.Test.YtkicijgempccfaaRatJ
namespace Go.Proofs.Ytkicijgempccfaa.Rat
open Go.RowKit Go.Proofs.Ytkicijgempccfaa.RatP Go.Proofs.Ytkicijgempccfaa.Once
set_option linter.unusedVariables false

theorem grown_drew {a w : World} {g : Nat} (h : a.grownBy w (some g)) : a.grownBy w.drew (some g) := ⟨h.os, h.tape, h.output, h.size, h.block⟩
theorem grown_drewN {a w : World} {g : Nat} (h : a.grownBy w (some g)) (n : Nat) : a.grownBy (w.drewN n) (some g) := ⟨h.os, h.tape, h.output, h.size, h.block⟩
theorem grown_trans {a b c : World} {g : Nat} (h : a.grownBy b (some g)) (k : b.grownBy c (some g)) : a.grownBy c (some g) :=
  ⟨k.os.trans h.os, k.tape.trans h.tape, k.output.trans h.output, Nat.le_trans h.size k.size, fun i hi hne => (k.block i (Nat.lt_of_lt_of_le hi h.size) hne).trans (h.block i hi hne)⟩
theorem Tbl.drew {W : World} {B : Nat} {r : R} {d m l : Int} {n : Nat} {q : Int} (h : Tbl W B r d m l n q) : Tbl W.drew B r d m l n q := h.kept rfl
theorem Tbl.drewN {W : World} {B : Nat} {r : R} {d m l : Int} {n : Nat} {q : Int} (h : Tbl W B r d m l n q) (k : Nat) : Tbl (W.drewN k) B r d m l n q := h.kept rfl

/-- what a call answers that lays the table, if it isn't -/
def Lays (w : World) (B : Nat) (r : R) (v : Value) (e : Ending) (w' : World) : Prop := e = .returned v ∧ Laid w' B r ∧ w.grownBy w' (some B)

set_option maxRecDepth 100000 in
set_option maxHeartbeats 1600000 in
theorem slow_any (r : R) (hr : r.May) (B : Nat) (w : World) (ht : Fresh w B r) :
    Calls Try.prog 65 #[.pointer (some ⟨B, 6, none⟩), .func (.func 58) #[.pointer (some ⟨B, 0, none⟩)] #[]] w (Lays w B r (.tuple #[])) := by
  have hT : Tbl w B r 0 0 0 0 0 := ht
  have b1 := hT.cm
  have f1 := hT.fr 7
  have hT1 := hT.set_m 1
  have b2 := hT1.cd
  have hnot : ∀ (x : Bool) (w : World), (Op.unary .not (.bool x)).run Try.prog w = .ok (.bool (!x)) w := fun _ _ => rfl
  have HT1 := Lib.hid hT1
  have HR := Lib.hid hr
  clear ht hT hT1 hr
  go_enter_defers Try.func65, Try.ntmps65
  go_wp2_with (first
    | (go_at_call 73; refine (lock_free ⟨B, 7, none⟩ _ b1 f1).mono ?_; rintro e w' ⟨rfl, rfl⟩)
    | (go_at_call 64; refine (boolLoad_any ⟨B, 6, none⟩ 0 _ b2).mono ?_; rintro e w' ⟨rfl, rfl⟩)
    | (go_at_call 58; refine (lay_any r HR.out B _ HT1.out).mono ?_; rintro e w2 ⟨rfl, hT2, hG2⟩))
  refine leaves_cons (f := 75) (args := #[.pointer (some ⟨B, 6, none⟩), .bool true]) (by simp) (by simp [go_sem]) ?_
  refine (store_deferred ⟨B, 6, none⟩ _ .returning _ hT2.cd (hT2.fr 6)).mono ?_
  rintro e u' w'' ⟨rfl, rfl, rfl⟩
  have hT3 := hT2.drew.set_d 1
  refine leaves_cons (f := 74) (args := #[.pointer (some ⟨B, 7, none⟩)]) (by simp [settle]) (by simp [go_sem]) ?_
  refine (unlock_deferred ⟨B, 7, none⟩ _ _ hT3.cm (hT3.fr 7)).mono ?_
  rintro e u' w'' ⟨rfl, rfl, rfl⟩
  have hL : Lays w B r (.tuple #[]) (.returned (.tuple #[])) (((w2.drew.setCell ⟨B, 6, none⟩ (.int .u32 1))).setCell ⟨B, 7, none⟩ (.int .i32 0)) :=
    ⟨rfl, hT3.set_m 0, grown_set (grown_set (grown_drew (grown_trans (grown_set (grown_refl w B) _ _) hG2)) _ _) _ _⟩
  simp [Leaves, settle, results, Try.results65]
  exact hL

/-- '(*sync.Once).Do' at a fresh table -/
theorem do_fresh (r : R) (hr : r.May) (B : Nat) (w : World) (ht : Fresh w B r) :
    Calls Try.prog 57 #[.pointer (some ⟨B, 6, none⟩), .func (.func 58) #[.pointer (some ⟨B, 0, none⟩)] #[]] w (Lays w B r (.tuple #[])) := by
  have b1 := Tbl.cd ht
  have hnot : ∀ (x : Bool) (w : World), (Op.unary .not (.bool x)).run Try.prog w = .ok (.bool (!x)) w := fun _ _ => rfl
  have HT := Lib.hid ht
  have HR := Lib.hid hr
  clear ht hr
  go_enter Try.func57, Try.ntmps57
  go_wp2_with (first
    | (go_at_call 64; refine (boolLoad_any ⟨B, 6, none⟩ 0 _ b1).mono ?_; rintro e w' ⟨rfl, rfl⟩)
    | (go_at_call 65; refine (slow_any r HR.out B _ HT.out).mono ?_; rintro e w2 ⟨rfl, hL, hG⟩))
  go_end0
  exact ⟨rfl, hL, hG⟩
/-- and at one that is laid -/
theorem do_laid (r : R) (B : Nat) (fv : Value) (w : World) (ht : Laid w B r) :
    Calls Try.prog 57 #[.pointer (some ⟨B, 6, none⟩), fv] w (Lays w B r (.tuple #[])) := by
  have b1 := Tbl.cd ht
  have hnot : ∀ (x : Bool) (w : World), (Op.unary .not (.bool x)).run Try.prog w = .ok (.bool (!x)) w := fun _ _ => rfl
  have HT := Lib.hid ht
  clear ht
  go_enter Try.func57, Try.ntmps57
  go_wp2_with (first
    | (go_at_call 64; refine (boolLoad_any ⟨B, 6, none⟩ 1 _ b1).mono ?_; rintro e w' ⟨rfl, rfl⟩))
  go_end0
  exact ⟨rfl, HT.out, grown_refl _ _⟩

/-- a table that can be asked -/
def Ok (w : World) (B : Nat) (r : R) : Prop := Fresh w B r ∨ Laid w B r
theorem do_any (r : R) (hr : r.May) (B : Nat) (w : World) (ht : Ok w B r) :
    Calls Try.prog 57 #[.pointer (some ⟨B, 6, none⟩), .func (.func 58) #[.pointer (some ⟨B, 0, none⟩)] #[]] w (Lays w B r (.tuple #[])) := by
  rcases ht with h | h
  · exact do_fresh r hr B w h
  · exact do_laid r B _ w h

theorem Most_any (r : R) (hr : r.May) (B : Nat) (w : World) (ht : Ok w B r) : Calls Try.prog 33 #[.pointer (some ⟨B, 0, none⟩)] w (Lays w B r (.int .i64 (most r))) := by
  have hmf : ∀ (fn : Fn) (first cap : Array Value) (w : World), (Instr.makeFunc fn first cap).run Try.prog w = .ok (.func fn first cap) w := fun _ _ _ _ => rfl
  have HD := Lib.hid (do_any r hr B w ht)
  clear ht hr
  go_enter Try.func33, Try.ntmps33
  go_wp2_with (go_at_call 57; refine HD.out.mono ?_; rintro e w2 ⟨rfl, hL, hG⟩; have b1 := Tbl.cq hL; have HL := Lib.hid hL; clear hL)
  go_ret
  exact ⟨rfl, HL.out, hG⟩

end Go.Proofs.Ytkicijgempccfaa.Rat
