/- What ConfGrows asks; its three groups. -/
import Derived.Test.YtkicijgempccfaaConM
import Derived.Test.YtkicijgempccfaaSeesN
import Derived.Test.YtkicijgempccfaaTwoRows
import Derived.Deep.AppendLies
namespace Go.Proofs.Ytkicijgempccfaa.Walk
open Go.RowKit Go.ChangeShapes Go.Proofs.Ytkicijgempccfaa.RatP Go.Proofs.Ytkicijgempccfaa.SatP Go.Proofs.Ytkicijgempccfaa.ConP Go.Proofs.Ytkicijgempccfaa.Rat Go.Proofs.Ytkicijgempccfaa.Con
set_option linter.unusedVariables false

open Go.Proofs.Ytkicijgempccfaa.Sees
/-- one car more, one floor more -/
def one : Bk := ⟨1, ⟨0, 0, 0, 0, 0, 0⟩⟩
def cE (c : C) : C := { c with banks := c.banks ++ [one], order := c.order ++ [cars c.banks] }
def cD (c : C) : C := { c with floors := c.floors + 1 }
theorem one_ok : bOk one = true := by decide
theorem cE_may {c : C} (h : c.May) (h8 : c.banks.length < 8) : (cE c).May := by
  have hor := h.or
  refine ⟨by simp [cE]; omega, ?_, h.fl, h.ho, ?_, h.sp, h.wd, h.dw, h.go, h.de, h.tu, h.la, h.co, h.fu⟩
  · intro b hb
    rcases List.mem_append.1 hb with h' | h'
    · exact h.bs b h'
    · rw [List.mem_singleton] at h'; subst h'; exact one_ok
  · show once (c.order ++ [cars c.banks]) (cars (c.banks ++ [one]))
    rw [cars_snoc]
    refine ⟨by have := hor.1; simp; show _ = cars c.banks + 1; omega, fun x hx => ?_, (nodup_snoc _ _).2 ⟨hor.2.2, fun hm => by have := hor.2.1 _ hm; omega⟩⟩
    show 0 ≤ x ∧ x < cars c.banks + 1
    have hcb := cars_bd _ h.bs
    rcases List.mem_append.1 hx with h' | h'
    · have := hor.2.1 x h'; omega
    · rw [List.mem_singleton] at h'; omega
theorem cD_may {c : C} (h : c.May) (hf : c.floors < 32) : (cD c).May :=
  ⟨h.nb, h.bs, by have := h.fl; show 2 ≤ c.floors + 1 ∧ c.floors + 1 ≤ 32; omega, by have := h.ho; show 0 ≤ c.home ∧ c.home ≤ c.floors + 1 - 1; omega, h.or, h.sp, h.wd, h.dw, h.go, h.de, h.tu, h.la, h.co, h.fu⟩
theorem limit_bd {c : C} (h : c.May) (b : Int) : limit c b = limit c 0 + bk b ∧ 0 ≤ limit c 0 ∧ limit c 0 ≤ 100000 := by
  have := h.fl; have := h.wd; have := h.go; have := h.de; have := h.la; have := h.nb
  have hcb := cars_bd _ h.bs
  have hrun : run c = 8 * c.floors - 7 := rfl
  have hq : cars c.banks * (run c + 2 * c.width + 6) ≤ 64 * 500 := Int.mul_le_mul (by omega) (by omega) (by omega) (by omega)
  have hq0 : 0 ≤ cars c.banks * (run c + 2 * c.width + 6) := Int.mul_nonneg (by omega) (by omega)
  have hb0 : bk 0 = 0 := rfl
  unfold limit
  rw [hb0]
  omega
theorem back_bd {c : C} (h : c.May) (b : Int) : back c b = back c 0 + bk b ∧ 0 ≤ back c 0 ∧ back c 0 ≤ 100000 := by
  have := h.fl; have := h.wd; have := h.go; have := h.de
  have hrun : run c = 8 * c.floors - 7 := rfl
  have hb0 : bk 0 = 0 := rfl
  unfold back
  rw [hb0]
  omega
theorem cD_limit {c : C} (h : c.May) (b : Int) : limit c b < limit (cD c) b := by
  have hcb := cars_bd _ h.bs
  have hnb := h.nb
  have h1 : run (cD c) = run c + 8 := by show 8 * (c.floors + 1) - 7 = 8 * c.floors - 7 + 8; omega
  have h2 : cars c.banks * (run c + 2 * c.width + 6) + cars c.banks * 8 = cars c.banks * (run c + 8 + 2 * c.width + 6) := by rw [← Int.mul_add]; congr 1; omega
  have h3 : cars (cD c).banks * (run (cD c) + 2 * (cD c).width + 6) = cars c.banks * (run c + 8 + 2 * c.width + 6) := by rw [h1]; rfl
  have h4 : limit (cD c) b = cars (cD c).banks * (run (cD c) + 2 * (cD c).width + 6) + bk b + c.good + c.dead + c.lag + 10 := rfl
  rw [h4, h3, ← h2]
  unfold limit
  omega
theorem cD_back {c : C} (b : Int) : back c b < back (cD c) b := by
  show c.good + (8 * c.floors - 7) + 3 * c.width + 2 * c.dead + bk b + 30 < c.good + (8 * (c.floors + 1) - 7) + 3 * c.width + 2 * c.dead + bk b + 30
  omega
theorem cE_limit {c : C} (h : c.May) (b : Int) : limit c b < limit (cE c) b := by
  have hfl := h.fl
  have hwd := h.wd
  have h1 : cars (cE c).banks = cars c.banks + 1 := cars_snoc _ _
  have h2 : limit (cE c) b = cars (cE c).banks * (run c + 2 * c.width + 6) + bk b + c.good + c.dead + c.lag + 10 := rfl
  have hrun : run c = 8 * c.floors - 7 := rfl
  rw [h2, h1, Int.add_mul, Int.one_mul]
  unfold limit
  omega
theorem cE_most (c : C) : mo c.banks ≤ mo (cE c).banks := by
  show mo c.banks ≤ mo (c.banks ++ [one])
  rw [mo_append]; omega

/-- a group whose floors are others, in the same memory -/
def vD (v : V) : V := ⟨v.A, v.cb, v.O, v.co, cD v.c⟩
def vE (v : V) (A O : Option Addr) (cb co : Nat) : V := ⟨A, cb, O, co, cE v.c⟩
theorem info_Bank : (Try.prog.info? 43).map (fun i => (i.zero, i.size, i.bytes)) = some (some (.agg #[.int .i64 0, .int .i64 0, .int .i64 0, .int .i64 0, .int .i64 0, .int .i64 0, .int .i64 0]), 7, 56) := by kernel_rfl
theorem info_int : (Try.prog.info? 3).map (fun i => (i.zero, i.size, i.bytes)) = some (some (.int .i64 0), 1, 8) := by kernel_rfl
/-- while ConfGrows runs: its three groups -/
structure GJ (w W : World) (N X1 X2 : Nat) (v u : V) : Prop where
  lj : LJ w W N v
  dbox : CBox W X1 (vD v)
  ebox : CBox W X2 u
  ein : V.In W u
theorem GJ.next {w W W' : World} {N X1 X2 : Nat} {v u : V} (h : GJ w W N X1 X2 v u) (hb : Below W.heap.size W W') : GJ w W' N X1 X2 v u := ⟨h.lj.next hb, h.dbox.next hb, h.ebox.next hb, h.ein.next hb⟩
theorem GJ.din {w W : World} {N X1 X2 : Nat} {v u : V} (h : GJ w W N X1 X2 v u) : V.In W (vD v) := ⟨h.lj.inn.bs, h.lj.inn.os, h.lj.inn.bl, h.lj.inn.ol⟩

theorem vE_len (v : V) (A O : Option Addr) (cb co : Nat) : (vE v A O cb co).c.banks.length = v.c.banks.length + 1 ∧ (vE v A O cb co).c.order.length = v.c.order.length + 1 := by simp [vE, cE]
theorem vE_val (v : V) (A O : Option Addr) (cb co : Nat) : (vE v A O cb co).val = .agg #[.slice A (v.c.banks.length + 1) cb, .int .i64 v.c.floors, .int .i64 v.c.home, .slice O (v.c.order.length + 1) co, .int .i64 v.c.speed, .int .i64 v.c.width, .int .i64 v.c.dwell, .int .i64 v.c.good, .int .i64 v.c.dead, .int .i64 v.c.lag, .int .i64 v.c.turn, .int .i64 v.c.cost, .int .i64 v.c.full] := by
  unfold V.val; rw [(vE_len v A O cb co).1, (vE_len v A O cb co).2]; rfl
theorem vE_arr (v : V) (A O : Option Addr) (cb co : Nat) : (vE v A O cb co).arr = #[.slice A (v.c.banks.length + 1) cb, .int .i64 v.c.floors, .int .i64 v.c.home, .slice O (v.c.order.length + 1) co, .int .i64 v.c.speed, .int .i64 v.c.width, .int .i64 v.c.dwell, .int .i64 v.c.good, .int .i64 v.c.dead, .int .i64 v.c.lag, .int .i64 v.c.turn, .int .i64 v.c.cost, .int .i64 v.c.full] := by
  unfold V.arr; rw [(vE_len v A O cb co).1, (vE_len v A O cb co).2]; rfl
theorem eb0 {W : World} {X : Nat} {v : V} {A O : Option Addr} {cb co : Nat} (h : CBox W X (vE v A O cb co)) : W.cell? ⟨X, 0, none⟩ = some (.slice A (v.c.banks.length + 1) cb) := by have := h.c0; rw [(vE_len v A O cb co).1] at this; exact this
theorem eb3 {W : World} {X : Nat} {v : V} {A O : Option Addr} {cb co : Nat} (h : CBox W X (vE v A O cb co)) : W.cell? ⟨X, 3, none⟩ = some (.slice O (v.c.order.length + 1) co) := by have := h.c3; rw [(vE_len v A O cb co).2] at this; exact this

theorem below_undrew {W W' : World} {n : Nat} (h : Below (W.drewN n).heap.size (W.drewN n) W') : Below W.heap.size W W' := ⟨h.os, h.tape, h.output, h.size, h.block⟩

end Go.Proofs.Ytkicijgempccfaa.Walk
