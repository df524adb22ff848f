/- The contracts at letters, for the laws' walks. -/
import Derived.Test.YtgbgbodhpahceaaDoorJrnN
import Derived.Test.YtgbgbodhpahceaaDoorJrnM
namespace Go.Proofs.YtgbgbodhpahceaaDoor.Jrn
open Go.RowKit Go.Proofs.YtgbgbodhpahceaaDoor.Plain Go.Proofs.YtgbgbodhpahceaaDoor.Sees Go.Proofs.YtgbgbodhpahceaaDoor.Oct Go.Proofs.YtgbgbodhpahceaaDoor.Crc Go.Proofs.YtgbgbodhpahceaaDoor.Box Go.Proofs.YtgbgbodhpahceaaDoor.Held Go.Proofs.YtgbgbodhpahceaaDoor.JrnP Go.Proofs.YtgbgbodhpahceaaDoor.Open Go.Proofs.YtgbgbodhpahceaaDoor.LgrP
set_option linter.unusedVariables false
set_option maxRecDepth 100000

/-- permits in memory -/
structure LI (W : World) (A : Option Addr) (c n : Nat) (l : List Pm) : Prop where
  len : l.length = n
  cap : n ≤ c
  max : c ≤ maxLen
  see : Sees W W.heap.size A (pms l)
theorem LI.next {W W' : World} {A : Option Addr} {c n : Nat} {l : List Pm} (h : LI W A c n l) (hb : Below W.heap.size W W') : LI W' A c n l := ⟨h.len, h.cap, h.max, sees_next h.see hb⟩
theorem LI.lg {W : World} {A : Option Addr} {c n : Nat} {l : List Pm} (h : LI W A c n l) (b m k : Int) : Lg.In W ⟨b, m, k, A, c, l⟩ := ⟨by simp only [h.len]; exact h.cap, h.max, h.see⟩
theorem LI.val {W : World} {A : Option Addr} {c n : Nat} {l : List Pm} (h : LI W A c n l) (b m k : Int) : Lg.val ⟨b, m, k, A, c, l⟩ = .agg #[.int .i64 b, .int .i64 m, .int .i64 k, .slice A n c] := by simp only [Lg.val, h.len]
theorem Lg.li {W : World} {x : Lg} (h : x.In W) : LI W x.A x.cap x.l.length x.l := ⟨rfl, h.cap_, h.max_, h.see⟩

theorem few_at {W : World} {A : Option Addr} {c n : Nat} {l : List Pm} (h : LI W A c n l) (b m k : Int) : Calls Tryd.prog 10 #[.agg #[.int .i64 b, .int .i64 m, .int .i64 k, .slice A n c]] W fun e w' => e = .returned (.bool (decide (n ≤ 80))) ∧ Below W.heap.size W w' := by
  have := few_any ⟨b, m, k, A, c, l⟩ W
  rw [h.val] at this
  simpa only [h.len] using this
theorem of_at {W : World} {A : Option Addr} {c n : Nat} {l : List Pm} (h : LI W A c n l) (hn : n ≤ 100) (b m k : Int) : Calls Tryd.prog 15 #[.agg #[.int .i64 b, .int .i64 m, .int .i64 k, .slice A n c]] W fun e w' => ∃ A' c', e = .returned (.agg #[.int .i64 b, .int .i64 m, .int .i64 k, .slice A' n c']) ∧ LI w' A' c' n l ∧ Below W.heap.size W w' := by
  have := of_any ⟨b, m, k, A, c, l⟩ W (h.lg b m k) (by simp only [h.len]; exact hn)
  rw [h.val] at this
  refine this.mono ?_
  rintro e w' ⟨A', c', rfl, h2, h3⟩
  have hl : LI w' A' c' n l := ⟨h.len, by have := h2.cap_; simp only [h.len] at this; exact this, h2.max_, h2.see⟩
  exact ⟨A', c', by rw [hl.val], hl, h3⟩
theorem same_at {W : World} {A A' : Option Addr} {c c' n : Nat} {l : List Pm} (h : LI W A c n l) (h' : LI W A' c' n l) (hn : n ≤ 100) (b m k : Int) :
    Calls Tryd.prog 16 #[.agg #[.int .i64 b, .int .i64 m, .int .i64 k, .slice A n c], .agg #[.int .i64 b, .int .i64 m, .int .i64 k, .slice A' n c']] W fun e w' => e = .returned (.bool true) ∧ Below W.heap.size W w' := by
  have := same_any ⟨b, m, k, A, c, l⟩ ⟨b, m, k, A', c', l⟩ W (h.lg b m k) (h'.lg b m k) (by simp only [h.len]; exact hn) rfl rfl rfl rfl
  rwa [h.val, h'.val] at this
/-- may a ledger be one? -/
def mayK (b m k : Int) (l : List Pm) : Bool := mayB ⟨b, m, k, none, 0, l⟩
theorem may_k {b m k : Int} {l : List Pm} (h : mayK b m k l = true) : may b m l = true := may_of (x := ⟨b, m, k, none, 0, l⟩) h
theorem check_at {W : World} {A : Option Addr} {c n : Nat} {l : List Pm} (h : LI W A c n l) (hn : n ≤ 100) (b m k : Int) : Calls Tryd.prog 25 #[.agg #[.int .i64 b, .int .i64 m, .int .i64 k, .slice A n c]] W fun e w' => e = .returned (.bool (mayK b m k l)) ∧ Below W.heap.size W w' := by
  have := Lgr.check_any ⟨b, m, k, A, c, l⟩ W (h.lg b m k) (by simp only [h.len]; omega)
  rw [h.val] at this
  exact this.mono fun e w' h => ⟨h.1, h.2⟩
theorem put_at {W : World} {A : Option Addr} {c n : Nat} {l : List Pm} (h : LI W A c n l) (hn : n ≤ 100) (ht : Tab W) (b m k s : Int) (hs : 0 ≤ s ∧ s ≤ 18446744073709551615) :
    Calls Tryd.prog 13 #[.agg #[.int .i64 b, .int .i64 m, .int .i64 k, .slice A n c], .int .u64 s] W fun e w' => ∃ q : RowV, e = .returned q.val ∧ (RT w' q ∧ q.bs = put b m l s) ∧ Below W.heap.size W w' := by
  have := put_row ⟨b, m, k, A, c, l⟩ s W (h.lg b m k) (by simp only [h.len]; exact hn) hs ht
  rwa [h.val] at this
theorem ts_li {w' : World} {A : Option Addr} {c n : Nat} {l : List Pm} (hn : l.length = n) (h1 : n ≤ c) (h2 : c ≤ maxLen) (h3 : TS w' 69 A (pms l)) : LI w' A c n l := ⟨hn, h1, h2, h3.sees⟩
theorem get_back {W : World} {A : Option Addr} {c n : Nat} {q : List Int} {b m s : Int} {l : List Pm} (hq : RT W ⟨A, c, q⟩) (he : q = put b m l s) (ht : Tab W) (hm : may b m l = true) (hl : l.length = n) (hn : n ≤ 100) (hs : 0 ≤ s ∧ s ≤ 18446744073709551615) :
    Calls Tryd.prog 11 #[.slice A q.length c] W fun e w' => ∃ A' c', e = .returned (.tuple #[.agg #[.int .i64 b, .int .i64 m, .int .i64 0, .slice A' n c'], .int .u64 s, .int .i64 0]) ∧ LI w' A' c' n l ∧ Below W.heap.size W w' := by
  have := jGet_any q A q.length c W rfl hq.few hq.cap ht hq.ty.sees hq.byte
  rw [he, get_put hm (by omega) hs, ← he] at this
  refine this.mono ?_
  rintro e w' ⟨A', c', rfl, h1, h2, h3, h4⟩
  exact ⟨A', c', by simp only [hl], ts_li hl (by rw [← hl]; exact h1) h2 h3, h4⟩
theorem write_li {W : World} {A : Option Addr} {c n : Nat} {l : List Pm} (z0 z1 y0 y1 : List Int) (j : Jr) (ht : Tab W) (hj : j.In W) (he : j.n0.bs = z0 ∧ j.n1.bs = z1 ∧ j.a0.bs = y0 ∧ j.a1.bs = y1) (h : LI W A c n l) (hn : n ≤ 100) (b m k : Int) :
    Calls Tryd.prog 23 #[j.val, .agg #[.int .i64 b, .int .i64 m, .int .i64 k, .slice A n c]] W (JP W (wr0 z0 z1 b m l) (wr1 z0 z1 b m l) z0 z1) := by
  have := write_at z0 z1 y0 y1 j ⟨b, m, k, A, c, l⟩ W ht hj he (h.lg b m k) (by simp only [h.len]; exact hn)
  rwa [h.val] at this
theorem load_li {W : World} (z0 z1 y0 y1 : List Int) (j : Jr) (ht : Tab W) (hj : j.In W) (he : j.n0.bs = z0 ∧ j.n1.bs = z1 ∧ j.a0.bs = y0 ∧ j.a1.bs = y1) {e0 b m s : Int} {l : List Pm} {n : Nat} (hg : JrnP.load z0 z1 = ⟨e0, b, m, l, s⟩) (hl : l.length = n) :
    Calls Tryd.prog 18 #[j.val] W fun e w' => ∃ A c, e = .returned (.tuple #[.agg #[.int .i64 b, .int .i64 m, .int .i64 0, .slice A n c], .int .u64 s, .bool (decide (0 < s))]) ∧ LI w' A c n l ∧ Below W.heap.size W w' := by
  have := load_at z0 z1 y0 y1 j W ht hj he
  rw [hg] at this
  refine this.mono ?_
  rintro e w' ⟨A, c, rfl, h1, h2, h3, h4⟩
  exact ⟨A, c, by simp only [hl], ts_li hl (by rw [← hl]; exact h1) h2 h3, h4⟩

end Go.Proofs.YtgbgbodhpahceaaDoor.Jrn
