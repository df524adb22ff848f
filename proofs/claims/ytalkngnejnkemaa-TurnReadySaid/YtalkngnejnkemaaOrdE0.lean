/- Next at letters. -/
import Derived.Test.YtalkngnejnkemaaOrdC0
import Derived.Test.YtalkngnejnkemaaOpen
namespace Go.Proofs.Ytalkngnejnkemaa.Ord
open Go.RowKit Go.Proofs.Ytalkngnejnkemaa.Plain Go.Proofs.Ytalkngnejnkemaa.OrdP Go.Proofs.Ytalkngnejnkemaa.Sees Go.Proofs.Ytalkngnejnkemaa.Box Go.Proofs.Ytalkngnejnkemaa.Held
set_option linter.unusedVariables false

/-- memory alone was made since w -/
def Bw (w W : World) : Prop := Below w.heap.size w W
theorem Bw.refl (w : World) : Bw w w := Below.refl _ _
theorem Bw.next {w W W' : World} (h : Bw w W) (k : Below W.heap.size W W') : Bw w W' := below_more h k (Nat.le_refl _)
/-- a call that answers v and makes memory alone -/
def On (w : World) (v : Value) (e : Ending) (w' : World) : Prop := e = .returned v ∧ Hid (Bw w w')
theorem on_says {f : FuncId} {args : Array Value} {w W : World} {v : Value} (hW : Hid (Bw w W)) (h : Calls Try.prog f args W (Says W v)) : Calls Try.prog f args W (On w v) :=
  h.mono fun e w' ⟨h1, h2⟩ => ⟨h1, Lib.hid (hW.out.next h2)⟩
theorem on_same {f : FuncId} {args : Array Value} {w W : World} {v : Value} (hW : Hid (Bw w W)) (h : Calls Try.prog f args W fun e w' => e = .returned v ∧ W = w') : Calls Try.prog f args W (On w v) :=
  h.mono fun e w' ⟨h1, h2⟩ => ⟨h1, h2 ▸ hW⟩
theorem sees_bw {w W : World} {A : Option Addr} {xs : List Value} (h : Sees w w.heap.size A xs) (hW : Bw w W) : Sees W W.heap.size A xs := (h.below hW (Nat.le_refl _)).more hW.size
theorem sees_bx {W : World} {b n₀ : Nat} {xs : List Value} (h : Bx W b xs.toArray) (hb : b < n₀) : Sees W n₀ (some ⟨b, 0, none⟩) xs :=
  .inr ⟨b, 0, rfl, hb, fun j u hu => by rw [Nat.zero_add]; exact h.cell (by simpa using hu)⟩

theorem next_on {w : World} {l : List Int} {A : Option Addr} {n c : Nat} (hl : l.length = n) (hn : n ≤ 1000) (hs : Sees w w.heap.size A (nums .i64 l)) (d o : Nat) (hd : d < 18446744073709551616) (ho : o < 18446744073709551616) (x : Int) (hx : nx d o l = x) (W : World) (hW : Hid (Bw w W)) :
    Calls Try.prog 17 #[.slice A n c, .int .u64 d, .int .u64 o] W (On w (.int .i64 x)) :=
  on_says hW (hx ▸ Next_any d o l A n c W hd ho hl (by unfold maxLen; omega) (sees_bw hs hW.out))
end Go.Proofs.Ytalkngnejnkemaa.Ord
