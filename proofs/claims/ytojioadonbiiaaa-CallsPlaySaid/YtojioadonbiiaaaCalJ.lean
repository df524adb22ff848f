/- Contracts of calls where rows lie in whole blocks. -/
import Derived.Test.YtojioadonbiiaaaCalI
namespace Go.Proofs.Ytojioadonbiiaaa.Cal
open Go.RowKit Go.Proofs.Ytojioadonbiiaaa.Sees Go.Proofs.Ytojioadonbiiaaa.CalP Go.Proofs.Ytojioadonbiiaaa.Box Go.Proofs.Ytojioadonbiiaaa.Held
set_option linter.unusedVariables false

/-- a calls value whose rows lie in block R -/
def cv (h R n : Nat) : Value := .agg #[.int .u32 h, .slice (some ⟨R, 0, none⟩) n n]
theorem js_sees {w W : World} {bs : List (Nat × Array Value)} (hj : JS w bs W) (i : Nat) {R : Nat} {l : List Nat} (hi : bs[i]? = some (R, (un l).toArray)) : Sees W W.heap.size (some ⟨R, 0, none⟩) (un l) :=
  sees_bx (JS.bx hj i hi) (JS.bx hj i hi).lt
theorem next_js {w : World} {bs : List (Nat × Array Value)} {c : C} (hc : c.Ok) {R n : Nat} (hn : c.l.length = n) (i : Nat) (hi : bs[i]? = some (R, (un c.l).toArray)) (k p : Int) (hp : 0 ≤ p ∧ p ≤ 248) (hs : Nat) (hhs : hs < 4294967296) {y : Int} (hy : nx c k p hs = y) :
    ∀ W, JS w bs W → Calls Try.prog 16 #[.agg #[.int .u32 c.h, .slice (some ⟨R, 0, none⟩) n n], .int .i64 k, .int .i64 p, .int .u32 hs] W (Says W (.int .i64 y)) := fun W hj => by
  have := Next_any c hc (some ⟨R, 0, none⟩) n n hn k p hp hs hhs W (js_sees hj i hi)
  rwa [hy] at this
theorem many_js {w : World} {bs : List (Nat × Array Value)} {c : C} (hc : c.Ok) {R n : Nat} (hn : c.l.length = n) (hN : n ≤ 65536) (i : Nat) (hi : bs[i]? = some (R, (un c.l).toArray)) {y : Nat} (hy : mn c = y) :
    ∀ W, JS w bs W → Calls Try.prog 18 #[.agg #[.int .u32 c.h, .slice (some ⟨R, 0, none⟩) n n]] W (Says W (.int .i64 y)) := fun W hj => by
  have := Many_any c hc (some ⟨R, 0, none⟩) n n hn hN W (js_sees hj i hi)
  rwa [hy] at this
/-- new calls, told with a bool, in a new block -/
def Pair (w W : World) (bs : List (Nat × Array Value)) (c : C) (n : Nat) (b : Bool) (e : Ending) (W' : World) : Prop :=
  ∃ R, W.heap.size ≤ R ∧ e = .returned (.tuple #[.agg #[.int .u32 c.h, .slice (some ⟨R, 0, none⟩) n n], .bool b]) ∧ Hid (JS w ((R, (un c.l).toArray) :: bs) W')
def Sole (w W : World) (bs : List (Nat × Array Value)) (c : C) (n : Nat) (e : Ending) (W' : World) : Prop :=
  ∃ R, W.heap.size ≤ R ∧ e = .returned (.agg #[.int .u32 c.h, .slice (some ⟨R, 0, none⟩) n n]) ∧ Hid (JS w ((R, (un c.l).toArray) :: bs) W')
theorem pair_told {w W : World} {bs : List (Nat × Array Value)} (hj : JS w bs W) {c c' : C} {n : Nat} {b b' : Bool} (h : c = c') (hb : b = b') {l : List Nat} (hl : l = c.l) {f : FuncId} {args : Array Value}
    (hcall : Calls Try.prog f args W (Told W 4 l (.tuple #[val c.h (some ⟨W.heap.size + 4, 0, none⟩) n n, .bool b]))) : Calls Try.prog f args W (Pair w W bs c' n b' ) := by
  subst h hb hl
  exact hcall.mono fun e W' ⟨h1, h2, h3⟩ => ⟨W.heap.size + 4, by omega, h1, Lib.hid ((J.next hj h2).more h3)⟩
theorem hall_js {w : World} {bs : List (Nat × Array Value)} {c c' : C} (hc : c.Ok) {R n : Nat} (hn : c.l.length = n) (hN : n ≤ 65536) (i : Nat) (hi : bs[i]? = some (R, (un c.l).toArray)) (f m : Int) {b : Bool} (h : hall c f m = c') (hb : isF f m = b) :
    ∀ W, JS w bs W → Calls Try.prog 11 #[.agg #[.int .u32 c.h, .slice (some ⟨R, 0, none⟩) n n], .int .i64 f, .int .i64 m] W (Pair w W bs c' n b) := fun W hj =>
  pair_told hj h hb (hall_l c f m).symm (Hall_any c hc _ n n hn hN f m W (js_sees hj i hi))
theorem car_js {w : World} {bs : List (Nat × Array Value)} {c c' : C} (hc : c.Ok) {R n : Nat} (hn : c.l.length = n) (hN : n ≤ 65536) (i : Nat) (hi : bs[i]? = some (R, (un c.l).toArray)) (k f m : Int) {b : Bool} (h : car c k f m = c') (hb : carOk c k f m = b) :
    ∀ W, JS w bs W → Calls Try.prog 12 #[.agg #[.int .u32 c.h, .slice (some ⟨R, 0, none⟩) n n], .int .i64 k, .int .i64 f, .int .i64 m] W (Pair w W bs c' n b) := fun W hj =>
  pair_told hj h hb rfl (Car_any c hc _ n n hn hN k f m W (js_sees hj i hi))
theorem done_js {w : World} {bs : List (Nat × Array Value)} {c c' : C} (hc : c.Ok) {R n : Nat} (hn : c.l.length = n) (hN : n ≤ 65536) (i : Nat) (hi : bs[i]? = some (R, (un c.l).toArray)) (k f : Int) (b : Bool) (h : dn c k f b = c') :
    ∀ W, JS w bs W → Calls Try.prog 14 #[.agg #[.int .u32 c.h, .slice (some ⟨R, 0, none⟩) n n], .int .i64 k, .int .i64 f, .bool b] W (Sole w W bs c' n) := fun W hj => by
  subst h
  exact (Done_any c hc _ n n hn hN k f b W (js_sees hj i hi)).mono fun e W' ⟨h1, h2, h3⟩ => ⟨W.heap.size + 4, by omega, h1, Lib.hid ((J.next hj h2).more h3)⟩
theorem new_js {w : World} {bs : List (Nat × Array Value)} (n : Nat) (hn : n ≤ 64) :
    ∀ W, JS w bs W → Calls Try.prog 9 #[.int .i64 n] W (Sole w W bs ⟨0, List.replicate n 0⟩ n) := fun W hj =>
  (New_in n hn W).mono fun e W' ⟨h1, h2, h3⟩ => ⟨W.heap.size + 1, by omega, h1, Lib.hid ((J.next hj h2).more h3)⟩
/-- the first block, of two cells, is written anew -/
theorem jset2 {w W : World} {bs : List (Nat × Array Value)} {X : Nat} {a b : Value} (h : J w W ((X, #[a, b]) :: bs)) (hX : w.heap.size ≤ X) (hne : ∀ x ∈ bs, x.1 ≠ X) (u v : Value) :
    J w ((W.setCell ⟨X, 0, none⟩ u).setCell ⟨X, 1, none⟩ v) ((X, #[u, v]) :: bs) := (h.put hX hne 0 u).put hX hne 1 v
/-- the newest row, and a box below it, whose cells are written anew -/
theorem jnew2 {w W0 W : World} {bs : List (Nat × Array Value)} {R X : Nat} {cs : Array Value} {a b : Value} (h : J w W ((R, cs) :: bs)) (hR : W0.heap.size ≤ R) (hX : Bx W0 X #[a, b]) (hw : w.heap.size ≤ X) (hin : ∃ i : Nat, bs[i]? = some (X, #[a, b])) (u v : Value) :
    J w ((W.setCell ⟨X, 0, none⟩ u).setCell ⟨X, 1, none⟩ v) [(X, #[u, v]), (R, cs)] := by
  obtain ⟨i, hi⟩ := hin
  have h2 : J w W [(X, #[a, b]), (R, cs)] := h.less fun x hx => by
    simp only [List.mem_cons, List.not_mem_nil, or_false] at hx ⊢
    rcases hx with rfl | rfl
    · exact .inr (List.mem_of_getElem? hi)
    · exact .inl rfl
  have hlt := hX.lt
  exact jset2 h2 hw (fun x hx => by
    simp only [List.mem_cons, List.not_mem_nil, or_false] at hx
    subst hx
    show R ≠ X
    omega) u v
/-- the same where rows are seen, whatever they lie in -/
theorem next_gs {w : World} {bs : List (Nat × Array Value)} {c : C} (hc : c.Ok) {A : Option Addr} {n cap : Nat} (hn : c.l.length = n) (hS : ∀ W, JS w bs W → Sees W W.heap.size A (un c.l)) (k p : Int) (hp : 0 ≤ p ∧ p ≤ 248) (hs : Nat) (hhs : hs < 4294967296) {y : Int} (hy : nx c k p hs = y) :
    ∀ W, JS w bs W → Calls Try.prog 16 #[.agg #[.int .u32 c.h, .slice A n cap], .int .i64 k, .int .i64 p, .int .u32 hs] W (Says W (.int .i64 y)) := fun W hj => by
  have := Next_any c hc A n cap hn k p hp hs hhs W (hS W hj)
  rwa [hy] at this
theorem many_gs {w : World} {bs : List (Nat × Array Value)} {c : C} (hc : c.Ok) {A : Option Addr} {n cap : Nat} (hn : c.l.length = n) (hN : n ≤ 65536) (hS : ∀ W, JS w bs W → Sees W W.heap.size A (un c.l)) {y : Nat} (hy : mn c = y) :
    ∀ W, JS w bs W → Calls Try.prog 18 #[.agg #[.int .u32 c.h, .slice A n cap]] W (Says W (.int .i64 y)) := fun W hj => by
  have := Many_any c hc A n cap hn hN W (hS W hj)
  rwa [hy] at this
theorem hall_gs {w : World} {bs : List (Nat × Array Value)} {c c' : C} (hc : c.Ok) {A : Option Addr} {n cap : Nat} (hn : c.l.length = n) (hN : n ≤ 65536) (hS : ∀ W, JS w bs W → Sees W W.heap.size A (un c.l)) (f m : Int) {b : Bool} (h : hall c f m = c') (hb : isF f m = b) :
    ∀ W, JS w bs W → Calls Try.prog 11 #[.agg #[.int .u32 c.h, .slice A n cap], .int .i64 f, .int .i64 m] W (Pair w W bs c' n b) := fun W hj =>
  pair_told hj h hb (hall_l c f m).symm (Hall_any c hc A n cap hn hN f m W (hS W hj))
theorem car_gs {w : World} {bs : List (Nat × Array Value)} {c c' : C} (hc : c.Ok) {A : Option Addr} {n cap : Nat} (hn : c.l.length = n) (hN : n ≤ 65536) (hS : ∀ W, JS w bs W → Sees W W.heap.size A (un c.l)) (k f m : Int) {b : Bool} (h : car c k f m = c') (hb : carOk c k f m = b) :
    ∀ W, JS w bs W → Calls Try.prog 12 #[.agg #[.int .u32 c.h, .slice A n cap], .int .i64 k, .int .i64 f, .int .i64 m] W (Pair w W bs c' n b) := fun W hj =>
  pair_told hj h hb rfl (Car_any c hc A n cap hn hN k f m W (hS W hj))
theorem done_gs {w : World} {bs : List (Nat × Array Value)} {c c' : C} (hc : c.Ok) {A : Option Addr} {n cap : Nat} (hn : c.l.length = n) (hN : n ≤ 65536) (hS : ∀ W, JS w bs W → Sees W W.heap.size A (un c.l)) (k f : Int) (b : Bool) (h : dn c k f b = c') :
    ∀ W, JS w bs W → Calls Try.prog 14 #[.agg #[.int .u32 c.h, .slice A n cap], .int .i64 k, .int .i64 f, .bool b] W (Sole w W bs c' n) := fun W hj => by
  subst h
  exact (Done_any c hc A n cap hn hN k f b W (hS W hj)).mono fun e W' ⟨h1, h2, h3⟩ => ⟨W.heap.size + 4, by omega, h1, Lib.hid ((J.next hj h2).more h3)⟩
theorem js_less {w W : World} {x : Nat × Array Value} {bs : List (Nat × Array Value)} (h : JS w (x :: bs) W) : JS w bs W := J.less h fun y hy => List.mem_cons_of_mem _ hy
/-- New, in range or not -/
theorem new_gs (w : World) (n : Nat) (cars : Int) (h : (cars = n ∧ n ≤ 64) ∨ (¬ (0 ≤ cars ∧ cars ≤ 64) ∧ n = 0)) (W : World) (hj : JS w [] W) :
    Calls Try.prog 9 #[.int .i64 cars] W fun e W' => ∃ A bs, e = .returned (.agg #[.int .u32 0, .slice A n n]) ∧ Hid (JS w bs W') ∧ Hid (∀ V, JS w bs V → Sees V V.heap.size A (un (List.replicate n 0))) ∧ ∀ x ∈ bs, W.heap.size ≤ x.1 := by
  rcases h with ⟨rfl, hn⟩ | ⟨hc, rfl⟩
  · refine (new_js n hn W hj).mono ?_
    rintro e W' ⟨R, hR, rfl, h2⟩
    exact ⟨some ⟨R, 0, none⟩, [(R, (un (List.replicate n 0)).toArray)], rfl, h2, Lib.hid fun V hV => js_sees hV 0 rfl, fun x hx => by simp at hx; subst hx; exact hR⟩
  · refine (New_out cars hc W).mono ?_
    rintro e W' ⟨rfl, h2⟩
    exact ⟨none, [], rfl, Lib.hid (J.next hj h2), Lib.hid fun V _ => .inl rfl, fun x hx => by cases hx⟩
end Go.Proofs.Ytojioadonbiiaaa.Cal
