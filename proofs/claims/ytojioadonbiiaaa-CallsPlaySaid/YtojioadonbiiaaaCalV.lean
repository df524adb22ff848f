/- Calls that are played side by side with rows of one's own: what lies where. -/
import Derived.Test.YtojioadonbiiaaaCalU
import Derived.Test.YtojioadonbiiaaaCalO
import Derived.Test.YtojioadonbiiaaaCalS
namespace Go.Proofs.Ytojioadonbiiaaa.Cal
open Go.RowKit Go.Proofs.Ytojioadonbiiaaa.Sees Go.Proofs.Ytojioadonbiiaaa.CalP Go.Proofs.Ytojioadonbiiaaa.Box Go.Proofs.Ytojioadonbiiaaa.Held
set_option linter.unusedVariables false

/-- a row in a block that is none of two -/
def RowAt (W : World) (X R0 : Nat) (A : Option Addr) (l : List Nat) : Prop := l = [] ∨ ∃ b, A = some ⟨b, 0, none⟩ ∧ b ≠ X ∧ b ≠ R0 ∧ Bx W b (un l).toArray
/-- c's box, one's own row, c's row -/
structure PS (w : World) (X R0 n h : Nat) (l o : List Nat) (A : Option Addr) (W : World) : Prop where
  below : Below w.heap.size w W
  hX : w.heap.size ≤ X
  hR : w.heap.size ≤ R0
  ne : X ≠ R0
  box : Bx W X #[.int .u32 h, .slice A n n]
  own : Bx W R0 (un o).toArray
  row : RowAt W X R0 A l
theorem RowAt.next {W W' : World} {X R0 : Nat} {A : Option Addr} {l : List Nat} (h : RowAt W X R0 A l) (hb : Below W.heap.size W W') : RowAt W' X R0 A l := by
  rcases h with h | ⟨b, h1, h2, h3, h4⟩
  · exact .inl h
  · exact .inr ⟨b, h1, h2, h3, h4.next hb⟩
theorem RowAt.off {W : World} {X R0 Y j : Nat} {A : Option Addr} {l : List Nat} (h : RowAt W X R0 A l) (hY : Y = X ∨ Y = R0) (u : Value) : RowAt (W.setCell ⟨Y, j, none⟩ u) X R0 A l := by
  rcases h with h | ⟨b, h1, h2, h3, h4⟩
  · exact .inl h
  · exact .inr ⟨b, h1, h2, h3, h4.off u (by show b ≠ Y; rcases hY with rfl | rfl; exact h2; exact h3)⟩
theorem RowAt.sees {W : World} {X R0 : Nat} {A : Option Addr} {l : List Nat} (h : RowAt W X R0 A l) : Sees W W.heap.size A (un l) := by
  rcases h with rfl | ⟨b, rfl, _, _, h4⟩
  · exact .inl rfl
  · exact sees_bx h4 h4.lt
section
variable {w W W' : World} {X R0 n h : Nat} {l o : List Nat} {A : Option Addr}
theorem PS.next (p : PS w X R0 n h l o A W) (hb : Below W.heap.size W W') : PS w X R0 n h l o A W' :=
  ⟨p.below.trans (hb.mono p.below.size), p.hX, p.hR, p.ne, p.box.next hb, p.own.next hb, p.row.next hb⟩
theorem PS.alloc (p : PS w X R0 n h l o A W) (ob : Obj) : PS w X R0 n h l o A (W.alloc ob) := p.next below_box
theorem PS.drew (p : PS w X R0 n h l o A W) : PS w X R0 n h l o A W.drew := p.next (Below.refl _ _).drew
theorem PS.closed : Closed (PS w X R0 n h l o A) := fun _ _ h hb => h.next hb
/-- c is written anew -/
theorem PS.setX (p : PS w X R0 n h l o A W) (h' : Nat) (l' : List Nat) (b : Nat) (hb : Bx W b (un l').toArray) (h1 : b ≠ X) (h2 : b ≠ R0) :
    PS w X R0 n h' l' o (some ⟨b, 0, none⟩) ((W.setCell ⟨X, 0, none⟩ (.int .u32 h')).setCell ⟨X, 1, none⟩ (.slice (some ⟨b, 0, none⟩) n n)) :=
  ⟨(p.below.setCell p.hX _).setCell p.hX _, p.hX, p.hR, p.ne, (p.box.set (j := 0) _).set (j := 1) _, (p.own.off _ (fun e => p.ne e.symm)).off _ (fun e => p.ne e.symm), .inr ⟨b, rfl, h1, h2, (hb.off _ h1).off _ h1⟩⟩
/-- one of one's own is written anew -/
theorem PS.setOwn (p : PS w X R0 n h l o A W) (k v : Nat) : PS w X R0 n h l (o.set k v) A (W.setCell ⟨R0, k, none⟩ (.int .u32 v)) :=
  ⟨p.below.setCell p.hR _, p.hX, p.hR, p.ne, p.box.off _ p.ne, by rw [← un_set]; exact p.own.set (j := k) _, p.row.off (.inr rfl) _⟩
end
/-- the same, and one block more -/
structure PB (w : World) (X R0 n h : Nat) (l o : List Nat) (A : Option Addr) (D : Nat) (av : Array Value) (W : World) : Prop where
  ps : PS w X R0 n h l o A W
  bx : Bx W D av
theorem PB.closed {w : World} {X R0 n h D : Nat} {l o : List Nat} {A : Option Addr} {av : Array Value} : Closed (PB w X R0 n h l o A D av) := fun _ _ h hb => ⟨h.ps.next hb, h.bx.next hb⟩
/-- New, in range or not -/
theorem new_row (n : Nat) (cars : Int) (h : (cars = n ∧ n ≤ 64) ∨ (¬ (0 ≤ cars ∧ cars ≤ 64) ∧ n = 0)) (W : World) :
    Calls Try.prog 9 #[.int .i64 cars] W fun e W' => ∃ A, e = .returned (.agg #[.int .u32 0, .slice A n n]) ∧ Below W.heap.size W W' ∧ (List.replicate n 0 = [] ∨ ∃ b, A = some ⟨b, 0, none⟩ ∧ Bx W' b (un (List.replicate n 0)).toArray) := by
  rcases h with ⟨rfl, hn⟩ | ⟨hc, rfl⟩
  · refine (New_in n hn W).mono ?_
    rintro e W' ⟨rfl, h1, h2⟩
    exact ⟨_, rfl, h1, .inr ⟨_, rfl, h2⟩⟩
  · refine (New_out cars hc W).mono ?_
    rintro e W' ⟨rfl, h2⟩
    exact ⟨none, rfl, h2, .inl rfl⟩
/-- new calls: in a new block, memory alone is made -/
def PairC (W : World) (h : Nat) (l : List Nat) (n : Nat) (b : Bool) (e : Ending) (W' : World) : Prop :=
  ∃ R, e = .returned (.tuple #[.agg #[.int .u32 h, .slice (some ⟨R, 0, none⟩) n n], .bool b]) ∧ W.heap.size ≤ R ∧ Below W.heap.size W W' ∧ Bx W' R (un l).toArray
def SoleC (W : World) (h : Nat) (l : List Nat) (n : Nat) (e : Ending) (W' : World) : Prop :=
  ∃ R, e = .returned (.agg #[.int .u32 h, .slice (some ⟨R, 0, none⟩) n n]) ∧ W.heap.size ≤ R ∧ Below W.heap.size W W' ∧ Bx W' R (un l).toArray
theorem hall_pc {c c' : C} (hc : c.Ok) {A : Option Addr} {n cap : Nat} (hn : c.l.length = n) (hN : n ≤ 65536) (f m : Int) (h : hall c f m = c') (W : World) (hS : Sees W W.heap.size A (un c.l)) :
    Calls Try.prog 11 #[.agg #[.int .u32 c.h, .slice A n cap], .int .i64 f, .int .i64 m] W (PairC W c'.h c'.l n (isF f m)) := by
  subst h
  refine (Hall_any c hc A n cap hn hN f m W hS).mono ?_
  rintro e W' ⟨h1, h2, h3⟩
  exact ⟨_, h1, by omega, h2, by rw [hall_l]; exact h3⟩
theorem car_pc {c c' : C} (hc : c.Ok) {A : Option Addr} {n cap : Nat} (hn : c.l.length = n) (hN : n ≤ 65536) (k f m : Int) (h : car c k f m = c') (W : World) (hS : Sees W W.heap.size A (un c.l)) :
    Calls Try.prog 12 #[.agg #[.int .u32 c.h, .slice A n cap], .int .i64 k, .int .i64 f, .int .i64 m] W (PairC W c'.h c'.l n (carOk c k f m)) := by
  subst h
  refine (Car_any c hc A n cap hn hN k f m W hS).mono ?_
  rintro e W' ⟨h1, h2, h3⟩
  exact ⟨_, h1, by omega, h2, h3⟩
theorem done_pc {c c' : C} (hc : c.Ok) {A : Option Addr} {n cap : Nat} (hn : c.l.length = n) (hN : n ≤ 65536) (k f : Int) (b : Bool) (h : dn c k f b = c') (W : World) (hS : Sees W W.heap.size A (un c.l)) :
    Calls Try.prog 14 #[.agg #[.int .u32 c.h, .slice A n cap], .int .i64 k, .int .i64 f, .bool b] W (SoleC W c'.h c'.l n) := by
  subst h
  refine (Done_any c hc A n cap hn hN k f b W hS).mono ?_
  rintro e W' ⟨h1, h2, h3⟩
  exact ⟨_, h1, by omega, h2, h3⟩
/-- what the reference tells is what calls tell -/
theorem rnx_nx {c : C} {k : Int} (h : hasC c.l.length k = true) (p : Int) (hs : Nat) : rnx (row c k) (c.h &&& hs) p = nx c k p hs := by rw [nx_in h]; rfl
/-- what becomes of calls -/
def actC (c : C) (kd k f m : Int) (b : Bool) : C := if kd = 0 ∨ kd = 1 then hall c f m else if kd = 2 ∨ kd = 3 then car c k f m else if kd = 4 then dn c k f b else c
theorem act_ok {c : C} (h : c.Ok) (kd k f m : Int) (b : Bool) : (actC c kd k f m b).Ok := by
  unfold actC
  split
  · exact hall_ok h _ _
  · split
    · exact car_ok h _ _ _
    · split
      · exact dn_ok h _ _ _
      · exact h
theorem act_len (c : C) (kd k f m : Int) (b : Bool) : (actC c kd k f m b).l.length = c.l.length := by
  unfold actC
  split
  · rw [hall_l]
  · split
    · exact car_len _ _ _ _
    · split
      · exact dn_len _ _ _ _
      · rfl
theorem act01 (c : C) {kd : Int} (h : kd = 0 ∨ kd = 1) (k f m : Int) (b : Bool) : actC c kd k f m b = hall c f m := by unfold actC; rw [if_pos h]
theorem act23 (c : C) {kd : Int} (h : kd = 2 ∨ kd = 3) (k f m : Int) (b : Bool) : actC c kd k f m b = car c k f m := by unfold actC; rw [if_neg (by omega), if_pos h]
theorem act4 (c : C) (k f m : Int) (b : Bool) : actC c 4 k f m b = dn c k f b := by unfold actC; rw [if_neg (by omega), if_neg (by omega), if_pos rfl]
theorem act5 (c : C) {kd : Int} (h : kd ≠ 0 ∧ kd ≠ 1 ∧ kd ≠ 2 ∧ kd ≠ 3 ∧ kd ≠ 4) (k f m : Int) (b : Bool) : actC c kd k f m b = c := by unfold actC; rw [if_neg (by omega), if_neg (by omega), if_neg (by omega)]
theorem hall_h (c : C) (f m : Int) : (hall c f m).h = if isF f m = true then wi c.h f else c.h := by unfold hall; split <;> rfl
theorem set_same {l : List Nat} {k x : Nat} (h : l[k]? = some x) : l.set k x = l := by
  have hk := (List.getElem?_eq_some_iff.1 h).1
  have he := (List.getElem?_eq_some_iff.1 h).2
  rw [← he]
  exact List.set_getElem_self hk
/-- one's own row, when a car is called for -/
theorem car_own {c : C} {k : Nat} {f m : Int} (hk : hasC c.l.length k = true) : c.l.set k (if isF f m = true then wi (row c k) f else row c k) = (car c k f m).l := by
  unfold car
  have e : carOk c k f m = isF f m := by unfold carOk; rw [hk]; rfl
  rw [e]
  cases isF f m
  · rw [if_neg (by decide), if_neg (by decide)]
    have := car_row hk
    rw [Int.toNat_natCast] at this
    exact set_same this
  · rw [if_pos rfl, if_pos rfl, Int.toNat_natCast]
theorem car_none {c : C} {k f m : Int} (hk : hasC c.l.length k = false) : car c k f m = c := by
  have e : carOk c k f m = false := by unfold carOk; rw [hk]; rfl
  unfold car
  rw [e, if_neg (by decide)]
theorem dn_own {c : C} {k : Nat} {f : Int} {b : Bool} (hk : hasC c.l.length k = true) : c.l.set k (wo (row c k) f) = (dn c k f b).l := by
  unfold dn
  simp only
  rw [if_pos hk, Int.toNat_natCast]
theorem dn_none {c : C} {k f : Int} {b : Bool} (hk : hasC c.l.length k = false) : (dn c k f b).l = c.l := by
  unfold dn
  simp only
  rw [if_neg (by rw [hk]; decide)]
theorem dn_h (c : C) (k f : Int) (b : Bool) : (dn c k f b).h = if b = true then wo c.h f else c.h := rfl
end Go.Proofs.Ytojioadonbiiaaa.Cal
