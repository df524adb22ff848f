/- What a slice shows of memory, and what the call's own rows grow by. -/
import Derived.Test.YthpbcbbiampamaaGreatDoorPlain
import Derived.Maps.AppendAt
import Derived.Deep.Draws
import Derived.Lib.Hide
import Derived.Handy
namespace Go.Proofs.YthpbcbbiampamaaGreatDoor.Sees
open Go.RowKit

/-- Below block B the address a leads to the cells xs (nil serves where there are none). -/
def Sees (w : World) (B : Nat) (a : Option Addr) (xs : List Value) : Prop :=
  xs = [] ∨ ∃ b o, a = some ⟨b, o, none⟩ ∧ b < B ∧ ∀ j u, xs[j]? = some u → w.cell? ⟨b, o + j, none⟩ = some u

theorem Sees.nil (w : World) (B : Nat) (a : Option Addr) : Sees w B a [] := .inl rfl
theorem Sees.kept {w w' : World} {B : Nat} {a : Option Addr} {xs : List Value} (h : Sees w B a xs) (hk : ∀ b o, b < B → w'.cell? ⟨b, o, none⟩ = w.cell? ⟨b, o, none⟩) : Sees w' B a xs := by
  rcases h with h | ⟨b, o, ha, hb, hc⟩
  · exact .inl h
  · exact .inr ⟨b, o, ha, hb, fun j u hu => (hk b (o + j) hb).trans (hc j u hu)⟩
theorem Sees.below {w w' : World} {B C : Nat} {a : Option Addr} {xs : List Value} (h : Sees w B a xs) (hb : Below C w w') (hC : B ≤ C) : Sees w' B a xs :=
  h.kept fun b o hlt => hb.cell (p := ⟨b, o, none⟩) (by show b < C; omega)
theorem Sees.more {w : World} {B C : Nat} {a : Option Addr} {xs : List Value} (h : Sees w B a xs) (hC : B ≤ C) : Sees w C a xs := by
  rcases h with h | ⟨b, o, ha, hb, hc⟩
  · exact .inl h
  · exact .inr ⟨b, o, ha, by omega, hc⟩
theorem Sees.at_ {w : World} {B : Nat} {a : Option Addr} {xs : List Value} (h : Sees w B a xs) {k : Nat} {u : Value} (hk : xs[k]? = some u) : ∃ b o, a = some ⟨b, o, none⟩ ∧ b < B ∧ w.cell? ⟨b, o + k, none⟩ = some u := by
  rcases h with h | ⟨b, o, ha, hb, hc⟩
  · subst h; simp at hk
  · exact ⟨b, o, ha, hb, hc k u hk⟩
theorem Sees.own {w : World} {base : Nat} {e : TypeId} {A : Option Addr} {n c : Nat} {xs : List Value} (h : w.ownsRow base e 1 (.slice A n c) n xs) : Sees w w.heap.size A xs := by
  rcases h.2 with ⟨hv, h0⟩ | ⟨g, cap, cur, hv, _, hg, _⟩
  · have : xs = [] := List.eq_nil_of_length_eq_zero (by have := h.1; omega)
    exact .inl this
  · have hA : A = some ⟨g, 0, none⟩ := by injection hv
    subst hA
    refine .inr ⟨g, 0, rfl, (Array.getElem?_eq_some_iff.1 hg).1, fun j u hu => ?_⟩
    have := h.cells (g := g) rfl j u hu
    rwa [Addr.add_lit] at this

/-- A row of the call's own grew from v to v', the world from w to w'. -/
structure Grew (w w' : World) (v v' : Value) : Prop where
  by_ : w.grownBy w' v.ownBlock
  at_ : v'.ownBlock = v.ownBlock ∨ ∃ g, v'.ownBlock = some g ∧ w.heap.size ≤ g
theorem Grew.refl (w : World) (v : Value) : Grew w w v v := ⟨World.grownBy.refl w _, .inl rfl⟩
theorem Grew.trans {a b c : World} {u v x : Value} (h : Grew a b u v) (k : Grew b c v x) : Grew a c u x := by
  refine ⟨⟨k.by_.os.trans h.by_.os, k.by_.tape.trans h.by_.tape, k.by_.output.trans h.by_.output, Nat.le_trans h.by_.size k.by_.size, fun i hi hne => ?_⟩, ?_⟩
  · refine (k.by_.block i (Nat.lt_of_lt_of_le hi h.by_.size) (fun e => ?_)).trans (h.by_.block i hi hne)
    rcases h.at_ with q | ⟨g, q, hg⟩
    · exact hne (e.trans q)
    · rw [q] at e; injection e with e; omega
  · rcases k.at_ with q | ⟨g, q, hg⟩
    · rcases h.at_ with r | ⟨g, r, hg⟩
      · exact .inl (q.trans r)
      · exact .inr ⟨g, q.trans r, hg⟩
    · exact .inr ⟨g, q, Nat.le_trans h.by_.size hg⟩
theorem Grew.alloc {a w : World} {u v : Value} (h : Grew a w u v) (o : Obj) : Grew a (w.alloc o) u v :=
  h.trans ⟨World.grownBy_alloc w o _, .inl rfl⟩
theorem Grew.drewN {a w : World} {u v : Value} (h : Grew a w u v) (n : Nat) : Grew a (w.drewN n) u v :=
  h.trans ⟨⟨rfl, rfl, rfl, Nat.le_refl _, fun _ _ _ => rfl⟩, .inl rfl⟩
theorem Grew.append {a w w' : World} {u v v' : Value} (h : Grew a w u v) (hg : w.grownBy w' v.ownBlock) (hat : v'.ownBlock = v.ownBlock ∨ v'.ownBlock = some w.heap.size) : Grew a w' u v' :=
  h.trans ⟨hg, hat.elim .inl fun e => .inr ⟨_, e, Nat.le_refl _⟩⟩
/-- What lies below both the old world's end and the row is as it was. -/
theorem Grew.below {w w' : World} {v v' : Value} (h : Grew w w' v v') {B : Nat} (hB : B ≤ w.heap.size) (hv : ∀ g, v.ownBlock = some g → B ≤ g) : Below B w w' :=
  ⟨h.by_.os, h.by_.tape, h.by_.output, h.by_.size, fun i hi => h.by_.block i (by omega) (fun e => by have := hv i e.symm; omega)⟩
theorem Grew.base {w w' : World} {v v' : Value} (h : Grew w w' v v') {B : Nat} (hB : B ≤ w.heap.size) (hv : ∀ g, v.ownBlock = some g → B ≤ g) : ∀ g, v'.ownBlock = some g → B ≤ g := by
  intro g hg
  rcases h.at_ with q | ⟨g', q, hge⟩
  · exact hv g (q ▸ hg)
  · rw [q] at hg; injection hg with hg; omega

/-- the cells of a list of numbers -/
def nums (k : IntKind) (l : List Int) : List Value := l.map (Value.int k)
theorem nums_at (k : IntKind) (l : List Int) (j : Nat) (h : j < l.length) : (nums k l)[j]? = some (.int k (l[j]?.getD 0)) := by
  simp [nums, h]
theorem nums_one (k : IntKind) (l : List Int) : ∀ u ∈ nums k l, u.oneCell' = true := ints_oneCell k l
theorem nums_length (k : IntKind) (l : List Int) : (nums k l).length = l.length := by simp [nums]
theorem nums_append (k : IntKind) (l r : List Int) : nums k (l ++ r) = nums k l ++ nums k r := by simp [nums]

theorem own_form {w : World} {base : Nat} {e : TypeId} {v : Value} {n : Nat} {xs : List Value} (h : w.ownsRow base e 1 v n xs) :
    ∃ A c, v = .slice A n c ∧ n ≤ c ∧ Sees w w.heap.size A xs ∧ ∀ g, v.ownBlock = some g → base ≤ g ∧ g < w.heap.size := by
  have hl := h.lt
  rcases h.2 with ⟨hv, h0⟩ | ⟨g, cap, cur, hv, hb, hg, hn, _⟩
  · subst hv; subst h0
    exact ⟨none, 0, rfl, Nat.le_refl _, Sees.own h, hl⟩
  · subst hv
    exact ⟨_, cap, rfl, hn, Sees.own h, hl⟩

theorem own_below {w w' : World} {base B : Nat} {e : TypeId} {size : Nat} {v : Value} {n : Nat} {xs : List Value} (h : w.ownsRow base e size v n xs) (hb : Below B w w') (hv : ∀ k, v.ownBlock = some k → k < B) : w'.ownsRow base e size v n xs := by
  refine ⟨h.1, ?_⟩
  rcases h.2 with h2 | ⟨g, cap, cur, rfl, hg, hh, r⟩
  · exact .inl h2
  · exact .inr ⟨g, cap, cur, rfl, hg, by rw [hb.block g (hv g rfl)]; exact hh, r⟩

theorem own_lower {w : World} {base base' : Nat} {e : TypeId} {size : Nat} {v : Value} {n : Nat} {xs : List Value} (h : w.ownsRow base e size v n xs) (hle : base' ≤ base) : w.ownsRow base' e size v n xs := by
  refine ⟨h.1, ?_⟩
  rcases h.2 with h2 | ⟨g, cap, cur, hv, hg, r⟩
  · exact .inl h2
  · exact .inr ⟨g, cap, cur, hv, Nat.le_trans hle hg, r⟩

theorem run_append_nothing {P : Program} (w : World) (base : Nat) (t ty e : TypeId) (i : TypeInfo) (size : Nat) (ht : P.underlying t = some (.slice e)) (hi : P.info? e = some i)
    (v : Value) (n : Nat) (xs : List Value) (hown : w.ownsRow base e size v n xs) (c : Nat) : (Builtin.append_ #[t, t] ty #[v, .slice none 0 c]).run P w = .ok v w := by
  rcases hown.2 with ⟨rfl, rfl⟩ | ⟨g, cap, cur, rfl, _, _, hnc, _⟩
  · simp [Builtin.append_, run_underlying ht, sizeOf, typeInfo, hi, Builtin.lenOf, Builtin.firstCells]
  · simp [Builtin.append_, run_underlying ht, sizeOf, typeInfo, hi, Builtin.lenOf, Builtin.firstCells, hnc, storeCells]

/-- append of what a slice shows, nil or not, onto a row of the call's own whose elements take one cell -/
theorem wpList_append_sees {P : Program} (w : World) {ops : Array Oper} {rest : List Oper} {o : Oper} {a : Act} {Q : Exit → Act → World → Prop} (hgd : o.guard = none) (s x : Operand) (t : TypeId)
    (ho : o.op = .call { callee := .builtin .append, args := #[s, x], argTypes := #[t, t] })
    (base : Nat) (e : TypeId) (i : TypeInfo) (z : Value) (bytes : Nat) (ht : P.underlying t = some (.slice e)) (hi : P.info? e = some i) (hz : i.zero = some z)
    (hsize : i.size = 1) (hby : i.bytes = bytes) (hzs : z.cells.size = 1)
    (v : Value) (n : Nat) (xs : List Value) (hs : a.eval s = v) (hown : w.ownsRow base e 1 v n xs)
    (B : Nat) (A : Option Addr) (m c : Nat) (news : List Value) (hx : a.eval x = .slice A m c) (hl : news.length = m) (hsee : Sees w B A news) (h1 : ∀ u ∈ news, u.oneCell' = true)
    (h63 : n + m ≤ maxLen) (hbytes : (n + m) * bytes ≤ 140737488355328) (hbase : base ≤ w.heap.size)
    (h : ∀ v' w', w'.ownsRow base e 1 v' (n + m) (xs ++ news) → Grew w w' v v' → wpList P ops Q rest (a.put o.dst v') w') : wpList P ops Q (o :: rest) a w := by
  have hex : ∃ v' w', (Builtin.append_ #[t, t] o.type #[v, .slice A m c]).run P w = .ok v' w' ∧ w'.ownsRow base e 1 v' (n + m) (xs ++ news) ∧ Grew w w' v v' := by
    rcases A with _ | ad
    · have hn : news = [] := by
        rcases hsee with h | ⟨b, o', h, _⟩
        · exact h
        · cases h
      subst hn
      obtain rfl : m = 0 := by simpa using hl.symm
      exact ⟨v, w, run_append_nothing w base t o.type e i 1 ht hi v n xs hown c, by simpa using hown, Grew.refl _ _⟩
    · have hcells : ∀ j u, news[j]? = some u → w.cell? (ad.add j) = some u := by
        intro j u hu
        rcases hsee with h | ⟨b, o', h, _, hc⟩
        · subst h; simp at hu
        · injection h with h
          subst h
          rw [Addr.add_lit]
          exact hc j u hu
      obtain ⟨v', w', hr, h2, h3, _, h5⟩ := run_append_own_at (P := P) w base t o.type e i z 1 bytes ht hi hz hsize hby hzs (by omega) v n xs hown ad m c news (by omega) hcells h1 h63 hbytes hbase
      exact ⟨v', w', hr, h2, (Grew.refl w v).append h3 h5⟩
  obtain ⟨v', w', hr, h2, h3⟩ := hex
  refine wpList_plain hgd fun K hK => ?_
  unfold Oper.wp execOp
  simp only [ho, resolve, invoke, builtin, Sem.run_bind, Sem.run_pure, Result.andThen_ok, List.map_toArray, List.map_cons, List.map_nil, hs, hx, hr]
  exact hK _ _ (h v' w' h2 h3)

theorem new_cell (w : World) (t : TypeId) (v : Value) : ∀ j u, [v][j]? = some u → (w.alloc (.cells #[v] t)).cell? ((⟨w.heap.size, 0, none⟩ : Addr).add j) = some u := by
  intro j u hj
  match j, hj with
  | 0, hj => simp at hj; subst hj; simp [Addr.add]
theorem one_cell (k : IntKind) (n : Int) : ∀ u ∈ [Value.int k n], u.oneCell' = true := by
  intro u hu
  simp at hu
  subst hu
  rfl

/-- What is sliced off at its head shows the rest. -/
theorem sees_cut {w : World} {B : Nat} {a : Option Addr} {xs : List Value} {c : Nat} (h : Sees w B a xs) (n : Nat) (hc : xs.length ≤ c) :
    Sees w B (if c = n then a else a.map (·.add n)) (xs.drop n) := by
  by_cases hl : xs.length ≤ n
  · exact .inl (List.drop_eq_nil_of_le hl)
  · rcases h with h | ⟨b, o, rfl, hb, hcell⟩
    · subst h; simp at hl
    · rw [if_neg (by omega)]
      refine .inr ⟨b, o + n, by simp [Addr.add_lit], hb, fun j u hu => ?_⟩
      rw [List.getElem?_drop] at hu
      rw [Nat.add_assoc]
      exact hcell _ u hu

/-- a row of bytes as a value, and what it shows -/
structure RowV where
  A : Option Addr
  c : Nat
  bs : List Int
def RowV.val (r : RowV) : Value := .slice r.A r.bs.length r.c
structure RowV.Ok (w : World) (B : Nat) (r : RowV) : Prop where
  cap : r.bs.length ≤ r.c
  see : Sees w B r.A (nums .u8 r.bs)
  byte : ∀ b ∈ r.bs, 0 ≤ b ∧ b ≤ 255
theorem RowV.Ok.below {w w' : World} {B C : Nat} {r : RowV} (h : r.Ok w B) (hb : Below C w w') (hC : B ≤ C) : r.Ok w' B := ⟨h.cap, h.see.below hb hC, h.byte⟩
theorem RowV.val_one (rs : List RowV) : ∀ u ∈ rs.map RowV.val, u.oneCell' = true := by
  intro u hu
  obtain ⟨r, _, rfl⟩ := List.mem_map.1 hu
  rfl

theorem bcell {W w1 : World} {B : Nat} (hb : Below B W w1) : ∀ b o, b < B → w1.cell? ⟨b, o, none⟩ = W.cell? ⟨b, o, none⟩ :=
  fun b o h => hb.cell (p := ⟨b, o, none⟩) h

end Go.Proofs.YthpbcbbiampamaaGreatDoor.Sees
