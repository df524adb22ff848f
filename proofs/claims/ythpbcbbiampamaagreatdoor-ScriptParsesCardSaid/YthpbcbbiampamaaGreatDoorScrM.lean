/- A line is parsed. -/
import Derived.Test.YthpbcbbiampamaaGreatDoorScrL
namespace Go.Proofs.YthpbcbbiampamaaGreatDoor.Scr
open Go.RowKit Go.Maps Go.Proofs.YthpbcbbiampamaaGreatDoor.ScrP Go.Proofs.YthpbcbbiampamaaGreatDoor.Box Go.Proofs.YthpbcbbiampamaaGreatDoor.Held Go.Proofs.YthpbcbbiampamaaGreatDoor.Sees Go.Proofs.YthpbcbbiampamaaGreatDoor.Jrn
set_option linter.unusedVariables false
set_option linter.unusedSimpArgs false
set_option maxRecDepth 100000

theorem sp_small : ∀ (n : Nat) (s : By), s.length ≤ n → (sp s).length ≤ s.length + 1 ∧ ∀ x ∈ sp s, x.length ≤ s.length := by
  intro n
  induction n with
  | zero =>
    intro s h
    obtain rfl : s = [] := by simpa using h
    exact ⟨Nat.le_refl _, fun x hx => by rw [sp_none (by simp)] at hx; rw [List.mem_singleton.1 hx]; exact Nat.le_refl _⟩
  | succ n ih =>
    intro s h
    rcases idx s with ⟨h1, h2⟩ | ⟨a, r, h1, h2, h3⟩
    · rw [sp_none h2]
      exact ⟨by simp, fun x hx => by rw [List.mem_singleton.1 hx]; exact Nat.le_refl _⟩
    · have hs : s.length = a.length + (r.length + 1) := by rw [h1]; simp
      obtain ⟨i1, i2⟩ := ih r (by omega)
      have e : sp s = a :: sp r := by rw [h1]; exact sp_cut h2 r
      rw [e]
      refine ⟨by rw [List.length_cons]; omega, fun x hx => ?_⟩
      rcases List.mem_cons.1 hx with rfl | hx
      · omega
      · have := i2 x hx; omega
theorem split_strs (l : By) : (Lib.splitB ⟨#[32]⟩ 0 (Lib.countB (S l) ⟨#[32]⟩) (S l)).map Value.string = strs (sp l) ∧ Lib.countB (S l) ⟨#[32]⟩ + 1 = (sp l).length := by
  have hd := s_data l
  have h1 := Lib.splitB_data ⟨#[32]⟩ 0 (Lib.countB (S l) ⟨#[32]⟩) (S l)
  have h2 : Lib.countB (S l) ⟨#[32]⟩ = Lib.count l [32] := by
    show Lib.count (S l).data.toList [32] = _
    rw [hd]
  have h3 := split_sp l.length l (Nat.le_refl _)
  rw [h2] at h1 ⊢
  refine ⟨?_, h3.2⟩
  have h4 : (Lib.splitB ⟨#[32]⟩ 0 (Lib.count l [32]) (S l)).map (·.data.toList) = sp l := by
    rw [h1, hd]; exact h3.1
  rw [← h4]
  unfold strs
  rw [List.map_map]
  exact List.map_congr_left fun x _ => by simp [S]
theorem max_id : Tryz.prog.globalNamed "internal/bytealg.MaxLen" = some 2 := by kernel_rfl
theorem Split_any (l : By) (hl : l.length ≤ 4096) (w : World) (hE : Env w) : Calls Tryz.prog 24 #[.string (S l), .string ⟨#[32]⟩] w fun e w' => e = .returned (.slice (some ⟨w.heap.size, 0, none⟩) (sp l).length (sp l).length) ∧ w' = w.alloc (.cells (strs (sp l)).toArray 9) := by
  obtain ⟨g, m, h1, h2⟩ := hE.max
  rw [max_id] at h1
  obtain rfl : 2 = g := Option.some.inj h1
  have hsz := s_size l
  have H := Shf.strings_Split (S l) ⟨#[32]⟩ m w (by omega) h2 (by decide)
  obtain ⟨k1, k2⟩ := split_strs l
  rw [k1, k2] at H
  exact H

def z5 : Array Value := #[.bool false, .bool false, .int .i64 0, .int .u64 0, .slice none 0 0]
/-- while a line is parsed -/
structure Pa (w : World) (ls : List By) (b : Bool) (cs : Array Value) (W : World) : Prop where
  us : Us W (w.heap.size + 3) (w.heap.size + 2) ls b
  below : Below w.heap.size w W
  b0 : Bx W w.heap.size z5
  b1 : Bx W (w.heap.size + 1) cs
theorem Pa.rd {w W W' : World} {ls ls' : List By} {b b' : Bool} {cs : Array Value} (h : Pa w ls b cs W) (k : Rd W (w.heap.size + 3) (w.heap.size + 2) ls' b' W') : Pa w ls' b' cs W' :=
  ⟨k.us, k.below h.below (by omega), h.b0.kept (k.gr.block _ h.b0.lt (fun e => by injection e with e; omega)), h.b1.kept (k.gr.block _ h.b1.lt (fun e => by injection e with e; omega))⟩
theorem Pa.set {w W : World} {ls : List By} {b : Bool} {cs : Array Value} (h : Pa w ls b cs W) (j : Nat) (u : Value) : Pa w ls b (cs.setIfInBounds j u) (W.setCell ⟨w.heap.size + 1, j, none⟩ u) :=
  ⟨h.us.off u (by simp only; omega) (by simp only; omega), h.below.setCell (by simp only; omega) u, h.b0.off u (by simp only; omega), h.b1.set u⟩
theorem Us.new (W : World) (ls : List By) (tr tu : TypeId) (hl : ∀ x ∈ ls, x.length ≤ 5000) (hn : ls.length ≤ 100000) :
    Us ((W.alloc (.cells (strs ls).toArray tr)).alloc (.cells #[.slice (some ⟨W.heap.size, 0, none⟩) ls.length ls.length, .bool false] tu)) (W.heap.size + 1) W.heap.size ls false := by
  have e1 : (W.alloc (.cells (strs ls).toArray tr)).heap.size = W.heap.size + 1 := by simp
  refine ⟨⟨0, ls.length, ls.length, ?_, rfl, Nat.le_refl _, hn, by omega, by simp; omega, fun j x hx => ?_⟩, hl⟩
  · have := Bx.new (W.alloc (.cells (strs ls).toArray tr)) #[.slice (some ⟨W.heap.size, 0, none⟩) ls.length ls.length, .bool false] tu
    rwa [e1] at this
  · have h := ((Bx.new W (strs ls).toArray tr).alloc (.cells #[.slice (some ⟨W.heap.size, 0, none⟩) ls.length ls.length, .bool false] tu)).cell (j := j) (v := .string (S x)) (by simp [strs, hx])
    rwa [Nat.zero_add]
theorem Pa.start (w : World) (ls : List By) (t1 t2 t3 t4 : TypeId) (hl : ∀ x ∈ ls, x.length ≤ 5000) (hn : ls.length ≤ 100000) :
    Pa w ls false z5 ((((w.alloc (.cells z5 t1)).alloc (.cells z5 t2)).alloc (.cells (strs ls).toArray t3)).alloc (.cells #[.slice (some ⟨w.heap.size + 2, 0, none⟩) ls.length ls.length, .bool false] t4)) := by
  have e1 : (w.alloc (.cells z5 t1)).heap.size = w.heap.size + 1 := by simp
  have e2 : ((w.alloc (.cells z5 t1)).alloc (.cells z5 t2)).heap.size = w.heap.size + 2 := by simp
  refine ⟨?_, ?_, ((((Bx.new w z5 t1).alloc _).alloc _).alloc _), ?_⟩
  · have h := Us.new ((w.alloc (.cells z5 t1)).alloc (.cells z5 t2)) ls t3 t4 hl hn
    rw [e2] at h
    exact h
  · exact ((((Below.refl _ w).alloc (Nat.le_refl _) _).alloc (by simp) _).alloc (by simp; omega) _).alloc (by simp; omega) _
  · have h := (((Bx.new (w.alloc (.cells z5 t1)) z5 t2).alloc (.cells (strs ls).toArray t3)).alloc (.cells #[.slice (some ⟨w.heap.size + 2, 0, none⟩) ls.length ls.length, .bool false] t4))
    rwa [e1] at h
theorem Us.two {W : World} {X R : Nat} {ls : List By} {b : Bool} (h : Us W X R ls b) : W.cell? ⟨X, 1, none⟩ = some (.bool b) := by
  obtain ⟨o, n, c, h1, _⟩ := h.ex
  exact h1.c2.2
/-- with a row of its own besides -/
structure Pb (w : World) (ls : List By) (b : Bool) (cs : Array Value) (es : List E) (v : Value) (W : World) : Prop where
  pa : Pa w ls b cs W
  own : W.ownsRow (w.heap.size + 4) 49 3 v es.length (evc es)
theorem Pb.set {w W : World} {ls : List By} {b : Bool} {cs : Array Value} {es : List E} {v : Value} (h : Pb w ls b cs es v W) (j : Nat) (u : Value) : Pb w ls b (cs.setIfInBounds j u) es v (W.setCell ⟨w.heap.size + 1, j, none⟩ u) :=
  ⟨h.pa.set j u, h.own.kept (grown_cell _ _ _ _) (.inr fun e => by have := (h.own.lt _ e).1; omega)⟩
/-- the result -/
structure Po (w : World) (es : List E) (v : Value) (cs : Array Value) (W : World) : Prop where
  below : Below w.heap.size w W
  b0 : Bx W w.heap.size cs
  own : W.ownsRow (w.heap.size + 4) 49 3 v es.length (evc es)
theorem Po.set {w W : World} {cs : Array Value} {es : List E} {v : Value} (h : Po w es v cs W) (j : Nat) (u : Value) : Po w es v (cs.setIfInBounds j u) (W.setCell ⟨w.heap.size, j, none⟩ u) :=
  ⟨h.below.setCell (Nat.le_refl _) u, h.b0.set u, h.own.kept (grown_cell _ _ _ _) (.inr fun e => by have := (h.own.lt _ e).1; omega)⟩
theorem Po.fill {w W : World} {es : List E} {v : Value} {x0 x1 x2 x3 x4 : Value} (h : Po w es v #[x0, x1, x2, x3, x4] W) (y0 y1 y2 y3 y4 : Value) :
    Po w es v #[y0, y1, y2, y3, y4] (((((W.setCell ⟨w.heap.size, 0, none⟩ y0).setCell ⟨w.heap.size, 1, none⟩ y1).setCell ⟨w.heap.size, 2, none⟩ y2).setCell ⟨w.heap.size, 3, none⟩ y3).setCell ⟨w.heap.size, 4, none⟩ y4) := by
  have h2 := ((((h.set 0 y0).set 1 y1).set 2 y2).set 3 y3).set 4 y4
  simpa using h2

-- plain: what comes of a line
def t0 : T := ⟨false, false, 0, 0, []⟩
def pr (l : By) : T × Int := if 4096 < l.length then (t0, 13) else match prs l with
  | some t => (t, 0)
  | none => (t0, 11)
theorem num_nil : num [] = none := by decide +kernel
theorem bit_nil : bit [] = none := by decide +kernel
/-- whether four words were bad -/
def b4 (l : List By) : Bool := ((false || !okw (hd l) wMains) || !okw (hd l.tail) wGen || (num (hd l.tail.tail)).isNone) || (bit (hd l.tail.tail.tail)).isNone
theorem prs_of {l : By} {es : List E} {ls : List By} {b : Bool} (h : Sp (sp l).tail.tail.tail.tail (b4 (sp l)) es ls b) (he : b = false → ls = []) {z : Int} {u : Nat} (hz : ∀ m, num (hd (sp l).tail.tail) = some m → z = m) (hu : ∀ m, bit (hd (sp l).tail.tail.tail) = some m → u = m) :
    prs l = if b = true then none else some ⟨decide (hd (sp l) = wMains), decide (hd (sp l).tail = wGen), z, u, es⟩ := by
  obtain ⟨h1, h2, _⟩ := h
  unfold prs
  revert h1 h2 hz hu
  generalize sp l = q
  intro hz hu h1 h2
  have bad : b4 q = true → b = true := fun hb => by
    cases b
    · rw [(h1 rfl).1] at hb; cases hb
    · rfl
  rcases q with _ | ⟨w0, _ | ⟨w1, _ | ⟨w2, _ | ⟨w3, r⟩⟩⟩⟩
  · rw [if_pos (bad (by simp [b4, hd, bit_nil]))]
  · rw [if_pos (bad (by simp [b4, hd, bit_nil]))]
  · rw [if_pos (bad (by simp [b4, hd, bit_nil]))]
  · rw [if_pos (bad (by simp [b4, hd, bit_nil]))]
  · have q0 : hd (w0 :: w1 :: w2 :: w3 :: r) = w0 := rfl
    have q1 : hd (w0 :: w1 :: w2 :: w3 :: r).tail = w1 := rfl
    have q2 : hd (w0 :: w1 :: w2 :: w3 :: r).tail.tail = w2 := rfl
    have q3 : hd (w0 :: w1 :: w2 :: w3 :: r).tail.tail.tail = w3 := rfl
    have q4 : (w0 :: w1 :: w2 :: w3 :: r).tail.tail.tail.tail = r := rfl
    rw [q2] at hz
    rw [q3] at hu
    rw [q0, q1]
    rw [q4] at h1 h2
    simp only
    have hb4 : b4 (w0 :: w1 :: w2 :: w3 :: r) = (((false || !okw w0 wMains) || !okw w1 wGen || (num w2).isNone) || (bit w3).isNone) := rfl
    rw [hb4] at h1 h2 bad
    by_cases c0 : (w0 = wMains ∨ w0 = wNone) ∧ (w1 = wGen ∨ w1 = wNone)
    · rw [if_pos c0]
      cases hn : num w2 with
      | none => rw [if_pos (bad (by rw [hn]; simp))]; rfl
      | some z' =>
        obtain rfl := hz z' hn
        simp only [Option.bind_some]
        cases hv : bit w3 with
        | none => rw [if_pos (bad (by rw [hv]; simp))]; rfl
        | some u' =>
          obtain rfl := hu u' hv
          simp only [Option.bind_some]
          have hk : (((false || !okw w0 wMains) || !okw w1 wGen || (num w2).isNone) || (bit w3).isNone) = false := by
            rw [hn, hv]
            unfold okw
            rcases c0 with ⟨c1 | c1, c2 | c2⟩ <;> simp [c1, c2]
          rw [hk] at h1 h2
          cases b
          · obtain ⟨_, h3⟩ := h1 rfl
            rw [he rfl, ev_nil] at h3
            rw [h3]
            simp
          · rcases h2 rfl with h4 | h4
            · cases h4
            · rw [h4]; simp
    · rw [if_neg c0, if_pos (bad ?_)]
      unfold okw
      by_cases c1 : w0 = wMains ∨ w0 = wNone
      · have c2 : ¬ (w1 = wGen ∨ w1 = wNone) := fun c => c0 ⟨c1, c⟩
        simp only [not_or] at c2
        simp [c2.1, c2.2]
      · simp only [not_or] at c1
        simp [c1.1, c1.2]

/-- what is known behind a line that was parsed -/
def ParsePost (l : By) (w : World) (e : Ending) (w' : World) : Prop :=
  ∃ A c, e = .returned (.tuple #[tv (pr l).1 A (pr l).1.es.length c, .int .i64 (pr l).2]) ∧ Hid (Below w.heap.size w w' ∧ Sees w' w'.heap.size A (evc (pr l).1.es) ∧ (pr l).1.es.length ≤ c)

set_option maxHeartbeats 6400000 in
theorem Parse_any (l : By) (hl : l.length ≤ 100000) (w : World) (hE : Env w) : Calls Tryz.prog 11 #[.string (S l)] w (ParsePost l w) := by
  have hsz := s_size l
  by_cases hbig : 4096 < l.length
  · have hp : pr l = (t0, 13) := by unfold pr; rw [if_pos hbig]
    have i1 : (4096 : Int) < ((S l).size : Int) := by omega
    unfold ParsePost
    rw [hp]
    unfold tv tvc t0
    simp only
    clear hsz hE hl
    generalize S l = s at *
    go_enter Tryz.func11, Tryz.ntmps11
    go_wp2
    obtain ⟨q0, q1, q2, q3, q4⟩ := (Bx.new w #[.bool false, .bool false, .int .i64 0, .int .u64 0, .slice none 0 0] 25).c5
    refine bodyPost_ret (v := _) (by simp [results, Tryz.results11, go_sem, *]) rfl ⟨none, 0, rfl, Lib.hid ⟨?_, .inl rfl, Nat.le_refl _⟩⟩
    have h5 : Po w [] (.slice none 0 0) z5 (w.alloc (.cells z5 25)) := ⟨(Below.refl _ w).alloc (Nat.le_refl _) _, Bx.new _ _ _, World.ownsRow_nil _ _ _ _⟩
    exact h5.below
  · have i1 : ¬ (4096 : Int) < ((S l).size : Int) := by omega
    obtain ⟨m1, m2⟩ := sp_small l.length l (Nat.le_refl _)
    have HP : Hid (∀ {ls} {cs} {b} W, Pa w ls b cs W → Below w.heap.size w W) := Lib.hid fun W h => h.below
    have HSp : Hid (∀ W, Below w.heap.size w W → Calls Tryz.prog 24 #[.string (S l), .string ⟨#[32]⟩] W fun e w' => e = .returned (.slice (some ⟨W.heap.size, 0, none⟩) (sp l).length (sp l).length) ∧ w' = W.alloc (.cells (strs (sp l)).toArray 9)) := Lib.hid fun W h => Split_any l (by omega) W (hE.next h)
    have HSt := Lib.hid (fun t1 t2 t3 t4 => Pa.start w (sp l) t1 t2 t3 t4 (fun x hx => by have := m2 x hx; omega) (by omega))
    have hlen : (sp l).tail.tail.tail.tail.length ≤ 100000 := by simp only [List.length_tail]; omega
    have G1 : Hid (∀ {cs} W, Pa w (sp l) false cs W → Calls Tryz.prog 25 #[.pointer (some ⟨w.heap.size + 3, 0, none⟩), .string ⟨#[109, 97, 105, 110, 115]⟩] W fun e W' => e = .returned (.bool (decide (hd (sp l) = wMains))) ∧ Hid (Pa w (sp l).tail (false || !okw (hd (sp l)) wMains) cs W')) := Lib.hid fun W h => (Given_any _ _ _ _ wMains W h.us).mono fun e W' k => ⟨k.1, Lib.hid (h.rd k.2.out)⟩
    have G2 : Hid (∀ {cs} W, Pa w (sp l).tail (false || !okw (hd (sp l)) wMains) cs W → Calls Tryz.prog 25 #[.pointer (some ⟨w.heap.size + 3, 0, none⟩), .string ⟨#[103, 101, 110]⟩] W fun e W' => e = .returned (.bool (decide (hd (sp l).tail = wGen))) ∧ Hid (Pa w (sp l).tail.tail (false || !okw (hd (sp l)) wMains || !okw (hd (sp l).tail) wGen) cs W')) := Lib.hid fun W h => (Given_any _ _ _ _ wGen W h.us).mono fun e W' k => ⟨k.1, Lib.hid (h.rd k.2.out)⟩
    have G3 : Hid (∀ {cs} W, Pa w (sp l).tail.tail (false || !okw (hd (sp l)) wMains || !okw (hd (sp l).tail) wGen) cs W → Calls Tryz.prog 26 #[.pointer (some ⟨w.heap.size + 3, 0, none⟩)] W fun e W' => ∃ z : Int, e = .returned (.int .i64 z) ∧ Hid ((∀ m, num (hd (sp l).tail.tail) = some m → z = m) ∧ Pa w (sp l).tail.tail.tail (false || !okw (hd (sp l)) wMains || !okw (hd (sp l).tail) wGen || (num (hd (sp l).tail.tail)).isNone) cs W')) := Lib.hid fun W h => (Number_any w hE _ _ _ _ W h.below (by omega) h.us).mono fun e W' ⟨z, k1, k2⟩ => ⟨z, k1, Lib.hid ⟨k2.out.1, h.rd k2.out.2⟩⟩
    have G4 : Hid (∀ {cs} W, Pa w (sp l).tail.tail.tail (false || !okw (hd (sp l)) wMains || !okw (hd (sp l).tail) wGen || (num (hd (sp l).tail.tail)).isNone) cs W → Calls Tryz.prog 27 #[.pointer (some ⟨w.heap.size + 3, 0, none⟩)] W fun e W' => ∃ z : Nat, z < 18446744073709551616 ∧ e = .returned (.int .u64 z) ∧ Hid ((∀ m, bit (hd (sp l).tail.tail.tail) = some m → z = m) ∧ Pa w (sp l).tail.tail.tail.tail (b4 (sp l)) cs W')) := Lib.hid fun W h => (Bits_any w hE _ _ _ _ W h.below (by omega) h.us).mono fun e W' ⟨z, k0, k1, k2⟩ => ⟨z, k0, k1, Lib.hid ⟨k2.out.1, h.rd k2.out.2⟩⟩
    have G5 : Hid (∀ {cs} W, Pa w (sp l).tail.tail.tail.tail (b4 (sp l)) cs W → Calls Tryz.prog 28 #[.pointer (some ⟨w.heap.size + 3, 0, none⟩)] W fun e W' => ∃ v es ls' b', e = .returned v ∧ Hid (Sp (sp l).tail.tail.tail.tail (b4 (sp l)) es ls' b' ∧ (b' = false → ls' = [])) ∧ Hid (Pb w ls' b' cs es v W')) := Lib.hid fun W h => (Events_any w hE _ _ _ _ W h.below (by omega) h.us hlen).mono fun e W' ⟨v, es, ls', b', k1, k2⟩ => ⟨v, es, ls', b', k1, Lib.hid ⟨k2.out.1, k2.out.2.1⟩, Lib.hid ⟨h.rd k2.out.2.2.1, by
      have hx := h.us.ex
      obtain ⟨o, n, c, hx1, _⟩ := hx
      have hsz := hx1.lt
      have ho := k2.out.2.2.2
      exact ⟨ho.1, by
        rcases ho.2 with k | ⟨g, cap, cur, p1, p2, p3⟩
        · exact .inl k
        · exact .inr ⟨g, cap, cur, p1, by omega, p3⟩⟩⟩⟩
    have HPrs : Hid (∀ {es : List E} {ls : List By} {b : Bool} {z : Int} {u : Nat}, (Sp (sp l).tail.tail.tail.tail (b4 (sp l)) es ls b ∧ (b = false → ls = [])) → (∀ m, num (hd (sp l).tail.tail) = some m → z = m) → (∀ m, bit (hd (sp l).tail.tail.tail) = some m → u = m) → prs l = if b = true then none else some ⟨decide (hd (sp l) = wMains), decide (hd (sp l).tail = wGen), z, u, es⟩) := Lib.hid fun h hz hu => prs_of h.1 h.2 hz hu
    have HPr : Hid (pr l = match prs l with
      | some t => (t, 0)
      | none => (t0, 11)) := Lib.hid (by unfold pr; rw [if_neg hbig])
    clear hlen m1 m2 hbig hl hsz hE
    show Calls _ _ _ _ fun e w' => ∃ A c, e = .returned (.tuple #[tv (pr l).1 A (pr l).1.es.length c, .int .i64 (pr l).2]) ∧ Hid (Below w.heap.size w w' ∧ Sees w' w'.heap.size A (evc (pr l).1.es) ∧ (pr l).1.es.length ≤ c)
    generalize pr l = PR at *
    generalize prs l = PS at *
    generalize (sp l).tail.tail.tail.tail = l4 at *
    generalize hl3 : (sp l).tail.tail.tail = l3 at *
    generalize hl2 : (sp l).tail.tail = l2 at *
    generalize hl1 : (sp l).tail = l1 at *
    generalize sp l = l0 at *
    generalize b4 l0 = c4 at *
    generalize (false || !okw (hd l0) wMains || !okw (hd l1) wGen || (num (hd l2)).isNone) = c3 at *
    generalize (false || !okw (hd l0) wMains || !okw (hd l1) wGen) = c2 at *
    generalize (false || !okw (hd l0) wMains) = c1 at *
    generalize decide (hd l0 = wMains) = d0 at *
    generalize decide (hd l1 = wGen) = d1 at *
    clear hl1 hl2 hl3
    go_enter Tryz.func11, Tryz.ntmps11
    have hb2 : Below w.heap.size w ((w.alloc (.cells z5 25)).alloc (.cells z5 25)) := ((Below.refl _ w).alloc (Nat.le_refl _) _).alloc (by simp) _
    have HB2 := Lib.hid hb2
    clear hb2
    go_wp2_with (first
      | (go_at_call 24; refine (HSp.out _ HB2.out).mono ?_; rintro e' w3 ⟨he, rfl⟩; obtain rfl : e' = .returned (.slice (some ⟨w.heap.size + 2, 0, none⟩) l0.length l0.length) := he.trans (by simp); clear HB2)
      | (go_at_call 25; (refine (G1.out _ (HSt.out _ _ _ _)).mono ?_; clear HSt; rintro e' w5 ⟨rfl, P5⟩; have P6 := Lib.hid (P5.out.set 0 (.bool d0)); obtain ⟨q0, q1, q2, q3, q4⟩ := P5.out.b1.c5; obtain ⟨f0, f1, f2, f3, f4⟩ := P5.out.b1.f5; clear P5))
      | (go_at_call 25; (refine (G2.out _ P6.out).mono ?_; clear P6 q0 q1 q2 q3 q4 f0 f1 f2 f3 f4; rintro e' w7 ⟨rfl, P7⟩; have P8 := Lib.hid (P7.out.set 1 (.bool d1)); obtain ⟨q0, q1, q2, q3, q4⟩ := P7.out.b1.c5; obtain ⟨f0, f1, f2, f3, f4⟩ := P7.out.b1.f5; clear P7))
      | (go_at_call 26; (refine (G3.out _ P8.out).mono ?_; clear P8 q0 q1 q2 q3 q4 f0 f1 f2 f3 f4; rintro e' w9 ⟨z, rfl, P9⟩; have HZ := Lib.hid P9.out.1; have P10 := Lib.hid (P9.out.2.set 2 (.int .i64 z)); obtain ⟨q0, q1, q2, q3, q4⟩ := P9.out.2.b1.c5; obtain ⟨f0, f1, f2, f3, f4⟩ := P9.out.2.b1.f5; clear P9))
      | (go_at_call 27; (refine (G4.out _ P10.out).mono ?_; clear P10 q0 q1 q2 q3 q4 f0 f1 f2 f3 f4; rintro e' w11 ⟨u, hu, rfl, P11⟩; have HUU := Lib.hid P11.out.1; have P12 := Lib.hid (P11.out.2.set 3 (.int .u64 u)); obtain ⟨q0, q1, q2, q3, q4⟩ := P11.out.2.b1.c5; obtain ⟨f0, f1, f2, f3, f4⟩ := P11.out.2.b1.f5; clear P11))
      | (go_at_call 28; (refine (G5.out _ P12.out).mono ?_; clear P12 q0 q1 q2 q3 q4 f0 f1 f2 f3 f4; rintro e' w13 ⟨v, es, ls', b', rfl, HSpp, P13⟩; have P14 := Lib.hid (P13.out.set 4 v); obtain ⟨A13, c13, rfl, hc13, _, _⟩ := own_formN P13.out.own (by decide); obtain ⟨q0, q1, q2, q3, q4⟩ := P13.out.pa.b1.c5; obtain ⟨f0, f1, f2, f3, f4⟩ := P13.out.pa.b1.f5; have d1' : (w13.setCell ⟨w.heap.size + 1, 4, none⟩ (.slice A13 es.length c13)).cell? ⟨w.heap.size + 1 + 1 + 1, 1, none⟩ = some (.bool b') := P14.out.pa.us.two; have hPR := HPrs.out HSpp.out HZ.out HUU.out; obtain ⟨k0, k1, k2, k3, k4⟩ := P14.out.pa.b1.c5; obtain ⟨r0, r1, r2, r3, r4⟩ := P14.out.pa.b0.c5; obtain ⟨s0, s1, s2, s3, s4⟩ := P14.out.pa.b0.f5; clear P13 HSpp; cases b'))
      )
    · simp only [Bool.false_eq_true, if_false] at hPR
      have hr : PR = (⟨d0, d1, z, u, es⟩, 0) := by rw [HPr.out, hPR]
      have F := Po.fill (w := w) (es := es) (v := .slice A13 es.length c13) ⟨P14.out.pa.below, P14.out.pa.b0, P14.out.own⟩ (.bool d0) (.bool d1) (.int .i64 z) (.int .u64 u) (.slice A13 es.length c13)
      obtain ⟨t0, t1, t2, t3, t4⟩ := F.b0.c5
      obtain ⟨A', c', e', _, hs, _⟩ := own_formN F.own (by decide)
      injection e' with e1 _ e2
      subst e1 e2
      rw [hr]
      refine bodyPost_ret (v := .tuple #[.agg #[.bool d0, .bool d1, .int .i64 z, .int .u64 u, .slice A13 es.length c13], .int .i64 0]) (by simp [results, Tryz.results11, go_sem, *]) rfl ⟨A13, c13, rfl, Lib.hid ⟨F.below, hs, hc13⟩⟩
    · simp only [if_true] at hPR
      have hr : PR = (t0, 11) := by rw [HPr.out, hPR]
      have F := Po.fill (w := w) (es := es) (v := .slice A13 es.length c13) ⟨P14.out.pa.below, P14.out.pa.b0, P14.out.own⟩ (.bool false) (.bool false) (.int .i64 0) (.int .u64 0) (.slice none 0 0)
      obtain ⟨t0, t1, t2, t3, t4⟩ := F.b0.c5
      rw [hr]
      refine bodyPost_ret (v := .tuple #[.agg #[.bool false, .bool false, .int .i64 0, .int .u64 0, .slice none 0 0], .int .i64 11]) (by simp [results, Tryz.results11, go_sem, *]) rfl ⟨none, 0, rfl, Lib.hid ⟨F.below, .inl rfl, Nat.le_refl _⟩⟩
end Go.Proofs.YthpbcbbiampamaaGreatDoor.Scr
