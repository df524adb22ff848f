/- The words of events, as a map; an event's words. -/
import Derived.Test.YthpbcbbiampamaaGreatDoorScrE
import Derived.Maps.OwnOps
import Derived.Maps.OwnSet
import Derived.Maps.RangeRun
import Derived.StringKeys
namespace Go.Proofs.YthpbcbbiampamaaGreatDoor.Scr
open Go.RowKit Go.Maps Go.Proofs.YthpbcbbiampamaaGreatDoor.ScrP Go.Proofs.YthpbcbbiampamaaGreatDoor.Box Go.Proofs.YthpbcbbiampamaaGreatDoor.Held Go.Proofs.YthpbcbbiampamaaGreatDoor.Sees
set_option linter.unusedVariables false
set_option linter.unusedSimpArgs false
set_option maxRecDepth 100000

theorem given_any (b : Bool) (x : By) (w : World) : Calls Tryz.prog 16 #[.bool b, .string (S x)] w fun e w' => e = .returned (.string (S (gv b x))) ∧ w = w' := by
  cases b
  · go_enter Tryz.func16, Tryz.ntmps16
    go_wp2
    go_ret
    exact ⟨rfl, rfl⟩
  · have e : gv true x = x := rfl
    rw [e]
    generalize S x = s
    go_enter Tryz.func16, Tryz.ntmps16
    go_wp2
    go_ret
    exact ⟨rfl, rfl⟩

theorem keyStr : Keyed Tryz.prog 9 := string_keyed Tryz.underlying9
theorem key_of (l : By) (h : l.length ≤ 100000) : keyOf Tryz.prog 9 (.string (S l)) = some (.string l) := by
  rw [Go.WideMaps.keyOf_string_mk Tryz.underlying9 (by rw [s_size]; unfold maxLen; omega), s_data]
/-- one more key -/
theorem ins {w : World} {b : Nat} {es : Array MapEntry} {clock : Nat} (hb : w.heap[b]? = some (.map es clock)) (l : By) (v : Value) (hl : l.length ≤ 100000) (hk : ∀ e ∈ es.toList, ∃ y : By, y.length ≤ 100000 ∧ e.key = .string (S y) ∧ y ≠ l) :
    (Instr.mapUpdate 55 (.map (some b)) (.string (S l)) v).run Tryz.prog w = .ok () { w with heap := w.heap.setIfInBounds b (.map (es.push ⟨.string (S l), v, clock⟩) (clock + 1)) } := by
  have hkey := key_of l hl
  rcases keyStr.find w hkey es.toList (fun e he => by obtain ⟨y, h1, h2, _⟩ := hk e he; exact ⟨_, by rw [h2]; exact key_of y h1⟩) with ⟨h1, h2⟩ | ⟨j, e0, h1, h2, h3⟩
  · simp [Instr.mapUpdate, run_underlying Tryz.underlying55, MapKept.run_getObj_map hb, keyStr.check w false hkey, h1, MapKept.run_setObj_map _ hb, Result.andThen]
  · obtain ⟨y, _, h4, h5⟩ := hk e0 (List.mem_of_getElem? h2)
    rw [h4] at h3
    injection h3 with h3
    exact absurd (s_inj h3) h5
/-- what lies at a word -/
def fv (x : Int × Bool × Bool) : Value := .agg #[.int .i64 x.1, .bool x.2.1, .bool x.2.2]
def ent (i : Nat) : MapEntry := ⟨.string (S (kw i).1), fv (i, (kw i).2), i⟩
def ents (n : Nat) : Array MapEntry := ((List.range n).map ent).toArray
theorem ents_succ (n : Nat) : ents (n + 1) = (ents n).push (ent n) := by unfold ents; rw [List.range_succ]; simp
def FM (w : World) (b : Nat) : Prop := w.heap[b]? = some (.map (ents 7) 7)
theorem kw_inj {i j : Nat} (hi : i < 7) (hj : j < 7) (h : (kw i).1 = (kw j).1) : i = j := by
  have key : ∀ a b : Fin 7, (kw a.val).1 = (kw b.val).1 → a = b := by decide +kernel
  exact congrArg Fin.val (key ⟨i, hi⟩ ⟨j, hj⟩ h)
theorem mem_ents {n : Nat} {e : MapEntry} (h : e ∈ (ents n).toList) : ∃ i, i < n ∧ e = ent i := by
  unfold ents at h
  simp only [List.mem_map, List.mem_range] at h
  obtain ⟨i, h1, h2⟩ := h
  exact ⟨i, h1, h2.symm⟩
/-- one more word, and what is then -/
theorem ins1 {w0 w : World} {B b n : Nat} (h : w.heap[b]? = some (.map (ents n) n) ∧ Below B w0 w) (hB : B ≤ b) (hn : n < 7) :
    ∃ u : World, (Instr.mapUpdate 55 (.map (some b)) (.string (S (kw n).1)) (fv (n, (kw n).2))).run Tryz.prog w = .ok () u ∧ (u.heap[b]? = some (.map (ents (n + 1)) (n + 1)) ∧ Below B w0 u) := by
  obtain ⟨hb, hl⟩ := h
  have hlt : b < w.heap.size := (Array.getElem?_eq_some_iff.1 hb).1
  refine ⟨_, ins hb _ _ (by have := kw_len n; omega) (fun e he => ?_), ?_, ⟨hl.os, hl.tape, hl.output, by simpa using hl.size, fun i hi => ?_⟩⟩
  · obtain ⟨i, h1, rfl⟩ := mem_ents he
    exact ⟨(kw i).1, by have := kw_len i; omega, rfl, fun e => by have := kw_inj (by omega) hn e; omega⟩
  · rw [ents_succ]
    simp [hlt, ent]
  · rw [← hl.block i hi]
    show (w.heap.setIfInBounds b _)[i]? = w.heap[i]?
    rw [Array.getElem?_setIfInBounds]
    rw [if_neg (by omega)]
set_option maxHeartbeats 1600000 in
theorem forms_any (w : World) : Calls Tryz.prog 19 #[] w fun e w' => ∃ b, e = .returned (.map (some b)) ∧ w.heap.size ≤ b ∧ FM w' b ∧ Below w.heap.size w w' := by
  obtain ⟨u0, r0, h0⟩ : ∃ u0 : World, (Instr.makeMap 55 none).run Tryz.prog w = .ok (.map (some w.heap.size)) u0 ∧ (u0.heap[w.heap.size]? = some (.map (ents 0) 0) ∧ Below w.heap.size w u0) := ⟨w.alloc (.map #[] 0), rfl, by show (w.heap.push _)[w.heap.size]? = _; rw [Array.getElem?_push_size]; rfl, (Below.refl _ _).alloc (Nat.le_refl _) _⟩
  obtain ⟨u1, r1, h1⟩ := ins1 h0 (Nat.le_refl _) (by decide)
  obtain ⟨u2, r2, h2⟩ := ins1 h1 (Nat.le_refl _) (by decide)
  obtain ⟨u3, r3, h3⟩ := ins1 h2 (Nat.le_refl _) (by decide)
  obtain ⟨u4, r4, h4⟩ := ins1 h3 (Nat.le_refl _) (by decide)
  obtain ⟨u5, r5, h5⟩ := ins1 h4 (Nat.le_refl _) (by decide)
  obtain ⟨u6, r6, h6⟩ := ins1 h5 (Nat.le_refl _) (by decide)
  obtain ⟨u7, r7, h7⟩ := ins1 h6 (Nat.le_refl _) (by decide)
  have q1 : (Instr.mapUpdate 55 (.map (some w.heap.size)) (.string ⟨#[104, 97, 108, 108]⟩) (.agg #[.int .i64 0, .bool false, .bool true])).run Tryz.prog u0 = .ok () u1 := r1
  have q2 : (Instr.mapUpdate 55 (.map (some w.heap.size)) (.string ⟨#[99, 97, 108, 108]⟩) (.agg #[.int .i64 1, .bool true, .bool true])).run Tryz.prog u1 = .ok () u2 := r2
  have q3 : (Instr.mapUpdate 55 (.map (some w.heap.size)) (.string ⟨#[108, 111, 97, 100]⟩) (.agg #[.int .i64 2, .bool true, .bool true])).run Tryz.prog u2 = .ok () u3 := r3
  have q4 : (Instr.mapUpdate 55 (.map (some w.heap.size)) (.string ⟨#[102, 97, 117, 108, 116]⟩) (.agg #[.int .i64 3, .bool true, .bool false])).run Tryz.prog u3 = .ok () u4 := r4
  have q5 : (Instr.mapUpdate 55 (.map (some w.heap.size)) (.string ⟨#[114, 101, 115, 101, 116]⟩) (.agg #[.int .i64 4, .bool true, .bool false])).run Tryz.prog u4 = .ok () u5 := r5
  have q6 : (Instr.mapUpdate 55 (.map (some w.heap.size)) (.string ⟨#[112, 105, 99, 107]⟩) (.agg #[.int .i64 5, .bool true, .bool false])).run Tryz.prog u5 = .ok () u6 := r6
  have q7 : (Instr.mapUpdate 55 (.map (some w.heap.size)) (.string ⟨#[114, 101, 115, 116, 97, 114, 116]⟩) (.agg #[.int .i64 6, .bool false, .bool true])).run Tryz.prog u6 = .ok () u7 := r7
  clear r1 r2 r3 r4 r5 r6 r7
  have HB := Lib.hid h7.2
  have HM : Hid (FM u7 w.heap.size) := Lib.hid h7.1
  clear h0 h1 h2 h3 h4 h5 h6 h7
  go_enter Tryz.func19, Tryz.ntmps19
  go_wp2
  go_ret
  exact ⟨_, rfl, Nat.le_refl _, HM.out, HB.out⟩
def z0 : Value := fv (0, false, false)
theorem kd_some {l : By} {x : Int × Bool × Bool} (h : kd l = some x) : ∃ i : Nat, i < 7 ∧ l = (kw i).1 ∧ x = ((i : Int), (kw i).2) := by
  unfold kd at h
  split at h
  · rename_i e; cases h; exact ⟨0, by decide, e, rfl⟩
  · split at h
    · rename_i e; cases h; exact ⟨1, by decide, e, rfl⟩
    · split at h
      · rename_i e; cases h; exact ⟨2, by decide, e, rfl⟩
      · split at h
        · rename_i e; cases h; exact ⟨3, by decide, e, rfl⟩
        · split at h
          · rename_i e; cases h; exact ⟨4, by decide, e, rfl⟩
          · split at h
            · rename_i e; cases h; exact ⟨5, by decide, e, rfl⟩
            · split at h
              · rename_i e; cases h; exact ⟨6, by decide, e, rfl⟩
              · cases h
theorem kd_at (i : Nat) (h : i < 7) : kd (kw i).1 = some ((i : Int), (kw i).2) := (kd_kw ⟨by omega, by omega⟩).2
/-- what a word's form is -/
theorem look {w : World} {b : Nat} (hb : FM w b) (l : By) (hl : l.length ≤ 100000) :
    (Instr.lookup 55 (.map (some b)) (.string (S l)) true).run Tryz.prog w = .ok (.tuple #[(match kd l with | some x => fv x | none => z0), .bool (kd l).isSome]) w := by
  have hkey := key_of l hl
  have hz : (zeroValue 58).run Tryz.prog w = .ok z0 w := rfl
  rcases keyStr.find w hkey (ents 7).toList (fun e he => by obtain ⟨i, h1, rfl⟩ := mem_ents he; exact ⟨_, key_of _ (by have := kw_len i; omega)⟩) with ⟨h1, h2⟩ | ⟨j, e0, h1, h2, h3⟩
  · have hn : kd l = none := by
      cases hk : kd l with
      | none => rfl
      | some x =>
        obtain ⟨i, hi, e, _⟩ := kd_some hk
        have hm : ent i ∈ (ents 7).toList := by unfold ents; simp only [List.mem_map, List.mem_range]; exact ⟨i, hi, rfl⟩
        exact absurd (by show Value.string (S (kw i).1) = _; rw [e]) (h2 _ hm)
    rw [hn]
    simp [Instr.lookup, run_underlying Tryz.underlying55, MapKept.run_getObj_map hb, keyStr.check w _ hkey, h1, Result.andThen, hz]
  · obtain ⟨i, hi, rfl⟩ := mem_ents (List.mem_of_getElem? h2)
    have h3' : Value.string (S (kw i).1) = .string (S l) := h3
    injection h3' with h3'
    have e := s_inj h3'
    rw [← e, kd_at i hi]
    rw [← e] at hkey h1
    simp [Instr.lookup, run_underlying Tryz.underlying55, MapKept.run_getObj_map hb, keyStr.check w _ hkey, h1, Result.andThen, hz]
    rfl
end Go.Proofs.YthpbcbbiampamaaGreatDoor.Scr
