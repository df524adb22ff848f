/- Bytes of a string: converted, overwritten, converted back. -/
import Derived.Test.YthpbcbbiampamaaGreatDoorScrO
import Derived.Lib.ConvBytes
namespace Go.Proofs.YthpbcbbiampamaaGreatDoor.Scr
open Go.RowKit Go.Maps Go.Proofs.YthpbcbbiampamaaGreatDoor.ScrP Go.Proofs.YthpbcbbiampamaaGreatDoor.Box Go.Proofs.YthpbcbbiampamaaGreatDoor.Held Go.Proofs.YthpbcbbiampamaaGreatDoor.Sees Go.Proofs.YthpbcbbiampamaaGreatDoor.Jrn
set_option linter.unusedVariables false
set_option linter.unusedSimpArgs false
set_option maxRecDepth 100000

/-- block G holds the bytes l, may be written up to their end -/
def Cv (W : World) (G : Nat) (l : By) : Prop := ∃ cells : Array Value, W.heap[G]? = some (.cells cells 5 (cells.size, cells.size + 1)) ∧ l.length ≤ cells.size ∧ ∀ (j : Nat) (c : UInt8), l[j]? = some c → cells[j]? = some (Value.int .u8 (c.toNat : Int))
theorem Cv.lt {W : World} {G : Nat} {l : By} (h : Cv W G l) : G < W.heap.size := by
  obtain ⟨cells, h, _⟩ := h
  exact (Array.getElem?_eq_some_iff.1 h).1
theorem Cv.next {W W' : World} {G : Nat} {l : By} (h : Cv W G l) (hb : Below W.heap.size W W') : Cv W' G l := by
  have hl := h.lt
  obtain ⟨cells, h1, h2⟩ := h
  exact ⟨cells, (hb.block G hl).trans h1, h2⟩
theorem Cv.cell {W : World} {G : Nat} {l : By} (h : Cv W G l) {j : Nat} {c : UInt8} (hj : l[j]? = some c) : W.cell? ⟨G, j, none⟩ = some (.int .u8 (c.toNat : Int)) := by
  obtain ⟨cells, h1, h2, h3⟩ := h
  simp [World.cell?, h1, h3 j c hj]
theorem Cv.fr {W : World} {G : Nat} {l : By} (h : Cv W G l) {j : Nat} (hj : j < l.length) : W.frozen? ⟨G, j, none⟩ = false := by
  obtain ⟨cells, h1, h2, h3⟩ := h
  have : ¬ cells.size ≤ j := by omega
  simp [World.frozen?, h1, this]
theorem Cv.set {W : World} {G : Nat} {l : By} (h : Cv W G l) {j : Nat} (c : UInt8) (z : Int) (hz : z = (c.toNat : Int)) : Cv (W.setCell ⟨G, j, none⟩ (.int .u8 z)) G (l.set j c) := by
  subst hz
  obtain ⟨cells, h1, h2, h3⟩ := h
  refine ⟨cells.setIfInBounds j (.int .u8 (c.toNat : Int)), ?_, by simpa using h2, fun i d hd => ?_⟩
  · show (W.heap.modify G _)[G]? = _
    rw [heap_modify _ h1]; simp
  · rw [List.getElem?_set] at hd
    by_cases e : j = i
    · subst e
      rw [if_pos rfl] at hd
      split at hd
      · rename_i hlt
        cases hd
        have : j < cells.size := by omega
        simp [this]
      · cases hd
    · rw [if_neg e] at hd
      rw [Array.getElem?_setIfInBounds_ne e]
      exact h3 i d hd
theorem conv_to (l : By) (W : World) : ∃ cap W', (convert 9 35 (.string (S l))).run Tryz.prog W = .ok (.slice (some ⟨W.heap.size, 0, none⟩) l.length cap) W' ∧ Cv W' W.heap.size l ∧ Below W.heap.size W W' := by
  have h := Go.Lib.run_convert_string_bytes (P := Tryz.prog) W 9 35 5 (S l) Tryz.underlying9 Tryz.underlying35 Tryz.underlying5
  rw [s_size] at h
  refine ⟨_, _, h, ⟨Go.Lib.bytesCells W 5 (S l), Go.Lib.bytesWorld_at_new W 5 (S l), ?_, fun j c hj => ?_⟩, ?_⟩
  · unfold Go.Lib.bytesCells
    rw [Array.size_append, Array.size_map]
    have : (S l).data.size = l.length := by unfold S; simp
    omega
  · have hlt := (List.getElem?_eq_some_iff.1 hj).1
    unfold Go.Lib.bytesCells
    have hd : (S l).data = l.toArray := rfl
    rw [hd, Array.getElem?_append_left (by simpa using hlt)]
    simp [hj]
  · refine ⟨rfl, rfl, rfl, by rw [Go.Lib.bytesWorld_size]; omega, fun i hi => Go.Lib.bytesWorld_at_old W 5 (S l) i hi⟩
/-- .. as a string again -/
theorem conv_back {W : World} {G : Nat} {l : By} (h : Cv W G l) (cap : Nat) : (convert 35 9 (.slice (some ⟨G, 0, none⟩) l.length cap)).run Tryz.prog W = .ok (.string (S l)) W :=
  run_convert_bytes_back (P := Tryz.prog) W 35 9 5 ⟨G, 0, none⟩ cap l Tryz.underlying35 Tryz.underlying5 Tryz.underlying9 (fun j hj => by
    rw [Addr.add_lit, Nat.zero_add]
    exact h.cell (List.getElem?_eq_getElem hj))
end Go.Proofs.YthpbcbbiampamaaGreatDoor.Scr
