/- What a conversion of bytes to a string makes, of what a slice shows. -/
import Derived.Test.YtjedkkkhficmoaaDoorOctP
import Derived.Deep.QuietTactic
import Derived.BigQuiet
import Derived.Lib.SlBytesConst
namespace Go.Proofs.YtjedkkkhficmoaaDoor.Oct
open Go.RowKit Go.Proofs.YtjedkkkhficmoaaDoor.Plain Go.Proofs.YtjedkkkhficmoaaDoor.Sees
set_option linter.unusedVariables false

theorem conv_sees {w : World} {B : Nat} {A : Option Addr} {bs : List Int} {n c : Nat} (h : Sees w B A (nums .u8 bs)) (hn : bs.length = n) :
    (convert 22 9 (.slice A n c)).run Tryd.prog w = .ok (.string (strOfNums bs)) w := by
  rcases h with h | ⟨b, o, rfl, hb, hc⟩
  · obtain rfl : bs = [] := by simpa [nums] using h
    obtain rfl : n = 0 := by simpa using hn.symm
    cases A with
    | none => exact run_convert_bytes_nil w 22 5 Tryd.underlying22 Tryd.underlying5 0 c 9 Tryd.underlying9
    | some a =>
      have h1 := run_loadCells_list (P := Tryd.prog) w a [] (fun j v hj => by simp at hj)
      rw [run_convert_bytes_string w 22 9 5 (some a) 0 c Tryd.underlying22 Tryd.underlying5 Tryd.underlying9, run_bytesToString w a 0 c [] h1]
      rfl
  · exact run_convert_bytes_arg w 22 5 Tryd.underlying22 Tryd.underlying5 b o n c bs hn (fun i hi => by
      rw [hc i _ (nums_at .u8 bs i (by omega))]; rfl) 9 Tryd.underlying9

theorem sees_new (w : World) (k : IntKind) (t : TypeId) (xs : List Int) : Sees (w.alloc (.cells (nums k xs).toArray t)) (w.alloc (.cells (nums k xs).toArray t)).heap.size (some ⟨w.heap.size, 0, none⟩) (nums k xs) := by
  refine .inr ⟨_, _, rfl, by simp, fun j u hu => ?_⟩
  have h := cell_of_row (w.alloc (.cells (nums k xs).toArray t)) w.heap.size j (nums k xs).toArray t (0, 0) (heap_alloc_new w _)
  rw [Nat.zero_add, h]
  simpa using hu

end Go.Proofs.YtjedkkkhficmoaaDoor.Oct
