/- Strings as lists of bytes. -/
import Derived.Test.YtjedkkkhficmoaaDoorConv
namespace Go.Proofs.YtjedkkkhficmoaaDoor.Oct
open Go.RowKit Go.Proofs.YtjedkkkhficmoaaDoor.Plain Go.Proofs.YtjedkkkhficmoaaDoor.Sees
set_option linter.unusedVariables false

theorem str_append (a b : List Int) : strOfNums a ++ strOfNums b = strOfNums (a ++ b) := by
  unfold strOfNums
  rw [ByteArray.mk_append_mk, List.map_append]
theorem run_str_add (w : World) (a b : List Int) (h : a.length + b.length ≤ 1000000000) : (Op.stringOp .add (strOfNums a) (strOfNums b)).run Tryd.prog w = .ok (.string (strOfNums (a ++ b))) w := by
  rw [run_string_add_sum w _ _ (by rw [strOfNums_size, strOfNums_size]; omega), str_append]
theorem str_nil : strOfNums [] = ⟨#[]⟩ := rfl
theorem conv_one (W : World) (z : Int) : (convert 22 9 (.slice (some ⟨W.heap.size, 0, none⟩) 1 1)).run Tryd.prog (W.alloc (.cells #[.int .u8 z] 5)) = .ok (.string (strOfNums [z])) (W.alloc (.cells #[.int .u8 z] 5)) :=
  conv_sees (bs := [z]) (sees_new W .u8 5 [z]) rfl
theorem conv_two (W : World) (y z : Int) : (convert 22 9 (.slice (some ⟨W.heap.size, 0, none⟩) 2 2)).run Tryd.prog (W.alloc (.cells #[.int .u8 y, .int .u8 z] 5)) = .ok (.string (strOfNums [y, z])) (W.alloc (.cells #[.int .u8 y, .int .u8 z] 5)) :=
  conv_sees (bs := [y, z]) (sees_new W .u8 5 [y, z]) rfl

theorem run_str_index (W : World) (bs : List Int) (i : Nat) (h : i < bs.length) (hb : ∀ b ∈ bs, 0 ≤ b ∧ b ≤ 255) :
    (Instr.index 9 (.string (strOfNums bs)) (.int .i64 (i : Int))).run Tryd.prog W = .ok (.int .u8 (bs[i]?.getD 0)) W := by
  have hsz : (strOfNums bs).size = bs.length := strOfNums_size bs
  rw [run_index_string W 9 _ _ _ Tryd.underlying9, dif_pos (by rw [hsz]; omega)]
  congr 2
  have hx := hb bs[i] (List.getElem_mem h)
  have e : (strOfNums bs)[(i : Int).toNat]'(by rw [hsz]; omega) = UInt8.ofNat (bs[i]).toNat := by
    show (strOfNums bs).data[(i : Int).toNat]'_ = _
    simp [strOfNums]
  rw [e]
  simp [h]
  omega

theorem str_drop (bs : List Int) (n : Nat) : (strOfNums bs).extract n (strOfNums bs).size = strOfNums (bs.drop n) := by
  have hsz : (strOfNums bs).size = bs.length := strOfNums_size bs
  rw [hsz]
  unfold strOfNums
  rw [ByteArray.extract_mk, ← List.map_drop, ← List.map_take]
  rw [List.take_of_length_le (by simp)]
theorem str_mid (bs : List Int) (n m : Nat) : (strOfNums bs).extract n m = strOfNums ((bs.drop n).take (m - n)) := by
  unfold strOfNums
  rw [ByteArray.extract_mk, ← List.map_drop, ← List.map_take]
theorem run_str_from (W : World) (bs : List Int) (n : Nat) (h : n ≤ bs.length) :
    (Instr.slice 9 (.string (strOfNums bs)) (some (.int .i64 (n : Int))) none none).run Tryd.prog W = .ok (.string (strOfNums (bs.drop n))) W := by
  have hsz : (strOfNums bs).size = bs.length := strOfNums_size bs
  rw [run_slice_string_from_if W 9 _ _ _ Tryd.underlying9, if_pos (by rw [hsz]; omega), Int.toNat_natCast, str_drop]
theorem str_toList (bs : List Int) : (strOfNums bs).toList = bs.map fun n => UInt8.ofNat n.toNat := by
  rw [ByteArray.toList_eq]; rfl

end Go.Proofs.YtjedkkkhficmoaaDoor.Oct
