/- The reference of layer 2: Seal and Open. -/
import Derived.Test.YtgbgbodhpahceaaDoorCrcC0
namespace Go.Proofs.YtgbgbodhpahceaaDoor.Crc
open Go.RowKit Go.Proofs.YtgbgbodhpahceaaDoor.Plain Go.Proofs.YtgbgbodhpahceaaDoor.Sees Go.Proofs.YtgbgbodhpahceaaDoor.Oct
set_option linter.unusedVariables false
set_option maxRecDepth 100000

theorem refSeal_any (bs : List Int) (w : World) (hlen : bs.length ≤ 1000000) (hb : ∀ b ∈ bs, 0 ≤ b ∧ b ≤ 255) :
    Calls Tryd.prog 38 #[.string (strOfNums bs)] w (StrPost w (bs ++ lowB 4 (crc bs : Nat))) := by
  have hof := fun W => refOf_any bs W hlen hb
  have hq := crc_lt bs
  have hll := lowB_length 4 (crc bs : Nat)
  have hadd : ∀ W, (Op.stringOp .add (strOfNums bs) (strOfNums (lowB 4 (crc bs : Nat)))).run Tryd.prog W = .ok (.string (strOfNums (bs ++ lowB 4 (crc bs : Nat)))) W := fun W =>
    run_str_add W _ _ (by rw [hll]; omega)
  generalize crc bs = q at *
  have hnum : ∀ W, Calls Tryd.prog 37 #[.int .i64 4, .int .u64 (q : Int)] W fun e w' => e = .returned (.string (strOfNums (lowB 4 (q : Int)))) ∧ Below W.heap.size W w' := fun W => num_any 4 (q : Int) W (by omega) (by omega) (by omega)
  have HOF := Lib.hid hof
  have HN := Lib.hid hnum
  clear hof hll hnum
  go_enter Tryd.func38, Tryd.ntmps38
  go_wp2_with (first
    | (go_at_call 60; ((with_reducible refine (HOF.out _).mono ?_); rintro e w' ⟨rfl, rfl⟩))
    | (go_at_call 37; ((with_reducible refine (HN.out _).mono ?_); rintro e w' ⟨rfl, hb2⟩)))
  go_ret
  exact ⟨rfl, hb2⟩

theorem refOpen_short (s : ByteArray) (w : World) (h : s.size < 4) :
    Calls Tryd.prog 31 #[.string s] w fun e w' => e = .returned (.tuple #[.string ⟨#[]⟩, .bool false]) ∧ w = w' := by
  have h' : (s.size : Int) < 4 := by omega
  go_enter Tryd.func31, Tryd.ntmps31
  go_wp2
  go_ret2
  exact ⟨rfl, rfl⟩

theorem run_str_to (W : World) (bs : List Int) (n : Nat) (h : n ≤ bs.length) :
    (Instr.slice 9 (.string (strOfNums bs)) none (some (.int .i64 (n : Int))) none).run Tryd.prog W = .ok (.string (strOfNums (bs.take n))) W := by
  have hsz : (strOfNums bs).size = bs.length := strOfNums_size bs
  rw [run_slice_string_to_if W 9 _ _ _ Tryd.underlying9, if_pos (by rw [hsz]; omega), Int.toNat_natCast, str_mid]
  simp

set_option maxHeartbeats 800000 in
theorem refOpen_yes (pre : List Int) (n : Nat) (w : World) (hn : pre.length = n) (hlen : n ≤ 900000) (hb : ∀ b ∈ pre, 0 ≤ b ∧ b ≤ 255) :
    Calls Tryd.prog 31 #[.string (strOfNums (pre ++ lowB 4 (crc pre : Nat)))] w fun e w' => e = .returned (.tuple #[.string (strOfNums pre), .bool true]) ∧ Below w.heap.size w w' := by
  have hseal : ∀ W, Calls Tryd.prog 38 #[.string (strOfNums pre)] W fun e w' => e = .returned (.string (strOfNums (pre ++ lowB 4 (crc pre : Nat)))) ∧ Below W.heap.size W w' := fun W => refSeal_any pre W (by omega) hb
  have hll := lowB_length 4 (crc pre : Nat)
  generalize lowB 4 (crc pre : Nat) = q at *
  have hto := fun W => run_str_to W (pre ++ q) n (by rw [List.length_append]; omega)
  rw [List.take_left' hn] at hto
  have hsz : (strOfNums (pre ++ q)).size = n + 4 := by rw [strOfNums_size, List.length_append, hn, hll]
  have he : ((n + 4 : Nat) : Int) - 4 = (n : Int) := by omega
  generalize strOfNums (pre ++ q) = s at *
  obtain ⟨m, hmm⟩ : ∃ m, n + 4 = m := ⟨_, rfl⟩
  rw [hmm] at he hsz
  have h4 : ¬ (m : Int) < 4 := by omega
  have hm2 : m ≤ 1000000 := by omega
  have HS := Lib.hid hseal
  have HM := Lib.hid hmm
  clear hseal hll hn hmm
  go_enter Tryd.func31, Tryd.ntmps31
  go_wp2_with (go_at_call 38; ((with_reducible refine (HS.out _).mono ?_); rintro e w' ⟨rfl, hb2⟩))
  go_ret2
  exact ⟨rfl, hb2⟩

set_option maxHeartbeats 800000 in
theorem refOpen_no (pre q : List Int) (n : Nat) (w : World) (hn : pre.length = n) (hq : q.length = 4) (hlen : n ≤ 900000) (hb : ∀ b ∈ pre ++ q, 0 ≤ b ∧ b ≤ 255) (hne : q ≠ lowB 4 (crc pre : Nat)) :
    Calls Tryd.prog 31 #[.string (strOfNums (pre ++ q))] w fun e w' => e = .returned (.tuple #[.string ⟨#[]⟩, .bool false]) ∧ Below w.heap.size w w' := by
  have hseal : ∀ W, Calls Tryd.prog 38 #[.string (strOfNums pre)] W fun e w' => e = .returned (.string (strOfNums (pre ++ lowB 4 (crc pre : Nat)))) ∧ Below W.heap.size W w' := fun W => refSeal_any pre W (by omega) (fun b h => hb b (by simp [h]))
  have hlb := lowB_mem 4 (crc pre : Nat)
  generalize lowB 4 (crc pre : Nat) = q2 at *
  have hdiff : ((strOfNums (pre ++ q2)).toList == (strOfNums (pre ++ q)).toList) = false := by
    rw [beq_eq_false_iff_ne]
    intro e
    rw [str_toList, str_toList] at e
    have h1 := bytes_inj (pre ++ q2) (pre ++ q) (fun x hx => by
      rcases List.mem_append.1 hx with h | h
      · exact hb x (by simp [h])
      · exact hlb x h) hb e
    exact hne (List.append_cancel_left h1).symm
  have hto := fun W => run_str_to W (pre ++ q) n (by rw [List.length_append]; omega)
  rw [List.take_left' hn] at hto
  have hsz : (strOfNums (pre ++ q)).size = n + 4 := by rw [strOfNums_size, List.length_append, hn, hq]
  have he : ((n + 4 : Nat) : Int) - 4 = (n : Int) := by omega
  generalize strOfNums (pre ++ q) = s at *
  generalize strOfNums (pre ++ q2) = s2 at *
  obtain ⟨m, hmm⟩ : ∃ m, n + 4 = m := ⟨_, rfl⟩
  rw [hmm] at he hsz
  have h4 : ¬ (m : Int) < 4 := by omega
  have hm2 : m ≤ 1000000 := by omega
  have HS := Lib.hid hseal
  clear hseal hn hmm hne hlb hq
  go_enter Tryd.func31, Tryd.ntmps31
  go_wp2_with (go_at_call 38; ((with_reducible refine (HS.out _).mono ?_); rintro e w' ⟨rfl, hb2⟩))
  go_ret2
  exact ⟨rfl, hb2⟩

end Go.Proofs.YtgbgbodhpahceaaDoor.Crc
