/- Strings as rows of bytes; what of the library's own variables lies in memory; an int's text, an unsigned one's. -/
import Derived.Test.YthpbcbbiampamaaGreatDoorShf
import Derived.Test.YthpbcbbiampamaaGreatDoorScrP
import Derived.Test.YthpbcbbiampamaaGreatDoorBox
import Derived.Test.YthpbcbbiampamaaGreatDoorHeld
import Derived.Lib.SlBytesConst
import Derived.MapKept
import Derived.Laws.StructEq
namespace Go.Proofs.YthpbcbbiampamaaGreatDoor.Scr
open Go.RowKit Go.Sort Go.Lib Go.Proofs.YthpbcbbiampamaaGreatDoor.ScrP Go.Proofs.YthpbcbbiampamaaGreatDoor.Box Go.Proofs.YthpbcbbiampamaaGreatDoor.Held
set_option linter.unusedVariables false

def S (l : By) : ByteArray := ⟨l.toArray⟩
theorem s_data (l : By) : (S l).data.toList = l := by unfold S; simp
theorem s_size (l : By) : (S l).size = l.length := by unfold S; simp [ByteArray.size]
theorem s_of (b : ByteArray) : S b.data.toList = b := by unfold S; simp
theorem s_inj {a b : By} (h : S a = S b) : a = b := by have := congrArg (fun x => x.data.toList) h; simpa [s_data] using this
theorem s_app (a b : By) : S a ++ S b = S (a ++ b) := by unfold S; rw [ByteArray.mk_append_mk]
theorem run_add (w : World) (a b : By) (h : a.length + b.length ≤ 1000000000) : (Op.stringOp .add (S a) (S b)).run Tryz.prog w = .ok (.string (S (a ++ b))) w := by
  rw [run_string_add_sum w _ _ (by rw [s_size, s_size]; omega), s_app]
theorem s_beq (a b : By) : (S a == S b) = decide (a = b) := by
  rw [Bool.eq_iff_iff, decide_eq_true_iff]
  exact (Go.MapKept.bytes_beq _ _).trans ⟨s_inj, fun h => by rw [h]⟩
theorem s_beql (a b : By) : ((S a).toList == (S b).toList) = decide (a = b) := by rw [← beq_toListBytes, s_beq]

-- the library's variables
structure Env (W : World) : Prop where
  tab : Lib.TabIs Tryz.prog W "internal/strconv.uint64pow10" .u64 Lib.pow10Tab
  syn : ∃ tp p, W.var? Tryz.prog "strconv.ErrSyntax" = some #[.iface tp p]
  rng : ∃ tp p, W.var? Tryz.prog "strconv.ErrRange" = some #[.iface tp p]
  max : ∃ g m, Tryz.prog.globalNamed "internal/bytealg.MaxLen" = some g ∧ W.cell? ⟨g, 0, none⟩ = some (.int .i64 m)
theorem var_next {W W' : World} {n : String} {cs : Array Value} (h : W.var? Tryz.prog n = some cs) (hb : Below W.heap.size W W') : W'.var? Tryz.prog n = some cs := by
  unfold World.var? at *
  cases hg : Tryz.prog.globalNamed n with
  | none => simp [hg] at h
  | some g =>
    simp only [hg, Option.bind_some] at h ⊢
    have hlt : g < W.heap.size := by
      rcases Nat.lt_or_ge g W.heap.size with h' | h'
      · exact h'
      · rw [Array.getElem?_eq_none h'] at h; simp at h
    rw [hb.block g hlt]
    exact h
theorem cell_lt {w : World} {a : Addr} {v : Value} (h : w.cell? a = some v) : a.block < w.heap.size := by
  rcases Nat.lt_or_ge a.block w.heap.size with h' | h'
  · exact h'
  · simp [World.cell?, Array.getElem?_eq_none h'] at h
theorem Env.next {W W' : World} (h : Env W) (hb : Below W.heap.size W W') : Env W' := by
  obtain ⟨a, ⟨t1, p1, b⟩, ⟨t2, p2, c⟩, g, m, d, e⟩ := h
  exact ⟨var_next a hb, ⟨t1, p1, var_next b hb⟩, ⟨t2, p2, var_next c hb⟩, g, m, d, (hb.cell (cell_lt e)).trans e⟩
theorem below_grow (w : World) (k : Nat) (os : Array Obj) : Below w.heap.size w (grow (w.drewN k) os) := by
  refine ⟨rfl, rfl, rfl, ?_, fun j hj => ?_⟩
  · show w.heap.size ≤ (w.heap ++ os).size
    rw [Array.size_append]; omega
  · show (w.heap ++ os)[j]? = w.heap[j]?
    rw [Array.getElem?_append_left hj]

theorem Itoa_any (n : Int) (h : In64 n) (w : World) (hE : Env w) : Calls Tryz.prog 17 #[.int .i64 n] w (Says w (.string (S (itoa n)))) :=
  (Shf.strconv_Itoa n h.1 h.2 w hE.tab).mono fun e w' ⟨h1, k, os, h2⟩ => ⟨h1, h2 ▸ below_grow w k os⟩

theorem holds_zero0 (w : World) (T : TypeId) (nd : Nat) (hs : nd ≤ 24) : Holds (fun (b : UInt8) => Value.int .u8 (b.toNat : Int)) (w.alloc (.cells Lib.zeros24 T)) w.heap.size 0 (Array.replicate nd (0 : UInt8)) := fun j hj => by
  have hj' : j < nd := by simpa using hj
  refine ⟨?_, World.frozen?_alloc_new _ _ _ _⟩
  rw [World.cell?_alloc_new, Lib.zeros24_at _ (by omega), getElem!_pos _ j hj]
  simp
theorem fin0 (w : World) (o : Obj) (dk : Array UInt8) (k : Nat) : ∃ os, (putRow (fun (b : UInt8) => Value.int .u8 (b.toNat : Int)) (w.alloc o) w.heap.size 0 dk).drewN k = grow (w.drewN k) os := by
  rw [alloc_eq_grow]
  obtain ⟨os', _, e⟩ := putRow_grow_new (fun (b : UInt8) => Value.int .u8 (b.toNat : Int)) w #[o] w.heap.size 0 dk (Nat.le_refl _)
  exact ⟨os', by rw [e]; rfl⟩

set_option maxHeartbeats 6400000 in
set_option maxRecDepth 100000 in
theorem iFUint_any (u : Nat) (hu64 : u < 18446744073709551616) (w : World) (hE : Env w) : Calls Tryz.prog 39 #[.int .u64 u, .int .i64 10] w (Says w (.string (S (decDigits u)))) := by
  by_cases hs : u < 100
  · have i1 : IntKind.i64.wrap (u : Int) = (u : Int) := IntWalk.i64_in _ (by omega)
    go_enter Tryz.func39, Tryz.ntmps39
    go_wp2_with (go_at_call 53; refine (Shf.internal_strconv_small u hs _).mono ?_; rintro e w' ⟨rfl, rfl⟩)
    go_ret
    exact ⟨rfl, Below.refl _ _⟩
  · have hu1 : 1 ≤ u := by omega
    have hnd20 : Lib.nDigits u ≤ 20 := by have := Lib.numDigits_eq u hu1 hu64; split at this <;> omega
    have hal : Tryz.prog.arrayLen 136 = 24 := by kernel_rfl
    have hsl1 : ∀ W, (Instr.sliceAt 136 (.pointer (some ⟨w.heap.size, 0, none⟩)) none (some (.int .i64 (Lib.nDigits u : Int))) none).run Tryz.prog W = .ok (.slice (some ⟨w.heap.size, 0, none⟩) (Lib.nDigits u) 24) W := fun W => by
      rw [run_sliceAt_array_h W 136 ⟨w.heap.size, 0, none⟩ (by kernel_rfl) .i64 (Lib.nDigits u : Int) (by omega) (by rw [hal]; omega)]
      go_simp
    have hH0 := holds_zero0 w 136 (Lib.nDigits u) (by omega)
    have hfmt := Shf.internal_strconv_formatBase10 w.heap.size 0 24 u (Array.replicate (Lib.nDigits u) 0) (w.alloc (.cells Lib.zeros24 136)) hH0 (by rw [Array.size_replicate]; exact Lib.lt_pow_nDigits u) hu64 (by rw [Array.size_replicate]; omega)
    rw [Array.size_replicate] at hfmt
    have HH0 := Lib.hid hH0
    have htab := hE.tab
    clear hH0 hal
    go_enter Tryz.func39, Tryz.ntmps39
    go_wp2_with (first
      | (go_at_call 54; refine (Shf.internal_strconv_numDigits u hu1 hu64 _ (Lib.tabIs_alloc htab _)).mono ?_; rintro e w' ⟨rfl, rfl⟩))
    go_at_call 55
    refine hfmt.mono ?_
    rintro e w' ⟨rfl, k, v', dk, rfl, hF⟩
    have hcv : (convert 35 9 (.slice (some ⟨w.heap.size, 0, none⟩) (Lib.nDigits u) 24)).run Tryz.prog ((putRow (fun (b : UInt8) => Value.int .u8 (b.toNat : Int)) (w.alloc (.cells Lib.zeros24 136)) w.heap.size 0 dk).drewN k) = .ok (.string (S (Lib.decDigits u))) ((putRow (fun (b : UInt8) => Value.int .u8 (b.toNat : Int)) (w.alloc (.cells Lib.zeros24 136)) w.heap.size 0 dk).drewN k) := by
      have h := run_convert_bytes_back (P := Tryz.prog) ((putRow (fun (b : UInt8) => Value.int .u8 (b.toNat : Int)) (w.alloc (.cells Lib.zeros24 136)) w.heap.size 0 dk).drewN k) 35 9 5 ⟨w.heap.size, 0, none⟩ 24 (Lib.decDigits u) Tryz.underlying35 Tryz.underlying5 Tryz.underlying9 (fun j hj => by
        rw [Lib.row_is_numeral hF j hj, Lib.add_plain, World.cell?_drewN]
        exact cell?_putRow (fun (b : UInt8) => Value.int .u8 (b.toNat : Int)) _ w.heap.size 0 _ dk HH0.out (by rw [hF.size, Array.size_replicate]) j (by rw [hF.size]; rw [Lib.decDigits_length] at hj; exact hj))
      rw [Lib.decDigits_length] at h
      exact h
    go_wp2
    go_ret
    obtain ⟨os, eo⟩ := fin0 w (.cells Lib.zeros24 136) dk k
    refine ⟨rfl, ?_⟩
    rw [eo]
    exact below_grow w k os
theorem FUint_any (u : Nat) (hu64 : u < 18446744073709551616) (w : World) (hE : Env w) : Calls Tryz.prog 18 #[.int .u64 u, .int .i64 10] w (Says w (.string (S (decDigits u)))) := by
  have H := Lib.hid (iFUint_any u hu64 w hE)
  go_enter Tryz.func18, Tryz.ntmps18
  go_wp2_with (go_at_call 39; refine H.out.mono ?_; rintro e w' ⟨rfl, h⟩)
  go_ret
  exact ⟨rfl, h⟩
end Go.Proofs.YthpbcbbiampamaaGreatDoor.Scr
