/- Contracts of crc.with and crc.Of: the table that is laid, a byte, a row, rows. -/
import Derived.Test.YtjedkkkhficmoaaDoorOctP
import Derived.Test.YtjedkkkhficmoaaDoorCrcP
import Derived.Laws.BitsAllLaws
namespace Go.Proofs.YtjedkkkhficmoaaDoor.Crc
open Go.RowKit Go.Proofs.YtjedkkkhficmoaaDoor.Plain Go.Proofs.YtjedkkkhficmoaaDoor.Sees
set_option linter.unusedVariables false
set_option maxRecDepth 100000

/-- the table lies in block 0 -/
def Tab (w : World) : Prop := 0 < w.heap.size ∧ ∀ r : Nat, r < 16 → w.cell? ⟨0, r, none⟩ = some (.int .u32 (zn 4 r : Nat))
theorem Tab.below {w w' : World} {B : Nat} (h : Tab w) (hB : 0 < B) (hb : Below B w w') (hs : B ≤ w.heap.size) : Tab w' :=
  ⟨by have := hb.size; omega, fun r hr => (hb.cell (p := ⟨0, r, none⟩) (by exact hB)).trans (h.2 r hr)⟩
theorem Tab.next {w w' : World} (h : Tab w) (hb : Below w.heap.size w w') : Tab w' := h.below h.1 hb (Nat.le_refl _)

theorem xor_u32 (a b : Nat) (ha : a < 4294967296) (hb : b < 4294967296) : bits .xor .u32 (a : Int) (b : Int) = ((a ^^^ b : Nat) : Int) := u32_xor_nat a b ha hb
theorem and15 (a : Nat) (ha : a < 4294967296) : bits .and .u32 (a : Int) 15 = ((a % 16 : Nat) : Int) := by
  have := u32_and_nat a 15 ha (by decide)
  rw [show ((15 : Nat) : Int) = 15 from rfl] at this
  rw [this, show (15 : Nat) = 2 ^ 4 - 1 from rfl, Nat.and_two_pow_sub_one_eq_mod]

theorem half_step (v : Nat) (h : v < 4294967296) : ∃ v2 : Nat, bits .xor .u32 ((v : Int) / 16) ((zn 4 (v % 16) : Nat) : Int) = (v2 : Int) ∧ v2 < 4294967296 ∧ zn 4 v = v2 := by
  have ht : zn 4 (v % 16) < 4294967296 := zn_lt 4 _ (by omega)
  refine ⟨v / 16 ^^^ zn 4 (v % 16), ?_, xor_lt32 _ _ (by omega) ht, ?_⟩
  · have := xor_u32 (v / 16) (zn 4 (v % 16)) (by omega) ht
    rw [← this, Int.natCast_ediv]
    rfl
  · rw [nibble, tab_get _ (Nat.mod_lt _ (by decide))]
    rfl

set_option maxHeartbeats 800000 in
theorem with_any (s : Nat) (a : Option Addr) (m c B : Nat) (bs : List Int) (w : World) (hs : s < 4294967296) (hlen : bs.length = m) (hmx : m ≤ maxLen) (ht : Tab w)
    (hsee : Sees w B a (nums .u8 bs)) (hb : ∀ b ∈ bs, 0 ≤ b ∧ b ≤ 255) :
    Calls Tryd.prog 71 #[.int .u32 s, .slice a m c] w fun e w' => e = .returned (.int .u32 (upd s bs : Nat)) ∧ w = w' := by
  unfold maxLen at hmx
  go_enter Tryd.func71, Tryd.ntmps71
  go_wp2
  go_loop [0, 9] (fun n i => ∃ k : Nat, k ≤ m ∧ i = .int .i64 k ∧ n = .int .u32 (upd s (bs.take k) : Nat)) (fun _ i => m - (intOf i).toNat)
  case atStart => exact ⟨0, Nat.zero_le _, rfl, rfl⟩
  case round =>
    obtain ⟨k, hk, rfl, rfl⟩ := hrel
    have hu := upd_lt (bs.take k) s hs (fun c hc => hb c (List.mem_of_mem_take hc))
    by_cases hlt : k < m
    · obtain ⟨b, o, rfl, hbB, hc⟩ := hsee.at_ (nums_at .u8 bs k (by omega))
      have hby := hb _ (get_mem bs k (by omega) 0)
      have HT := Lib.hid (take_snoc bs k (by omega) 0)
      generalize hx : bs[k]?.getD 0 = x at *
      have HX := Lib.hid hx
      obtain ⟨y, rfl⟩ := Int.eq_ofNat_of_zero_le hby.1
      generalize hU : upd s (bs.take k) = u at *
      have HU := Lib.hid hU
      have hy : y < 256 := by omega
      obtain ⟨v, hv⟩ : ∃ v, u ^^^ y = v := ⟨_, rfl⟩
      have hv1 : v < 4294967296 := by rw [← hv]; exact xor_lt32 u y hu (by omega)
      have E1 := xor_u32 u y hu (by omega)
      have E2 := and15 v hv1
      rw [hv] at E1
      obtain ⟨v2, E3, hv2, hn2⟩ := half_step v hv1
      have C1 := ht.2 (v % 16) (by omega)
      obtain ⟨v3, E4, hv3, hn3⟩ := half_step v2 hv2
      have C2 := ht.2 (v2 % 16) (by omega)
      have E5 := and15 v2 hv2
      have hp : v % 16 < 16 := by omega
      have hp2 : v2 % 16 < 16 := by omega
      generalize v % 16 = p at *
      generalize v2 % 16 = p2 at *
      generalize zn 4 p = t at *
      generalize zn 4 p2 = t2 at *
      have HV := Lib.hid hv
      have HN2 := Lib.hid hn2
      have HN3 := Lib.hid hn3
      clear hx hU hv hn2 hn3
      go_wp2
      go_round
      case rel =>
        refine ⟨k + 1, by omega, by go_num, ?_⟩
        rw [HT.out, upd_snoc, HU.out, byte_nibbles, Int.toNat_natCast, HV.out, HN2.out, HN3.out]
      case measure => simp [intOf]; omega
    · go_wp2
      go_ret
      obtain rfl : k = m := by omega
      rw [List.take_of_length_le (by omega)]
      exact ⟨rfl, rfl⟩

theorem flip_u32 (u : Nat) (h : u < 4294967296) : bits .xor .u32 IntKind.u32.max (u : Int) = ((4294967295 - u : Nat) : Int) := by
  have := xor_u32 4294967295 u (by decide) h
  rw [flip_xor u h, Nat.xor_comm, ← this]
  rfl

/-- all the bytes of rows -/
def flatB (rs : List RowV) : List Int := (rs.map RowV.bs).flatten
theorem flatB_snoc (rs : List RowV) (k : Nat) (h : k < rs.length) : flatB (rs.take (k + 1)) = flatB (rs.take k) ++ rs[k].bs := by
  unfold flatB
  rw [List.take_succ_eq_append_getElem h, List.map_append, List.flatten_append, List.map_cons, List.map_nil, List.flatten_cons, List.flatten_nil, List.append_nil]

set_option maxHeartbeats 800000 in
theorem Of_any (m c : Nat) (a : Option Addr) (rs : List RowV) (w : World) (hlen : rs.length = m) (hm : m ≤ 1000000) (hrow : ∀ r ∈ rs, r.bs.length ≤ 1000000) (ht : Tab w)
    (hsee : Sees w w.heap.size a (rs.map RowV.val)) (hok : ∀ r ∈ rs, r.Ok w w.heap.size) :
    Calls Tryd.prog 66 #[.slice a m c] w fun e w' => e = .returned (.int .u32 (crc (flatB rs) : Nat)) ∧ w = w' := by
  have hall : ∀ k, ∀ b ∈ flatB (rs.take k), 0 ≤ b ∧ b ≤ 255 := by
    intro k b hb
    unfold flatB at hb
    rw [List.mem_flatten] at hb
    obtain ⟨l, hl, hb⟩ := hb
    obtain ⟨r, hr, rfl⟩ := List.mem_map.1 hl
    exact (hok r (List.mem_of_mem_take hr)).byte b hb
  have HA := Lib.hid hall
  clear hall
  go_enter Tryd.func66, Tryd.ntmps66
  go_wp2
  go_loop [3, 8] (fun n i => ∃ k : Nat, k ≤ m ∧ i = .int .i64 k ∧ n = .int .u32 (upd 4294967295 (flatB (rs.take k)) : Nat)) (fun _ i => m - (intOf i).toNat)
  case atStart => exact ⟨0, Nat.zero_le _, rfl, rfl⟩
  case round =>
    obtain ⟨k, hk, rfl, rfl⟩ := hrel
    have hu := upd_lt _ 4294967295 (by decide) (HA.out k)
    by_cases hlt : k < m
    · have hk' : k < rs.length := by omega
      have hel : (rs.map RowV.val)[k]? = some (rs[k].val) := by simp [hk']
      obtain ⟨b, o, rfl, hbB, hc⟩ := hsee.at_ hel
      have hokr := hok rs[k] (List.getElem_mem hk')
      have hr6 := hrow rs[k] (List.getElem_mem hk')
      have HS := Lib.hid (flatB_snoc rs k hk')
      generalize rs[k] = r at *
      obtain ⟨A, C, bs⟩ := r
      simp only [RowV.val] at hc hr6
      generalize hU : upd 4294967295 (flatB (rs.take k)) = u at *
      have HU := Lib.hid hU
      generalize hL : bs.length = L at *
      have HL := Lib.hid hL
      clear hL hU hel
      go_wp2_with (go_at_call 71; ((with_reducible refine (with_any u A L C w.heap.size bs w hu HL.out (by unfold maxLen; omega) ht hokr.see hokr.byte).mono ?_); rintro e w' ⟨rfl, rfl⟩))
      go_round
      case rel => exact ⟨k + 1, by omega, by go_num, by rw [HS.out, upd_append, HU.out]⟩
      case measure => simp [intOf]; omega
    · obtain rfl : k = m := by omega
      have hE : rs.take k = rs := List.take_of_length_le (by omega)
      rw [hE] at hu ⊢
      clear hE
      go_wp2
      go_ret
      exact ⟨congrArg (fun n => Ending.returned (.int .u32 n)) (flip_u32 _ hu), rfl⟩

end Go.Proofs.YtjedkkkhficmoaaDoor.Crc
