/- The document's examples of octet: the contract of awake. -/
import Derived.Test.YtlgondcdfoghpaaOctC
import Derived.Test.YtlgondcdfoghpaaOctD
import Derived.Deep.QuietTactic
import Derived.BigQuiet
import Derived.Lib.SlBytesConst
namespace Go.Proofs.Ytlgondcdfoghpaa.Oct
open Go.RowKit Go.Proofs.Ytlgondcdfoghpaa.Plain Go.Proofs.Ytlgondcdfoghpaa.Sees
set_option linter.unusedVariables false

theorem conv_sees {w : World} {B : Nat} {A : Option Addr} {bs : List Int} {n c : Nat} (h : Sees w B A (nums .u8 bs)) (hn : bs.length = n) :
    (convert 26 9 (.slice A n c)).run Try.prog w = .ok (.string (strOfNums bs)) w := by
  rcases h with h | ⟨b, o, rfl, hb, hc⟩
  · obtain rfl : bs = [] := by simpa [nums] using h
    obtain rfl : n = 0 := by simpa using hn.symm
    cases A with
    | none => exact run_convert_bytes_nil w 26 5 Try.underlying26 Try.underlying5 0 c 9 Try.underlying9
    | some a =>
      have h1 := run_loadCells_list (P := Try.prog) w a [] (fun j v hj => by simp at hj)
      rw [run_convert_bytes_string w 26 9 5 (some a) 0 c Try.underlying26 Try.underlying5 Try.underlying9, run_bytesToString w a 0 c [] h1]
      rfl
  · exact run_convert_bytes_arg w 26 5 Try.underlying26 Try.underlying5 b o n c bs hn (fun i hi => by
      rw [hc i _ (nums_at .u8 bs i (by omega))]; rfl) 9 Try.underlying9

theorem sees_new (w : World) (k : IntKind) (t : TypeId) (xs : List Int) : Sees (w.alloc (.cells (nums k xs).toArray t)) (w.alloc (.cells (nums k xs).toArray t)).heap.size (some ⟨w.heap.size, 0, none⟩) (nums k xs) := by
  refine .inr ⟨_, _, rfl, by simp, fun j u hu => ?_⟩
  have h := cell_of_row (w.alloc (.cells (nums k xs).toArray t)) w.heap.size j (nums k xs).toArray t (0, 0) (heap_alloc_new w _)
  rw [Nat.zero_add, h]
  simpa using hu

theorem Put_lit (g : Nat) (w : World) (hg : g < w.heap.size) (h0 : w.cell? ⟨g, 0, none⟩ = some (.int .u64 258)) (h1 : w.cell? ⟨g, 1, none⟩ = some (.int .u64 1)) :
    Calls Try.prog 14 #[.int .i64 2, .slice (some ⟨g, 0, none⟩) 2 2] w (OwnPost w 4 [2, 1, 1, 0]) :=
  Put_any 2 2 2 (some ⟨g, 0, none⟩) [258, 1] w (by omega) (by omega) rfl (by omega)
    (.inr ⟨g, 0, rfl, hg, fun j u hu => by
      match j, hu with
      | 0, hu => simp [nums] at hu; subst hu; exact h0
      | 1, hu => simp [nums] at hu; subst hu; exact h1⟩) (by simp)

theorem Get_lit (A : Option Addr) (c : Nat) (w : World) (hc : 4 ≤ c) (h : Sees w w.heap.size A (nums .u8 [2, 1, 1, 0])) :
    Calls Try.prog 15 #[.int .i64 2, .slice A 4 c] w (NumsPost w 2 [258, 1]) := by
  have := Get_any 2 2 c A [2, 1, 1, 0] w (by omega) (by omega) rfl (by omega) hc h (by simp)
  rwa [show grp 2 2 [2, 1, 1, 0] = [258, 1] from by decide] at this

theorem Join_lit (g h : Nat) (w : World) (hg : g < w.heap.size) (hh : h < w.heap.size) (h0 : w.cell? ⟨g, 0, none⟩ = some (.slice (some ⟨h, 0, none⟩) 1 1)) (h1 : w.cell? ⟨g, 1, none⟩ = some (.slice none 0 0))
    (h2 : w.cell? ⟨h, 0, none⟩ = some (.int .u8 97)) :
    Calls Try.prog 20 #[.slice (some ⟨g, 0, none⟩) 2 2] w (OwnPost w 5 [1, 0, 97, 0, 0]) := by
  have := Join_any 2 2 (some ⟨g, 0, none⟩) [⟨some ⟨h, 0, none⟩, 1, [97]⟩, ⟨none, 0, []⟩] w rfl (by omega) (by simp)
    (.inr ⟨g, 0, rfl, hg, fun j u hu => by
      match j, hu with
      | 0, hu => simp [RowV.val] at hu; subst hu; exact h0
      | 1, hu => simp [RowV.val] at hu; subst hu; exact h1⟩)
    (fun r hr => by
      simp at hr
      rcases hr with rfl | rfl
      · refine ⟨by simp, .inr ⟨h, 0, rfl, hh, fun j u hu => ?_⟩, by simp⟩
        match j, hu with
        | 0, hu => simp [nums] at hu; subst hu; exact h2
      · exact ⟨by simp, .inl rfl, by simp⟩)
  exact (show joinB [[97], []] = [1, 0, 97, 0, 0] from by decide) ▸ this

def PartLit (w : World) (e : Ending) (w' : World) : Prop :=
  ∃ g c A1 A2 c1 c2, e = .returned (.tuple #[.slice (some ⟨g, 0, none⟩) 2 c, .int .i64 0]) ∧ Below w.heap.size w w' ∧ w'.cell? ⟨g, 0, none⟩ = some (.slice A1 1 c1) ∧ w'.cell? ⟨g, 1, none⟩ = some (.slice A2 0 c2) ∧
    Sees w' w'.heap.size A1 (nums .u8 [97])

theorem parts_lit : parts [1, 0, 97, 0, 0] = some [[97], []] := by
  rw [parts_step [1, 0, 97, 0, 0] 1 (by decide) (by decide)]
  show (if 5 < 3 then none else Option.map _ (parts [0, 0])) = _
  rw [parts_step [0, 0] 0 (by decide) (by decide)]
  show (if 5 < 3 then none else Option.map _ (if 2 < 2 then none else Option.map _ (parts []))) = _
  rw [parts_nil]
  rfl

theorem Part_lit (A : Option Addr) (c : Nat) (w : World) (h : Sees w w.heap.size A (nums .u8 [1, 0, 97, 0, 0])) :
    Calls Try.prog 18 #[.slice A 5 c] w (PartLit w) := by
  refine (Part_any 5 c A [1, 0, 97, 0, 0] w rfl (by omega) h (by simp)).mono fun e w' hp => ?_
  rcases hp with ⟨hp, _⟩ | ⟨v, rs, g, A', C, B, hp, he, hb, hB, ho, hok, _⟩
  · rw [parts_lit] at hp; cases hp
  · rw [parts_lit] at hp
    injection hp with hp
    match rs, hp, hok, ho with
    | [r1, r2], hp, hok, ho =>
      simp at hp
      obtain ⟨hp1, hp2⟩ := hp
      have hp1 : [97] = r1.bs := hp1
      obtain ⟨A0, c0, rfl, _, hs, hlt⟩ := own_form ho
      obtain ⟨b, o, rfl, _, hc⟩ := hs.resolve_left (by simp)
      have hz : o = 0 := by
        rcases ho.2 with ⟨hv, _⟩ | ⟨g', cap, cur, hv, _⟩
        · cases hv
        · injection hv with hv; injection hv with hv; injection hv
      subst hz
      refine ⟨b, c0, r1.A, r2.A, r1.c, r2.c, he, hb, ?_, ?_, ?_⟩
      · have := hc 0 (r1.val) rfl
        rw [RowV.val, ← hp1] at this
        exact this
      · have := hc 1 (r2.val) rfl
        rw [RowV.val, hp2] at this
        exact this
      · rw [hp1]
        exact (hok r1 (by simp)).see.more (by have := hlt b rfl; omega)
    | [], hp, _, _ => simp at hp
    | [_], hp, _, _ => simp at hp
    | _ :: _ :: _ :: _, hp, _, _ => simp at hp

set_option maxHeartbeats 1600000 in
theorem awake_any (w : World) : Calls Try.prog 12 #[] w fun e w' => e = .returned (.bool true) ∧ Below w.heap.size w w' := by
  have kc := fun (w : World) (C : Array Value) (n c : Nat) => Lib.run_convert_bytes_const (P := Try.prog) w 26 5 C n c Try.underlying26 Try.underlying5
  go_enter Try.func12, Try.ntmps12
  go_wp2_with (go_at_call 14; refine (Put_lit _ _ (by simp) (by simp) (by simp)).mono ?_; rintro e w1 ⟨v1, rfl, ho1, hb1⟩; obtain ⟨A1, C1, rfl, hC1, hs1, hlt1⟩ := own_form ho1)
  have hd1 : Below w.heap.size w w1 := ((Below.refl _ _).alloc (Nat.le_refl _) _).trans (hb1.mono (by simp))
  go_wp2_with (go_at_call 15; refine (Get_lit _ _ _ hC1 hs1).mono ?_; rintro e w2 ⟨v2, rfl, ho2, hb2⟩; obtain ⟨A2, C2, rfl, hC2, hs2, hlt2⟩ := own_form ho2)
  go_wp2_with fail
  refine (Join_lit (w2.heap.size + 1) w2.heap.size _ ?_ ?_ ?_ ?_ ?_).mono ?_
  case refine_1 => simp
  case refine_2 => simp; omega
  case refine_3 => go_cell
  case refine_4 => go_cell
  case refine_5 =>
    rw [World.cell?_alloc_lt _ _ _ (by simp), cell_of_row _ _ 0 _ 5 (1, 2) (heap_alloc_new _ _)]
    rfl
  rintro e w3 ⟨v3, rfl, ho3, hb3⟩
  obtain ⟨A3, C3, rfl, hC3, hs3, hlt3⟩ := own_form ho3
  have hd2 : Below w.heap.size w w2 := hd1.trans (hb2.mono hd1.size)
  have hd3 : Below w.heap.size w w3 := ((hd2.alloc hd2.size _).alloc (by have := hd2.size; simp; omega) _).trans (hb3.mono (by have := hd2.size; simp; omega))
  have hd4 : ∀ w4, Below w3.heap.size w3 w4 → Below w.heap.size w w4 := fun w4 h => hd3.trans (h.mono hd3.size)
  have h23 : Below w2.heap.size w2 w3 := (((Below.refl _ _).alloc (Nat.le_refl _) _).alloc (by simp) _).trans (hb3.mono (by simp; omega))
  have s1 : Sees w3 w3.heap.size A1 (nums .u8 [2, 1, 1, 0]) := (((hs1.below hb2 (Nat.le_refl _)).more hb2.size).below h23 (Nat.le_refl _)).more h23.size
  have s2 : Sees w3 w3.heap.size A2 (nums .u64 [258, 1]) := (hs2.below h23 (Nat.le_refl _)).more h23.size
  obtain ⟨b2, o2, rfl, hb2', hc2⟩ := s2.at_ (k := 0) (u := .int .u64 258) rfl
  rw [Nat.add_zero] at hc2
  go_wp2_with (go_at_call 18
               refine (Part_lit _ _ _ hs3).mono ?_
               rintro e w4 ⟨g4, C4, B1, B2, c1, c2, rfl, hb4, hq1, hq2, hs4⟩
               have k1 := conv_sees (c := C1) (n := 4) (s1.below hb4 (Nat.le_refl _)) rfl
               have k2 := conv_sees (c := C3) (n := 5) (hs3.below hb4 (Nat.le_refl _)) rfl
               have k3 := conv_sees (c := c1) (n := 1) hs4 rfl
               rw [show strOfNums [2, 1, 1, 0] = ⟨#[2, 1, 1, 0]⟩ from rfl] at k1
               rw [show strOfNums [1, 0, 97, 0, 0] = ⟨#[1, 0, 97, 0, 0]⟩ from rfl] at k2
               rw [show strOfNums [97] = ⟨#[97]⟩ from rfl] at k3
               have hc2' := (bcell hb4 b2 o2 hb2').trans hc2)
  go_ret
  exact ⟨rfl, hd4 _ hb4⟩

end Go.Proofs.Ytlgondcdfoghpaa.Oct
